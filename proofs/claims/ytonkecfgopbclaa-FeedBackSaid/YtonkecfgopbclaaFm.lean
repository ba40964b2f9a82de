/- Messages of feed ak data: what may be, their chunks, what reading a chunk tells. -/
import Derived.Test.YtonkecfgopbclaaFd
namespace Go.Proofs.Ytonkecfgopbclaa
open Go.RowKit

/-! ### numbers that rise -/
def risB : List Int → Bool
  | x :: y :: r => decide (0 < ahd 65536 x y) && risB (y :: r)
  | _ => true
theorem risB_iff (l : List Int) : risB l = true ↔ ∀ k (h : k + 1 < l.length), 0 < ahd 65536 l[k] l[k + 1] := by
  induction l with
  | nil => simp [risB]
  | cons x l ih =>
    cases l with
    | nil => simp [risB]
    | cons y r =>
      rw [risB, Bool.and_eq_true, ih, decide_eq_true_eq]
      constructor
      · rintro ⟨h1, h2⟩ k hk
        cases k with
        | zero => exact h1
        | succ k => exact h2 k (by simpa using hk)
      · intro h
        exact ⟨h 0 (by simp), fun k hk => h (k + 1) (by simpa using hk)⟩
/-- is a number newer than the last one? -/
def newOk (acc : List Int) (x : Int) : Bool :=
  match acc.getLast? with
  | none => true
  | some y => decide (0 < ahd 65536 y x)
def okL (acc : List Int) : List (Int × Nat) → Bool
  | [] => true
  | p :: ps => newOk acc p.1 && okL (acc ++ nums1 p) ps
theorem newOk_of (acc : List Int) (x : Int) (t : List Int) (h : risB (acc ++ x :: t) = true) : newOk acc x = true := by
  rw [newOk]
  split
  · rfl
  · next y hy =>
    obtain ⟨a, rfl⟩ := List.getLast?_eq_some_iff.1 hy
    have h2 := (risB_iff _).1 h a.length (by simp)
    simp at h2
    simpa using h2
theorem ok_of_ris (ps : List (Int × Nat)) : ∀ acc : List Int, risB (acc ++ numsP ps) = true → okL acc ps = true := by
  induction ps with
  | nil => intro acc _; rfl
  | cons p ps ih =>
    intro acc h
    rw [numsP_cons] at h
    obtain ⟨t, ht⟩ := nums1_head p
    rw [okL, Bool.and_eq_true]
    refine ⟨newOk_of acc p.1 (t ++ numsP ps) (by rw [ht] at h; exact h), ih _ (by rw [List.append_assoc]; exact h)⟩
/-! ### asks and pairs ak bytes -/
def encA (a : Nat × Nat) : List UInt8 := bytesL a.1 4 ++ (bytesL a.2 1 ++ bytesL 0 3)
def encPr (p : Int × Nat) : List UInt8 := bytesL p.1.toNat 2 ++ bytesL p.2 2
def encAs (l : List (Nat × Nat)) : List UInt8 := (l.map encA).flatten
def encPs (l : List (Int × Nat)) : List UInt8 := (l.map encPr).flatten
theorem encA_len (a : Nat × Nat) : (encA a).length = 8 := by simp [encA, bytesL_len]
theorem encPr_len (p : Int × Nat) : (encPr p).length = 4 := by simp [encPr, bytesL_len]
theorem encAs_cons (a : Nat × Nat) (l : List (Nat × Nat)) : encAs (a :: l) = encA a ++ encAs l := rfl
theorem encPs_cons (a : Int × Nat) (l : List (Int × Nat)) : encPs (a :: l) = encPr a ++ encPs l := rfl
theorem encAs_snoc (l : List (Nat × Nat)) (a : Nat × Nat) : encAs (l ++ [a]) = encAs l ++ encA a := by simp [encAs]
theorem encPs_snoc (l : List (Int × Nat)) (a : Int × Nat) : encPs (l ++ [a]) = encPs l ++ encPr a := by simp [encPs]
theorem encAs_len (l : List (Nat × Nat)) : (encAs l).length = 8 * l.length := by
  induction l with
  | nil => rfl
  | cons a l ih => rw [encAs_cons, List.length_append, encA_len, ih, List.length_cons]; omega
theorem encPs_len (l : List (Int × Nat)) : (encPs l).length = 4 * l.length := by
  induction l with
  | nil => rfl
  | cons a l ih => rw [encPs_cons, List.length_append, encPr_len, ih, List.length_cons]; omega
def decA (l : List UInt8) : Nat × Nat := (rdN 4 l, rdN 1 (rawR 4 l))
def decP (l : List UInt8) : Int × Nat := ((rdN 2 l : Nat), rdN 2 (rawR 2 l))
def decAF : Nat → List UInt8 → List (Nat × Nat)
  | 0, _ => []
  | n + 1, l => decA l :: decAF n (rawR 8 l)
def decPF : Nat → List UInt8 → List (Int × Nat)
  | 0, _ => []
  | n + 1, l => decP l :: decPF n (rawR 4 l)
def decAs (l : List UInt8) : List (Nat × Nat) := decAF (l.length / 8) l
def decPs (l : List UInt8) : List (Int × Nat) := decPF (l.length / 4) l
theorem decAF_len (n : Nat) : ∀ l, (decAF n l).length = n := by
  induction n with
  | zero => intro l; rfl
  | succ n ih => intro l; rw [decAF, List.length_cons, ih]
theorem decPF_len (n : Nat) : ∀ l, (decPF n l).length = n := by
  induction n with
  | zero => intro l; rfl
  | succ n ih => intro l; rw [decPF, List.length_cons, ih]
theorem decAs_nil : decAs [] = [] := rfl
theorem decPs_nil : decPs [] = [] := rfl
theorem decAs_step (l : List UInt8) (h : 8 ≤ l.length) : decAs l = decA l :: decAs (rawR 8 l) := by
  rw [decAs, decAs, rawR_len 8 l h, show l.length / 8 = (l.length - 8) / 8 + 1 by omega, decAF]
theorem decPs_step (l : List UInt8) (h : 4 ≤ l.length) : decPs l = decP l :: decPs (rawR 4 l) := by
  rw [decPs, decPs, rawR_len 4 l h, show l.length / 4 = (l.length - 4) / 4 + 1 by omega, decPF]
def okA (a : Nat × Nat) : Prop := a.1 < 4294967296 ∧ a.2 < 256
def okP (p : Int × Nat) : Prop := Fits 65536 p.1 ∧ p.2 < 65536
theorem decA_ok (l : List UInt8) : okA (decA l) := ⟨rdN_lt 4 l, rdN_lt 1 _⟩
theorem decP_ok (l : List UInt8) : okP (decP l) := by
  have := rdN_lt 2 l
  refine ⟨⟨?_, ?_⟩, rdN_lt 2 _⟩ <;> simp only [decP] <;> omega
theorem decAF_ok (n : Nat) : ∀ l, ∀ a ∈ decAF n l, okA a := by
  induction n with
  | zero => intro l a h; cases h
  | succ n ih =>
    intro l a h
    rcases List.mem_cons.1 h with rfl | h
    · exact decA_ok l
    · exact ih _ a h
theorem decPF_ok (n : Nat) : ∀ l, ∀ a ∈ decPF n l, okP a := by
  induction n with
  | zero => intro l a h; cases h
  | succ n ih =>
    intro l a h
    rcases List.mem_cons.1 h with rfl | h
    · exact decP_ok l
    · exact ih _ a h
theorem decA_enc (a : Nat × Nat) (R : List UInt8) (h : okA a) : decA (encA a ++ R) = a ∧ rawR 8 (encA a ++ R) = R := by
  refine ⟨?_, rawR_app _ _ _ (encA_len a).symm⟩
  have e : encA a ++ R = bytesL a.1 4 ++ (bytesL a.2 1 ++ (bytesL 0 3 ++ R)) := by simp [encA]
  have r4 := rawR_num a.1 4 (bytesL a.2 1 ++ (bytesL 0 3 ++ R))
  rw [decA, e, r4, rdN_app _ 4 _ (by have := h.1; simpa using this), rdN_app _ 1 _ (by have := h.2; simpa using this)]
theorem decP_enc (p : Int × Nat) (R : List UInt8) (h : okP p) : decP (encPr p ++ R) = p ∧ rawR 4 (encPr p ++ R) = R := by
  refine ⟨?_, rawR_app _ _ _ (encPr_len p).symm⟩
  have e : encPr p ++ R = bytesL p.1.toNat 2 ++ (bytesL p.2 2 ++ R) := by simp [encPr]
  have r4 := rawR_num p.1.toNat 2 (bytesL p.2 2 ++ R)
  have h0 := h.1.lo
  have h1 := h.1.hi
  have h2 := h.2
  obtain ⟨x, a⟩ := p
  simp only at *
  rw [decP, e, r4, rdN_app _ 2 _ (by omega), rdN_app _ 2 _ (by omega)]
  simp only [Prod.mk.injEq, and_true]
  omega
theorem decAs_enc (l : List (Nat × Nat)) (h : ∀ a ∈ l, okA a) : decAs (encAs l) = l := by
  induction l with
  | nil => rfl
  | cons a l ih =>
    obtain ⟨h1, h2⟩ := decA_enc a (encAs l) (h a (List.mem_cons_self ..))
    rw [encAs_cons, decAs_step _ (by rw [List.length_append, encA_len]; omega), h1, h2, ih (fun a h' => h a (List.mem_cons_of_mem _ h'))]
theorem decPs_enc (l : List (Int × Nat)) (h : ∀ a ∈ l, okP a) : decPs (encPs l) = l := by
  induction l with
  | nil => rfl
  | cons a l ih =>
    obtain ⟨h1, h2⟩ := decP_enc a (encPs l) (h a (List.mem_cons_self ..))
    rw [encPs_cons, decPs_step _ (by rw [List.length_append, encPr_len]; omega), h1, h2, ih (fun a h' => h a (List.mem_cons_of_mem _ h'))]
/-! ### a message -/
structure DM where
  k : Int
  se : Nat
  me : Nat
  ak : List (Nat × Nat)
  lo : List Int
def DM.zero : DM := ⟨0, 0, 0, [], []⟩
structure DM.Ok (m : DM) : Prop where
  se : m.se < 4294967296
  me : m.me < 4294967296
  ak : ∀ a ∈ m.ak, okA a
  lo : ∀ x ∈ m.lo, Fits 65536 x
def fitsL (l : List Int) : Bool := decide ((pairsL l).length ≤ 47)
def rightM (m : DM) : Bool :=
  if m.k = 1 then decide (m.ak.length = 0) && decide (m.lo.length = 0)
  else if m.k = 2 then decide (m.me = 0) && decide (0 < m.ak.length) && decide (m.ak.length ≤ 23) && decide (m.lo.length = 0)
  else if m.k = 3 then decide (m.ak.length = 0) && decide (0 < m.lo.length) && risB m.lo && fitsL m.lo
  else false
def typM (k : Int) : Nat := if k = 1 then 206 else if k = 2 then 206 else 205
def cntM (k : Int) : Nat := if k = 1 then 1 else if k = 2 then 4 else 1
def encM (m : DM) : List UInt8 := bytesL m.se 4 ++ (bytesL m.me 4 ++ (encAs m.ak ++ encPs (pairsL m.lo)))
def chunkM (m : DM) : DC := (cntM m.k, typM m.k, encM m)
def wrEM (m : DM) : Int := if rightM m then 0 else 1
def wrCM (m : DM) : DC := if rightM m then chunkM m else (0, 0, [])
def kindN (n y : Nat) : Int := if y = 206 ∧ n = 1 then 1 else if y = 206 ∧ n = 4 then 2 else if y = 205 ∧ n = 1 then 3 else 0
theorem encM_len (m : DM) : (encM m).length = 8 + 8 * m.ak.length + 4 * (pairsL m.lo).length := by
  simp only [encM, List.length_append, bytesL_len, encAs_len, encPs_len]; omega
/-- what reading tells: of the rest behind the two sources -/
def restE (k : Int) (me : Nat) (R : List UInt8) : Int :=
  if k = 1 then (if R.length = 0 then 0 else 4)
  else if k = 2 then (if me = 0 ∧ R.length ≠ 0 ∧ R.length % 8 = 0 then 0 else 2)
  else (if R.length ≠ 0 ∧ okL [] (decPs R) = true then 0 else 2)
def restM (k : Int) (se me : Nat) (R : List UInt8) : DM :=
  ⟨k, se, me, if k = 2 then decAs R else [], if k = 3 then numsP (decPs R) else []⟩
def rdEM (d : DC) : Int :=
  if rightC d then
    if kindN d.1 d.2.1 = 0 then 5
    else if d.2.2.length < 8 then 3
    else restE (kindN d.1 d.2.1) (rdN 4 (rawR 4 d.2.2)) (rawR 8 d.2.2)
  else 1
def readM (d : DC) : DM := if rdEM d = 0 then restM (kindN d.1 d.2.1) (rdN 4 d.2.2) (rdN 4 (rawR 4 d.2.2)) (rawR 8 d.2.2) else DM.zero
theorem kind_mark (k : Int) (h : k = 1 ∨ k = 2 ∨ k = 3) : kindN (cntM k) (typM k) = k := by
  rcases h with rfl | rfl | rfl <;> decide
theorem mark_kind (n y : Nat) (h : kindN n y ≠ 0) : cntM (kindN n y) = n ∧ typM (kindN n y) = y ∧ (kindN n y = 1 ∨ kindN n y = 2 ∨ kindN n y = 3) := by
  unfold kindN at h ⊢
  split
  · next h1 => obtain ⟨rfl, rfl⟩ := h1; exact ⟨by decide, by decide, .inl rfl⟩
  · rw [if_neg (by assumption)] at h
    split
    · next h1 => obtain ⟨rfl, rfl⟩ := h1; exact ⟨by decide, by decide, .inr (.inl rfl)⟩
    · rw [if_neg (by assumption)] at h
      split
      · next h1 => obtain ⟨rfl, rfl⟩ := h1; exact ⟨by decide, by decide, .inr (.inr rfl)⟩
      · rw [if_neg (by assumption)] at h; exact absurd rfl h
theorem right_kind {m : DM} (h : rightM m = true) : m.k = 1 ∨ m.k = 2 ∨ m.k = 3 := by
  unfold rightM at h
  split at h
  · exact .inl (by assumption)
  · split at h
    · exact .inr (.inl (by assumption))
    · split at h
      · exact .inr (.inr (by assumption))
      · cases h
theorem pairs_ok (l : List Int) (h : ∀ x ∈ l, Fits 65536 x) : ∀ p ∈ pairsL l, okP p := fun p hp => ⟨pairs_fits l h p hp, pairs_lt l p hp⟩
/-- messages come back from their chunks -/
theorem back_m {m : DM} (h : rightM m = true) (ho : m.Ok) : rightC (chunkM m) = true ∧ okC (chunkM m) ∧ rdEM (chunkM m) = 0 ∧ readM (chunkM m) = m := by
  obtain ⟨k, se, me, ak, lo⟩ := m
  have hk := right_kind h
  have hl := encM_len ⟨k, se, me, ak, lo⟩
  have h0 := ho.se
  have h1 := ho.me
  simp only at hk h0 h1 hl
  have r4 : rawR 4 (encM ⟨k, se, me, ak, lo⟩) = bytesL me 4 ++ (encAs ak ++ encPs (pairsL lo)) := rawR_num se 4 _
  have r8 : rawR 8 (encM ⟨k, se, me, ak, lo⟩) = encAs ak ++ encPs (pairsL lo) := by
    rw [← rawR_add 4 4 _ (by decide), r4, rawR_num]
  have n0 : rdN 4 (encM ⟨k, se, me, ak, lo⟩) = se := rdN_app _ 4 _ (by omega)
  have n4 : rdN 4 (rawR 4 (encM ⟨k, se, me, ak, lo⟩)) = me := by rw [r4]; exact rdN_app _ 4 _ (by omega)
  have hkd := kind_mark k hk
  have hc : rightC (chunkM ⟨k, se, me, ak, lo⟩) = true ∧ restE k me (encAs ak ++ encPs (pairsL lo)) = 0 ∧ restM k se me (encAs ak ++ encPs (pairsL lo)) = ⟨k, se, me, ak, lo⟩ := by
    rw [right_iffC]
    simp only [chunkM, hl]
    rcases hk with rfl | rfl | rfl
    · simp [rightM] at h
      obtain ⟨rfl, rfl⟩ := h
      simp [pairsL_nil, cntM, restE, restM, encAs, encPs]
    · simp [rightM] at h
      obtain ⟨⟨⟨rfl, h3⟩, h4⟩, rfl⟩ := h
      have e : encAs ak ++ encPs (pairsL []) = encAs ak := by simp [pairsL_nil, encPs]
      rw [e]
      have hp : 0 < ak.length := h3
      refine ⟨?_, ?_, ?_⟩
      · simp [pairsL_nil, cntM]; omega
      · simp only [restE, encAs_len]
        simp
        omega
      · simp [restM, decAs_enc ak ho.ak]
    · simp [rightM] at h
      obtain ⟨⟨⟨rfl, h3⟩, h4⟩, h5⟩ := h
      have e : encAs [] ++ encPs (pairsL lo) = encPs (pairsL lo) := rfl
      have h6 : (pairsL lo).length ≤ 47 := by simpa [fitsL] using h5
      have hp : 0 < lo.length := h3
      have hq := pairs_len lo
      have hd := decPs_enc (pairsL lo) (pairs_ok lo ho.lo)
      rw [e]
      refine ⟨?_, ?_, ?_⟩
      · simp [cntM]; omega
      · have hok := ok_of_ris (pairsL lo) [] (by rw [nums_pairs]; exact h4)
        simp only [restE, encPs_len, hd]
        rw [if_neg (by decide), if_neg (by decide), if_pos ⟨by omega, hok⟩]
      · simp [restM, hd, nums_pairs]
  have he : rdEM (chunkM ⟨k, se, me, ak, lo⟩) = 0 := by
    rw [rdEM, if_pos hc.1]
    show (if kindN (cntM k) (typM k) = 0 then 5 else if (encM _).length < 8 then 3 else restE (kindN (cntM k) (typM k)) (rdN 4 (rawR 4 (encM _))) (rawR 8 (encM _))) = 0
    rw [hkd, n4, r8, hc.2.1, if_neg (by omega), if_neg (by omega)]
  refine ⟨hc.1, ?_, he, ?_⟩
  · show typM k < 256
    unfold typM; split
    · decide
    · split <;> decide
  · rw [readM, if_pos he]
    show restM (kindN (cntM k) (typM k)) (rdN 4 (encM _)) (rdN 4 (rawR 4 (encM _))) (rawR 8 (encM _)) = _
    rw [hkd, n0, n4, r8, hc.2.2]
theorem readM_ok (d : DC) : (readM d).Ok := by
  rw [readM]
  split
  · refine ⟨rdN_lt 4 _, rdN_lt 4 _, ?_, ?_⟩
    · intro a ha
      simp only [restM] at ha
      split at ha
      · exact decAF_ok _ _ a ha
      · cases ha
    · intro a ha
      simp only [restM] at ha
      split at ha
      · exact numsP_fits _ (fun p hp => (decPF_ok _ _ p hp).1) a ha
      · cases ha
  · exact ⟨by decide, by decide, fun a ha => absurd ha (by simp [DM.zero]), fun a ha => absurd ha (by simp [DM.zero])⟩
/-- what was read, and may be, is written no longer -/
theorem again_m {d : DC} (h : rdEM d = 0) : cntM (readM d).k = d.1 ∧ typM (readM d).k = d.2.1 ∧ (encM (readM d)).length ≤ d.2.2.length := by
  obtain ⟨n, y, B⟩ := d
  have h0 := h
  rw [rdEM] at h
  simp only at h
  split at h
  · split at h
    · cases h
    · next hk =>
      split at h
      · cases h
      · next h8 =>
        obtain ⟨h1, h2, h3⟩ := mark_kind n y hk
        have hR := rawR_len 8 B (by omega)
        rw [readM, if_pos h0, encM_len]
        simp only [restM]
        refine ⟨h1, h2, ?_⟩
        rcases h3 with h3 | h3 | h3 <;> rw [h3]
        · simp [pairsL_nil]; omega
        · have : (decAs (rawR 8 B)).length = (rawR 8 B).length / 8 := decAF_len _ _
          simp [pairsL_nil, this]; omega
        · have h4 := pairs_least (decPs (rawR 8 B)) [] (numsP (decPs (rawR 8 B))) rfl
          have : (decPs (rawR 8 B)).length = (rawR 8 B).length / 4 := decPF_len _ _
          simp only [reduceIte, show (3 : Int) ≠ 2 by decide, List.length_nil]
          omega
  · cases h
theorem readM_kind {d : DC} (h : rdEM d ≠ 0) : readM d = DM.zero := by rw [readM, if_neg h]
end Go.Proofs.Ytonkecfgopbclaa
