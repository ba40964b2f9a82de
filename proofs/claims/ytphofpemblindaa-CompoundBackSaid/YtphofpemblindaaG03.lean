/- Laid together: Fd, Fm, CkP, WireR5, CkU, BNums, BField, BFld, WireR2. -/
import Derived.Test.YtphofpemblindaaG02
import Derived.Test.YtphofpemblindaaG01
/- Messages of feed as data: lost numbers' pairs, what may be, their bytes, what reading tells. -/
namespace Go.Proofs.Ytphofpemblindaa
open Go.RowKit

/-! ### lost numbers' pairs -/
/-- the number of which bit k tells -/
def aft (n : Int) (k : Nat) : Int := (n + k + 1) % 65536
/-- one of the sixteen behind a number is looked at -/
def fpS (n : Int) (k : Nat) (s : Nat × List Int) : Nat × List Int :=
  match s.2 with
  | [] => s
  | x :: r => if x = aft n k then (s.1 ||| 2 ^ k, r) else s
def fpK (n : Int) (l : List Int) : Nat → Nat × List Int
  | 0 => (0, l)
  | k + 1 => fpS n k (fpK n l k)
def fp (n : Int) (l : List Int) : Nat × List Int := fpK n l 16
def numK (n : Int) (a : Nat) : Nat → List Int
  | 0 => [n]
  | k + 1 => numK n a k ++ (if a.testBit k then [aft n k] else [])
def nums1 (p : Int × Nat) : List Int := numK p.1 p.2 16
def numsP (ps : List (Int × Nat)) : List Int := (ps.map nums1).flatten
theorem numsP_cons (p : Int × Nat) (ps : List (Int × Nat)) : numsP (p :: ps) = nums1 p ++ numsP ps := rfl
theorem numsP_snoc (ps : List (Int × Nat)) (p : Int × Nat) : numsP (ps ++ [p]) = numsP ps ++ nums1 p := by simp [numsP]
def pairsF : Nat → List Int → List (Int × Nat)
  | 0, _ => []
  | _, [] => []
  | f + 1, n :: l => (n, (fp n l).1) :: pairsF f (fp n l).2
def pairsL (l : List Int) : List (Int × Nat) := pairsF l.length l
theorem fpS_len (n : Int) (k : Nat) (s : Nat × List Int) : (fpS n k s).2.length ≤ s.2.length := by
  obtain ⟨a, l⟩ := s
  cases l with
  | nil => simp [fpS]
  | cons x r => simp only [fpS]; split <;> simp
theorem fpK_len (n : Int) (l : List Int) (k : Nat) : (fpK n l k).2.length ≤ l.length := by
  induction k with
  | zero => exact Nat.le_refl _
  | succ k ih => exact Nat.le_trans (fpS_len _ _ _) ih
theorem fp_len (n : Int) (l : List Int) : (fp n l).2.length ≤ l.length := fpK_len n l 16
theorem pairsF_fuel : ∀ (f : Nat) (l : List Int), l.length ≤ f → pairsF f l = pairsL l := by
  have h : ∀ (f g : Nat) (l : List Int), l.length ≤ f → l.length ≤ g → pairsF f l = pairsF g l := by
    intro f
    induction f with
    | zero =>
      intro g l h1 h2
      obtain rfl := List.eq_nil_of_length_eq_zero (show l.length = 0 by omega)
      cases g <;> rfl
    | succ f ih =>
      intro g l h1 h2
      cases l with
      | nil => cases g <;> rfl
      | cons n l =>
        cases g with
        | zero => simp at h2
        | succ g =>
          have := fp_len n l
          simp only [List.length_cons] at h1 h2
          rw [pairsF, pairsF, ih g _ (by omega) (by omega)]
  exact fun f l hl => h f l.length l hl (Nat.le_refl _)
theorem pairsL_nil : pairsL [] = [] := rfl
theorem pairsL_cons (n : Int) (l : List Int) : pairsL (n :: l) = (n, (fp n l).1) :: pairsL (fp n l).2 := by
  show pairsF (l.length + 1) (n :: l) = _
  rw [pairsF, pairsF_fuel _ _ (fp_len n l)]
/-- induction along the pairs -/
theorem pairs_ind {C : List Int → Prop} (h0 : C []) (h1 : ∀ n l, C (fp n l).2 → C (n :: l)) (l : List Int) : C l := by
  have h : ∀ (f : Nat) (l : List Int), l.length ≤ f → C l := by
    intro f
    induction f with
    | zero =>
      intro l hl
      obtain rfl := List.eq_nil_of_length_eq_zero (show l.length = 0 by omega)
      exact h0
    | succ f ih =>
      intro l hl
      cases l with
      | nil => exact h0
      | cons n l =>
        have := fp_len n l
        simp only [List.length_cons] at hl
        exact h1 n l (ih _ (by omega))
  exact h l.length l (Nat.le_refl _)
/-- the bits below k alone tell -/
theorem numK_low (n : Int) (a b : Nat) (k : Nat) (h : ∀ j, j < k → a.testBit j = b.testBit j) : numK n a k = numK n b k := by
  induction k with
  | zero => rfl
  | succ k ih => rw [numK, numK, ih (fun j hj => h j (by omega)), h k (by omega)]
theorem or_low (a k j : Nat) (h : j < k) : (a ||| 2 ^ k).testBit j = a.testBit j := by
  rw [Nat.testBit_or, Nat.testBit_two_pow]
  have : ¬ k = j := by omega
  simp [this]
theorem or_at (a k : Nat) : (a ||| 2 ^ k).testBit k = true := by
  rw [Nat.testBit_or, Nat.testBit_two_pow]; simp
theorem fpK_back (n : Int) (l : List Int) (k : Nat) : (fpK n l k).1 < 2 ^ k ∧ numK n (fpK n l k).1 k ++ (fpK n l k).2 = n :: l := by
  induction k with
  | zero => exact ⟨by simp [fpK], rfl⟩
  | succ k ih =>
    obtain ⟨h1, h2⟩ := ih
    rw [fpK]
    generalize fpK n l k = s at *
    obtain ⟨a, r⟩ := s
    simp only at h1 h2
    have h3 : a < 2 ^ (k + 1) := by rw [Nat.pow_succ]; omega
    have h4 : a.testBit k = false := Nat.testBit_lt_two_pow h1
    cases r with
    | nil =>
      refine ⟨h3, ?_⟩
      show numK n a (k + 1) ++ [] = _
      rw [numK, h4]; simpa using h2
    | cons x r =>
      simp only [fpS]
      split
      · next hx =>
        refine ⟨Nat.or_lt_two_pow h3 (Nat.pow_lt_pow_right (by decide) (by omega)), ?_⟩
        simp only [numK]
        rw [numK_low n _ a k (fun j hj => or_low a k j hj), or_at, if_pos rfl, List.append_assoc, ← hx]
        exact h2
      · refine ⟨h3, ?_⟩
        simp only [numK]
        rw [h4]; simpa using h2
theorem fp_lt (n : Int) (l : List Int) : (fp n l).1 < 65536 := (fpK_back n l 16).1
theorem fp_back (n : Int) (l : List Int) : nums1 (n, (fp n l).1) ++ (fp n l).2 = n :: l := (fpK_back n l 16).2
/-- pairs tell the lost numbers, in order -/
theorem nums_pairs (l : List Int) : numsP (pairsL l) = l := by
  refine pairs_ind (C := fun l => numsP (pairsL l) = l) rfl (fun n l ih => ?_) l
  rw [pairsL_cons, numsP_cons, ih, fp_back]
theorem pairs_lt (l : List Int) : ∀ p ∈ pairsL l, p.2 < 65536 := by
  refine pairs_ind (C := fun l => ∀ p ∈ pairsL l, p.2 < 65536) (by simp [pairsL_nil]) (fun n l ih => ?_) l
  rw [pairsL_cons]
  intro p hp
  rcases List.mem_cons.1 hp with rfl | hp
  · exact fp_lt n l
  · exact ih p hp
theorem numK_len (n : Int) (a k : Nat) : 1 ≤ (numK n a k).length ∧ (numK n a k).length ≤ k + 1 := by
  induction k with
  | zero => simp [numK]
  | succ k ih =>
    rw [numK, List.length_append]
    split <;> simp <;> omega
theorem nums1_len (p : Int × Nat) : 1 ≤ (nums1 p).length ∧ (nums1 p).length ≤ 17 := numK_len p.1 p.2 16
theorem numsP_len (ps : List (Int × Nat)) : ps.length ≤ (numsP ps).length ∧ (numsP ps).length ≤ 17 * ps.length := by
  induction ps with
  | nil => simp [numsP]
  | cons p ps ih =>
    have := nums1_len p
    rw [numsP_cons, List.length_append, List.length_cons]; omega
/-- no more pairs than lost numbers, no fewer than seventeen of each let there be -/
theorem pairs_len (l : List Int) : (pairsL l).length ≤ l.length ∧ l.length ≤ 17 * (pairsL l).length := by
  have h := numsP_len (pairsL l)
  rwa [nums_pairs] at h
theorem numK_fits (n : Int) (a k : Nat) (h : Fits 65536 n) : ∀ x ∈ numK n a k, Fits 65536 x := by
  induction k with
  | zero => intro x hx; simp only [numK, List.mem_singleton] at hx; exact hx ▸ h
  | succ k ih =>
    intro x hx
    rw [numK, List.mem_append] at hx
    rcases hx with hx | hx
    · exact ih x hx
    · split at hx
      · simp only [List.mem_singleton] at hx
        subst hx
        unfold aft
        exact ⟨by omega, by omega⟩
      · cases hx
theorem numsP_fits (ps : List (Int × Nat)) (h : ∀ p ∈ ps, Fits 65536 p.1) : ∀ x ∈ numsP ps, Fits 65536 x := by
  intro x hx
  rw [numsP, List.mem_flatten] at hx
  obtain ⟨l, hl, hx⟩ := hx
  obtain ⟨p, hp, rfl⟩ := List.mem_map.1 hl
  exact numK_fits _ _ _ (h p hp) x hx
theorem numK_head (n : Int) (a k : Nat) : ∃ t, numK n a k = n :: t := by
  induction k with
  | zero => exact ⟨[], rfl⟩
  | succ k ih =>
    obtain ⟨t, ht⟩ := ih
    rw [numK, ht]; exact ⟨_, rfl⟩
theorem nums1_head (p : Int × Nat) : ∃ t, nums1 p = p.1 :: t := numK_head _ _ _
theorem pairs_fits (l : List Int) (h : ∀ x ∈ l, Fits 65536 x) : ∀ p ∈ pairsL l, Fits 65536 p.1 := by
  intro p hp
  refine h _ ?_
  rw [← nums_pairs l, numsP, List.mem_flatten]
  obtain ⟨t, ht⟩ := nums1_head p
  exact ⟨nums1 p, List.mem_map.2 ⟨p, hp, rfl⟩, by rw [ht]; exact List.mem_cons_self ..⟩

/-! ### no fewer pairs tell the same -/
/-- numbers that are behind m by more than k, at most by 16, and rise -/
def Asc (m : Int) : Nat → List Int → Prop
  | _, [] => True
  | k, x :: l => ∃ d, k ≤ d ∧ d < 16 ∧ x = aft m d ∧ Asc m (d + 1) l
theorem Asc.mono {m : Int} {k j : Nat} {l : List Int} (h : Asc m k l) (hj : j ≤ k) : Asc m j l := by
  cases l with
  | nil => trivial
  | cons x l =>
    obtain ⟨d, h1, h2⟩ := h
    exact ⟨d, by omega, h2⟩
theorem aft_inj {m : Int} {i j : Nat} (hi : i < 16) (hj : j < 16) (h : aft m i = aft m j) : i = j := by
  unfold aft at h; omega
/-- looked at from k on -/
theorem fpK_asc (m : Int) (l t : List Int) (k : Nat) (hk : k ≤ 16) (S : List Int) (hS : Asc m 0 S) (h : l = S ++ t) :
    (∃ S', Asc m k S' ∧ (fpK m l k).2 = S' ++ t) ∨ (∃ p, t = p ++ (fpK m l k).2) := by
  induction k with
  | zero => exact .inl ⟨S, hS, h⟩
  | succ k ih =>
    rw [fpK]
    have ih := ih (by omega)
    generalize fpK m l k = s at *
    obtain ⟨a, r⟩ := s
    simp only at ih
    rcases ih with ⟨S', h1, rfl⟩ | ⟨p, rfl⟩
    · cases S' with
      | nil =>
        refine .inr ?_
        cases t with
        | nil => exact ⟨[], by simp [fpS]⟩
        | cons x t =>
          simp only [fpS, List.nil_append]
          split
          · exact ⟨[x], rfl⟩
          · exact ⟨[], rfl⟩
      | cons y S' =>
        obtain ⟨d, h2, h3, rfl, h4⟩ := h1
        refine .inl ?_
        simp only [fpS, List.cons_append]
        split
        · next hx =>
          obtain rfl := aft_inj h3 (by omega) hx
          exact ⟨S', h4, rfl⟩
        · next hx =>
          refine ⟨aft m d :: S', ⟨d, ?_, h3, rfl, h4⟩, rfl⟩
          rcases Nat.lt_or_ge k d with h5 | h5
          · exact h5
          · obtain rfl : d = k := by omega
            exact absurd rfl hx
    · refine .inr ?_
      cases r with
      | nil => exact ⟨p, by simp [fpS]⟩
      | cons x r =>
        simp only [fpS]
        split
        · exact ⟨p ++ [x], by simp⟩
        · exact ⟨p, rfl⟩
theorem fp_asc (m : Int) (S t : List Int) (hS : Asc m 0 S) : ∃ p, t = p ++ (fp m (S ++ t)).2 := by
  rcases fpK_asc m (S ++ t) t 16 (Nat.le_refl _) S hS rfl with ⟨S', h1, h2⟩ | h
  · cases S' with
    | nil => exact ⟨[], by rw [fp, h2]; rfl⟩
    | cons x S' =>
      obtain ⟨d, h3, h4, _⟩ := h1
      omega
  · exact h
/-- a suffix of what a pair tells, but nothing -/
theorem aft_aft (n : Int) (i j : Nat) (h : i < j) : aft n j = aft (aft n i) (j - i - 1) := by
  unfold aft; omega
/-- what a pair tells behind its number, from k bits on -/
def numF (n : Int) (a : Nat) (k : Nat) : Nat → List Int
  | 0 => []
  | f + 1 => (if a.testBit k then [aft n k] else []) ++ numF n a (k + 1) f
theorem numK_F (n : Int) (a f : Nat) : ∀ k, numK n a (k + f) = numK n a k ++ numF n a k f := by
  induction f with
  | zero => intro k; simp [numF]
  | succ f ih =>
    intro k
    rw [show k + (f + 1) = (k + 1) + f by omega, ih (k + 1), numK, numF, List.append_assoc]
theorem nums1_F (p : Int × Nat) : nums1 p = p.1 :: numF p.1 p.2 0 16 := by
  have h := numK_F p.1 p.2 16 0
  rw [Nat.zero_add] at h
  exact h
theorem numF_asc (n : Int) (a : Nat) (f k : Nat) (h : k + f = 16) : Asc n k (numF n a k f) := by
  induction f generalizing k with
  | zero => trivial
  | succ f ih =>
    rw [numF]
    have := ih (k + 1) (by omega)
    split
    · exact ⟨k, Nat.le_refl _, by omega, rfl, this⟩
    · exact this.mono (by omega)
/-- from one of them on -/
theorem Asc.shift {n : Int} {d : Nat} {l : List Int} : ∀ {k : Nat}, Asc n k l → d < k → Asc (aft n d) (k - d - 1) l := by
  induction l with
  | nil => intro k _ _; trivial
  | cons x l ih =>
    intro k h hd
    obtain ⟨e, h1, h2, rfl, h3⟩ := h
    refine ⟨e - d - 1, by omega, by omega, aft_aft n d e (by omega), ?_⟩
    have := ih h3 (by omega)
    rwa [show e + 1 - d - 1 = e - d - 1 + 1 by omega] at this
theorem asc_suffix {n : Int} {l : List Int} : ∀ {k : Nat}, Asc n k l → ∀ (q : List Int) (x : Int) (S : List Int), l = q ++ x :: S → Asc x 0 S := by
  induction l with
  | nil => intro k _ q x S h; cases q <;> cases h
  | cons y l ih =>
    intro k h0 q x S h
    obtain ⟨d, h1, h2, rfl, h3⟩ := h0
    cases q with
    | nil =>
      simp only [List.nil_append, List.cons.injEq] at h
      obtain ⟨rfl, rfl⟩ := h
      exact (h3.shift (show d < d + 1 by omega)).mono (Nat.zero_le _)
    | cons y q =>
      simp only [List.cons_append, List.cons.injEq] at h
      exact ih h3 q x S h.2
theorem nums1_suffix (p : Int × Nat) (q : List Int) (x : Int) (S : List Int) (h : nums1 p = q ++ x :: S) : Asc x 0 S := by
  have hA := numF_asc p.1 p.2 16 0 rfl
  rw [nums1_F] at h
  cases q with
  | nil =>
    simp only [List.nil_append, List.cons.injEq] at h
    obtain ⟨rfl, rfl⟩ := h
    exact hA
  | cons y q =>
    simp only [List.cons_append, List.cons.injEq] at h
    exact asc_suffix hA q x S h.2
theorem pairs_least (ps : List (Int × Nat)) : ∀ (q l : List Int), numsP ps = q ++ l → (pairsL l).length ≤ ps.length := by
  induction ps with
  | nil =>
    intro q l h
    have : l = [] := by
      cases q with
      | nil => exact h.symm
      | cons y q => cases h
    subst this
    simp [pairsL_nil]
  | cons p ps ih =>
    intro q l h
    rw [numsP_cons] at h
    rcases List.append_eq_append_iff.1 h with ⟨a, rfl, h2⟩ | ⟨c, h1, rfl⟩
    · have := ih a l h2
      rw [List.length_cons]; omega
    · cases c with
      | nil =>
        have := ih [] (numsP ps) rfl
        rw [List.length_cons]; simpa using by omega
      | cons x S =>
        have hA := nums1_suffix p q x S h1
        rw [List.cons_append, pairsL_cons, List.length_cons, List.length_cons]
        obtain ⟨p', hp⟩ := fp_asc x S (numsP ps) hA
        have := ih p' _ hp
        omega
end Go.Proofs.Ytphofpemblindaa
/- Messages of feed ak data: what may be, their chunks, what reading a chunk tells. -/
namespace Go.Proofs.Ytphofpemblindaa
open Go.RowKit

/-! ### numbers that rise -/
def risB : List Int → Bool
  | x :: y :: r => decide (0 < ahd 65536 x y) && risB (y :: r)
  | _ => true
theorem risB_iff (l : List Int) : risB l = true ↔ ∀ k (h : k + 1 < l.length), 0 < ahd 65536 l[k] l[k + 1] := by
  induction l with
  | nil => simp [risB]
  | cons x l ih =>
    cases l with
    | nil => simp [risB]
    | cons y r =>
      rw [risB, Bool.and_eq_true, ih, decide_eq_true_eq]
      constructor
      · rintro ⟨h1, h2⟩ k hk
        cases k with
        | zero => exact h1
        | succ k => exact h2 k (by simpa using hk)
      · intro h
        exact ⟨h 0 (by simp), fun k hk => h (k + 1) (by simpa using hk)⟩
/-- is a number newer than the last one? -/
def newOk (acc : List Int) (x : Int) : Bool :=
  match acc.getLast? with
  | none => true
  | some y => decide (0 < ahd 65536 y x)
def okL (acc : List Int) : List (Int × Nat) → Bool
  | [] => true
  | p :: ps => newOk acc p.1 && okL (acc ++ nums1 p) ps
theorem newOk_of (acc : List Int) (x : Int) (t : List Int) (h : risB (acc ++ x :: t) = true) : newOk acc x = true := by
  rw [newOk]
  split
  · rfl
  · next y hy =>
    obtain ⟨a, rfl⟩ := List.getLast?_eq_some_iff.1 hy
    have h2 := (risB_iff _).1 h a.length (by simp)
    simp at h2
    simpa using h2
theorem ok_of_ris (ps : List (Int × Nat)) : ∀ acc : List Int, risB (acc ++ numsP ps) = true → okL acc ps = true := by
  induction ps with
  | nil => intro acc _; rfl
  | cons p ps ih =>
    intro acc h
    rw [numsP_cons] at h
    obtain ⟨t, ht⟩ := nums1_head p
    rw [okL, Bool.and_eq_true]
    refine ⟨newOk_of acc p.1 (t ++ numsP ps) (by rw [ht] at h; exact h), ih _ (by rw [List.append_assoc]; exact h)⟩
/-! ### asks and pairs ak bytes -/
def encA (a : Nat × Nat) : List UInt8 := bytesL a.1 4 ++ (bytesL a.2 1 ++ bytesL 0 3)
def encPr (p : Int × Nat) : List UInt8 := bytesL p.1.toNat 2 ++ bytesL p.2 2
def encAs (l : List (Nat × Nat)) : List UInt8 := (l.map encA).flatten
def encPs (l : List (Int × Nat)) : List UInt8 := (l.map encPr).flatten
theorem encA_len (a : Nat × Nat) : (encA a).length = 8 := by simp [encA, bytesL_len]
theorem encPr_len (p : Int × Nat) : (encPr p).length = 4 := by simp [encPr, bytesL_len]
theorem encAs_cons (a : Nat × Nat) (l : List (Nat × Nat)) : encAs (a :: l) = encA a ++ encAs l := rfl
theorem encPs_cons (a : Int × Nat) (l : List (Int × Nat)) : encPs (a :: l) = encPr a ++ encPs l := rfl
theorem encAs_snoc (l : List (Nat × Nat)) (a : Nat × Nat) : encAs (l ++ [a]) = encAs l ++ encA a := by simp [encAs]
theorem encPs_snoc (l : List (Int × Nat)) (a : Int × Nat) : encPs (l ++ [a]) = encPs l ++ encPr a := by simp [encPs]
theorem encAs_len (l : List (Nat × Nat)) : (encAs l).length = 8 * l.length := by
  induction l with
  | nil => rfl
  | cons a l ih => rw [encAs_cons, List.length_append, encA_len, ih, List.length_cons]; omega
theorem encPs_len (l : List (Int × Nat)) : (encPs l).length = 4 * l.length := by
  induction l with
  | nil => rfl
  | cons a l ih => rw [encPs_cons, List.length_append, encPr_len, ih, List.length_cons]; omega
def decA (l : List UInt8) : Nat × Nat := (rdN 4 l, rdN 1 (rawR 4 l))
def decP (l : List UInt8) : Int × Nat := ((rdN 2 l : Nat), rdN 2 (rawR 2 l))
def decAF : Nat → List UInt8 → List (Nat × Nat)
  | 0, _ => []
  | n + 1, l => decA l :: decAF n (rawR 8 l)
def decPF : Nat → List UInt8 → List (Int × Nat)
  | 0, _ => []
  | n + 1, l => decP l :: decPF n (rawR 4 l)
def decAs (l : List UInt8) : List (Nat × Nat) := decAF (l.length / 8) l
def decPs (l : List UInt8) : List (Int × Nat) := decPF (l.length / 4) l
theorem decAF_len (n : Nat) : ∀ l, (decAF n l).length = n := by
  induction n with
  | zero => intro l; rfl
  | succ n ih => intro l; rw [decAF, List.length_cons, ih]
theorem decPF_len (n : Nat) : ∀ l, (decPF n l).length = n := by
  induction n with
  | zero => intro l; rfl
  | succ n ih => intro l; rw [decPF, List.length_cons, ih]
theorem decAs_nil : decAs [] = [] := rfl
theorem decPs_nil : decPs [] = [] := rfl
theorem decAs_step (l : List UInt8) (h : 8 ≤ l.length) : decAs l = decA l :: decAs (rawR 8 l) := by
  rw [decAs, decAs, rawR_len 8 l h, show l.length / 8 = (l.length - 8) / 8 + 1 by omega, decAF]
theorem decPs_step (l : List UInt8) (h : 4 ≤ l.length) : decPs l = decP l :: decPs (rawR 4 l) := by
  rw [decPs, decPs, rawR_len 4 l h, show l.length / 4 = (l.length - 4) / 4 + 1 by omega, decPF]
def okA (a : Nat × Nat) : Prop := a.1 < 4294967296 ∧ a.2 < 256
def okP (p : Int × Nat) : Prop := Fits 65536 p.1 ∧ p.2 < 65536
theorem decA_ok (l : List UInt8) : okA (decA l) := ⟨rdN_lt 4 l, rdN_lt 1 _⟩
theorem decP_ok (l : List UInt8) : okP (decP l) := by
  have := rdN_lt 2 l
  refine ⟨⟨?_, ?_⟩, rdN_lt 2 _⟩ <;> simp only [decP] <;> omega
theorem decAF_ok (n : Nat) : ∀ l, ∀ a ∈ decAF n l, okA a := by
  induction n with
  | zero => intro l a h; cases h
  | succ n ih =>
    intro l a h
    rcases List.mem_cons.1 h with rfl | h
    · exact decA_ok l
    · exact ih _ a h
theorem decPF_ok (n : Nat) : ∀ l, ∀ a ∈ decPF n l, okP a := by
  induction n with
  | zero => intro l a h; cases h
  | succ n ih =>
    intro l a h
    rcases List.mem_cons.1 h with rfl | h
    · exact decP_ok l
    · exact ih _ a h
theorem decA_enc (a : Nat × Nat) (R : List UInt8) (h : okA a) : decA (encA a ++ R) = a ∧ rawR 8 (encA a ++ R) = R := by
  refine ⟨?_, rawR_app _ _ _ (encA_len a).symm⟩
  have e : encA a ++ R = bytesL a.1 4 ++ (bytesL a.2 1 ++ (bytesL 0 3 ++ R)) := by simp [encA]
  have r4 := rawR_num a.1 4 (bytesL a.2 1 ++ (bytesL 0 3 ++ R))
  rw [decA, e, r4, rdN_app _ 4 _ (by have := h.1; simpa using this), rdN_app _ 1 _ (by have := h.2; simpa using this)]
theorem decP_enc (p : Int × Nat) (R : List UInt8) (h : okP p) : decP (encPr p ++ R) = p ∧ rawR 4 (encPr p ++ R) = R := by
  refine ⟨?_, rawR_app _ _ _ (encPr_len p).symm⟩
  have e : encPr p ++ R = bytesL p.1.toNat 2 ++ (bytesL p.2 2 ++ R) := by simp [encPr]
  have r4 := rawR_num p.1.toNat 2 (bytesL p.2 2 ++ R)
  have h0 := h.1.lo
  have h1 := h.1.hi
  have h2 := h.2
  obtain ⟨x, a⟩ := p
  simp only at *
  rw [decP, e, r4, rdN_app _ 2 _ (by omega), rdN_app _ 2 _ (by omega)]
  simp only [Prod.mk.injEq, and_true]
  omega
theorem decAs_enc (l : List (Nat × Nat)) (h : ∀ a ∈ l, okA a) : decAs (encAs l) = l := by
  induction l with
  | nil => rfl
  | cons a l ih =>
    obtain ⟨h1, h2⟩ := decA_enc a (encAs l) (h a (List.mem_cons_self ..))
    rw [encAs_cons, decAs_step _ (by rw [List.length_append, encA_len]; omega), h1, h2, ih (fun a h' => h a (List.mem_cons_of_mem _ h'))]
theorem decPs_enc (l : List (Int × Nat)) (h : ∀ a ∈ l, okP a) : decPs (encPs l) = l := by
  induction l with
  | nil => rfl
  | cons a l ih =>
    obtain ⟨h1, h2⟩ := decP_enc a (encPs l) (h a (List.mem_cons_self ..))
    rw [encPs_cons, decPs_step _ (by rw [List.length_append, encPr_len]; omega), h1, h2, ih (fun a h' => h a (List.mem_cons_of_mem _ h'))]
/-! ### a message -/
structure DM where
  k : Int
  se : Nat
  me : Nat
  ak : List (Nat × Nat)
  lo : List Int
def DM.zero : DM := ⟨0, 0, 0, [], []⟩
structure DM.Ok (m : DM) : Prop where
  se : m.se < 4294967296
  me : m.me < 4294967296
  ak : ∀ a ∈ m.ak, okA a
  lo : ∀ x ∈ m.lo, Fits 65536 x
def fitsL (l : List Int) : Bool := decide ((pairsL l).length ≤ 47)
def rightM (m : DM) : Bool :=
  if m.k = 1 then decide (m.ak.length = 0) && decide (m.lo.length = 0)
  else if m.k = 2 then decide (m.me = 0) && decide (0 < m.ak.length) && decide (m.ak.length ≤ 23) && decide (m.lo.length = 0)
  else if m.k = 3 then decide (m.ak.length = 0) && decide (0 < m.lo.length) && risB m.lo && fitsL m.lo
  else false
def typM (k : Int) : Nat := if k = 1 then 206 else if k = 2 then 206 else 205
def cntM (k : Int) : Nat := if k = 1 then 1 else if k = 2 then 4 else 1
def encM (m : DM) : List UInt8 := bytesL m.se 4 ++ (bytesL m.me 4 ++ (encAs m.ak ++ encPs (pairsL m.lo)))
def chunkM (m : DM) : DC := (cntM m.k, typM m.k, encM m)
def wrEM (m : DM) : Int := if rightM m then 0 else 1
def wrCM (m : DM) : DC := if rightM m then chunkM m else (0, 0, [])
def kindN (n y : Nat) : Int := if y = 206 ∧ n = 1 then 1 else if y = 206 ∧ n = 4 then 2 else if y = 205 ∧ n = 1 then 3 else 0
theorem encM_len (m : DM) : (encM m).length = 8 + 8 * m.ak.length + 4 * (pairsL m.lo).length := by
  simp only [encM, List.length_append, bytesL_len, encAs_len, encPs_len]; omega
/-- what reading tells: of the rest behind the two sources -/
def restE (k : Int) (me : Nat) (R : List UInt8) : Int :=
  if k = 1 then (if R.length = 0 then 0 else 4)
  else if k = 2 then (if me = 0 ∧ R.length ≠ 0 ∧ R.length % 8 = 0 then 0 else 2)
  else (if R.length ≠ 0 ∧ okL [] (decPs R) = true then 0 else 2)
def restM (k : Int) (se me : Nat) (R : List UInt8) : DM :=
  ⟨k, se, me, if k = 2 then decAs R else [], if k = 3 then numsP (decPs R) else []⟩
def rdEM (d : DC) : Int :=
  if rightC d then
    if kindN d.1 d.2.1 = 0 then 5
    else if d.2.2.length < 8 then 3
    else restE (kindN d.1 d.2.1) (rdN 4 (rawR 4 d.2.2)) (rawR 8 d.2.2)
  else 1
def readM (d : DC) : DM := if rdEM d = 0 then restM (kindN d.1 d.2.1) (rdN 4 d.2.2) (rdN 4 (rawR 4 d.2.2)) (rawR 8 d.2.2) else DM.zero
theorem kind_mark (k : Int) (h : k = 1 ∨ k = 2 ∨ k = 3) : kindN (cntM k) (typM k) = k := by
  rcases h with rfl | rfl | rfl <;> decide
theorem mark_kind (n y : Nat) (h : kindN n y ≠ 0) : cntM (kindN n y) = n ∧ typM (kindN n y) = y ∧ (kindN n y = 1 ∨ kindN n y = 2 ∨ kindN n y = 3) := by
  unfold kindN at h ⊢
  split
  · next h1 => obtain ⟨rfl, rfl⟩ := h1; exact ⟨by decide, by decide, .inl rfl⟩
  · rw [if_neg (by assumption)] at h
    split
    · next h1 => obtain ⟨rfl, rfl⟩ := h1; exact ⟨by decide, by decide, .inr (.inl rfl)⟩
    · rw [if_neg (by assumption)] at h
      split
      · next h1 => obtain ⟨rfl, rfl⟩ := h1; exact ⟨by decide, by decide, .inr (.inr rfl)⟩
      · rw [if_neg (by assumption)] at h; exact absurd rfl h
theorem right_kind {m : DM} (h : rightM m = true) : m.k = 1 ∨ m.k = 2 ∨ m.k = 3 := by
  unfold rightM at h
  split at h
  · exact .inl (by assumption)
  · split at h
    · exact .inr (.inl (by assumption))
    · split at h
      · exact .inr (.inr (by assumption))
      · cases h
theorem pairs_ok (l : List Int) (h : ∀ x ∈ l, Fits 65536 x) : ∀ p ∈ pairsL l, okP p := fun p hp => ⟨pairs_fits l h p hp, pairs_lt l p hp⟩
/-- messages come back from their chunks -/
theorem back_m {m : DM} (h : rightM m = true) (ho : m.Ok) : rightC (chunkM m) = true ∧ okC (chunkM m) ∧ rdEM (chunkM m) = 0 ∧ readM (chunkM m) = m := by
  obtain ⟨k, se, me, ak, lo⟩ := m
  have hk := right_kind h
  have hl := encM_len ⟨k, se, me, ak, lo⟩
  have h0 := ho.se
  have h1 := ho.me
  simp only at hk h0 h1 hl
  have r4 : rawR 4 (encM ⟨k, se, me, ak, lo⟩) = bytesL me 4 ++ (encAs ak ++ encPs (pairsL lo)) := rawR_num se 4 _
  have r8 : rawR 8 (encM ⟨k, se, me, ak, lo⟩) = encAs ak ++ encPs (pairsL lo) := by
    rw [← rawR_add 4 4 _ (by decide), r4, rawR_num]
  have n0 : rdN 4 (encM ⟨k, se, me, ak, lo⟩) = se := rdN_app _ 4 _ (by omega)
  have n4 : rdN 4 (rawR 4 (encM ⟨k, se, me, ak, lo⟩)) = me := by rw [r4]; exact rdN_app _ 4 _ (by omega)
  have hkd := kind_mark k hk
  have hc : rightC (chunkM ⟨k, se, me, ak, lo⟩) = true ∧ restE k me (encAs ak ++ encPs (pairsL lo)) = 0 ∧ restM k se me (encAs ak ++ encPs (pairsL lo)) = ⟨k, se, me, ak, lo⟩ := by
    rw [right_iffC]
    simp only [chunkM, hl]
    rcases hk with rfl | rfl | rfl
    · simp [rightM] at h
      obtain ⟨rfl, rfl⟩ := h
      simp [pairsL_nil, cntM, restE, restM, encAs, encPs]
    · simp [rightM] at h
      obtain ⟨⟨⟨rfl, h3⟩, h4⟩, rfl⟩ := h
      have e : encAs ak ++ encPs (pairsL []) = encAs ak := by simp [pairsL_nil, encPs]
      rw [e]
      have hp : 0 < ak.length := h3
      refine ⟨?_, ?_, ?_⟩
      · simp [pairsL_nil, cntM]; omega
      · simp only [restE, encAs_len]
        simp
        omega
      · simp [restM, decAs_enc ak ho.ak]
    · simp [rightM] at h
      obtain ⟨⟨⟨rfl, h3⟩, h4⟩, h5⟩ := h
      have e : encAs [] ++ encPs (pairsL lo) = encPs (pairsL lo) := rfl
      have h6 : (pairsL lo).length ≤ 47 := by simpa [fitsL] using h5
      have hp : 0 < lo.length := h3
      have hq := pairs_len lo
      have hd := decPs_enc (pairsL lo) (pairs_ok lo ho.lo)
      rw [e]
      refine ⟨?_, ?_, ?_⟩
      · simp [cntM]; omega
      · have hok := ok_of_ris (pairsL lo) [] (by rw [nums_pairs]; exact h4)
        simp only [restE, encPs_len, hd]
        rw [if_neg (by decide), if_neg (by decide), if_pos ⟨by omega, hok⟩]
      · simp [restM, hd, nums_pairs]
  have he : rdEM (chunkM ⟨k, se, me, ak, lo⟩) = 0 := by
    rw [rdEM, if_pos hc.1]
    show (if kindN (cntM k) (typM k) = 0 then 5 else if (encM _).length < 8 then 3 else restE (kindN (cntM k) (typM k)) (rdN 4 (rawR 4 (encM _))) (rawR 8 (encM _))) = 0
    rw [hkd, n4, r8, hc.2.1, if_neg (by omega), if_neg (by omega)]
  refine ⟨hc.1, ?_, he, ?_⟩
  · show typM k < 256
    unfold typM; split
    · decide
    · split <;> decide
  · rw [readM, if_pos he]
    show restM (kindN (cntM k) (typM k)) (rdN 4 (encM _)) (rdN 4 (rawR 4 (encM _))) (rawR 8 (encM _)) = _
    rw [hkd, n0, n4, r8, hc.2.2]
theorem readM_ok (d : DC) : (readM d).Ok := by
  rw [readM]
  split
  · refine ⟨rdN_lt 4 _, rdN_lt 4 _, ?_, ?_⟩
    · intro a ha
      simp only [restM] at ha
      split at ha
      · exact decAF_ok _ _ a ha
      · cases ha
    · intro a ha
      simp only [restM] at ha
      split at ha
      · exact numsP_fits _ (fun p hp => (decPF_ok _ _ p hp).1) a ha
      · cases ha
  · exact ⟨by decide, by decide, fun a ha => absurd ha (by simp [DM.zero]), fun a ha => absurd ha (by simp [DM.zero])⟩
/-- what was read, and may be, is written no longer -/
theorem again_m {d : DC} (h : rdEM d = 0) : cntM (readM d).k = d.1 ∧ typM (readM d).k = d.2.1 ∧ (encM (readM d)).length ≤ d.2.2.length := by
  obtain ⟨n, y, B⟩ := d
  have h0 := h
  rw [rdEM] at h
  simp only at h
  split at h
  · split at h
    · cases h
    · next hk =>
      split at h
      · cases h
      · next h8 =>
        obtain ⟨h1, h2, h3⟩ := mark_kind n y hk
        have hR := rawR_len 8 B (by omega)
        rw [readM, if_pos h0, encM_len]
        simp only [restM]
        refine ⟨h1, h2, ?_⟩
        rcases h3 with h3 | h3 | h3 <;> rw [h3]
        · simp [pairsL_nil]; omega
        · have : (decAs (rawR 8 B)).length = (rawR 8 B).length / 8 := decAF_len _ _
          simp [pairsL_nil, this]; omega
        · have h4 := pairs_least (decPs (rawR 8 B)) [] (numsP (decPs (rawR 8 B))) rfl
          have : (decPs (rawR 8 B)).length = (rawR 8 B).length / 4 := decPF_len _ _
          simp only [reduceIte, show (3 : Int) ≠ 2 by decide, List.length_nil]
          omega
  · cases h
theorem readM_kind {d : DC} (h : rdEM d ≠ 0) : readM d = DM.zero := by rw [readM, if_neg h]
end Go.Proofs.Ytphofpemblindaa
/- What reading a chunk tells. -/
namespace Go.Proofs.Ytphofpemblindaa
open Go.RowKit

/-! ### what reading tells -/
def stL (L : List UInt8) : List UInt8 := rawR 2 (rawR 1 (rawR 1 L))
def stE (L : List UInt8) : Int := rawE 2 (rawR 1 (rawR 1 L)) (rawE 1 (rawR 1 L) (rawE 1 L 0))
def fstN (L : List UInt8) : Nat := rdN 1 L
def typN (L : List UInt8) : Nat := rdN 1 (rawR 1 L)
def lenN (L : List UInt8) : Nat := 4 * rdN 2 (rawR 1 (rawR 1 L))
def fmL (f : Nat) (L : List UInt8) : List UInt8 := if f / 64 % 4 = 2 then L else []
def fmE (f : Nat) (e : Int) : Int := if f / 64 % 4 = 2 then e else wrongE e 2
def lastB (B : List UInt8) : Nat := (B.getD (B.length - 1) 0).toNat
def padBad (B L : List UInt8) : Bool := decide (0 < L.length) || decide (lastB B = 0) || decide (lastB B % 4 ≠ 0) || decide (B.length < lastB B)
def upB (B L : List UInt8) : List UInt8 := if padBad B L then [] else B.take (B.length - lastB B)
def upL (B L : List UInt8) : List UInt8 := if padBad B L then [] else L
def upE (B L : List UInt8) (e : Int) : Int := if padBad B L then wrongE e 2 else e
/-- behind the form -/
def bdB (L : List UInt8) : List UInt8 := rawL (lenN L) (fmL (fstN L) (stL L))
def bdL (L : List UInt8) : List UInt8 := rawR (lenN L) (fmL (fstN L) (stL L))
def bdE (L : List UInt8) : Int := rawE (lenN L) (fmL (fstN L) (stL L)) (fmE (fstN L) (stE L))
def isPad (L : List UInt8) : Bool := decide (fstN L / 32 % 2 = 1)
def rdB (L : List UInt8) : List UInt8 := if isPad L then upB (bdB L) (bdL L) else bdB L
def rdL (L : List UInt8) : List UInt8 := if isPad L then upL (bdB L) (bdL L) else bdL L
def rdE (L : List UInt8) : Int := if isPad L then upE (bdB L) (bdL L) (bdE L) else bdE L
def rdD (L : List UInt8) : DC := (fstN L % 32, typN L, rdB L)
/-! ### of few bytes -/
theorem raw_nil (n : Nat) : rawR n [] = [] ∧ rawL n [] = [] := by
  constructor <;> simp [rawR, rawL]
theorem rawE_three (n : Nat) (l : List UInt8) : rawE n l 3 = 3 := by simp [rawE]
theorem rawE_nz (n : Nat) (l : List UInt8) (e : Int) (h : e ≠ 0) : rawE n l e = e := by simp [rawE, h]
theorem st_short (L : List UInt8) (h : L.length < 4) : stE L = 3 ∧ stL L = [] := by
  match L, h with
  | [], _ => simp [stE, stL, rawE, rawR]
  | [a], _ => simp [stE, stL, rawE, rawR]
  | [a, b], _ => simp [stE, stL, rawE, rawR]
  | [a, b, c], _ => simp [stE, stL, rawE, rawR]
theorem fmL_nil (f : Nat) : fmL f [] = [] := by simp [fmL]
theorem up_nz (B L : List UInt8) (e : Int) (he : e ≠ 0) : upE B L e = e := by
  unfold upE wrongE; simp [he]
theorem rd_short (L : List UInt8) (h : L.length < 4) : rdE L = 3 ∧ rdL L = [] := by
  obtain ⟨h1, h2⟩ := st_short L h
  have e1 : fmE (fstN L) (stE L) = 3 := by rw [h1, fmE]; split <;> rfl
  have e2 : bdE L = 3 := by rw [bdE, e1, rawE_three]
  have e3 : bdL L = [] := by rw [bdL, h2, fmL_nil, (raw_nil _).1]
  refine ⟨?_, ?_⟩
  · rw [rdE]; split
    · rw [e2, up_nz _ _ _ (by decide)]
    · exact e2
  · rw [rdL]; split
    · rw [e3, upL]; split <;> rfl
    · exact e3
theorem rd_four (a b c d : UInt8) (M : List UInt8) : fstN (a :: b :: c :: d :: M) = a.toNat ∧ typN (a :: b :: c :: d :: M) = b.toNat ∧ lenN (a :: b :: c :: d :: M) = 4 * (256 * c.toNat + d.toNat) ∧ stL (a :: b :: c :: d :: M) = M ∧ stE (a :: b :: c :: d :: M) = 0 := by
  refine ⟨?_, ?_, ?_, ?_, ?_⟩
  · simp [fstN, rdN, rawL, beN]
  · simp [typN, rdN, rawL, rawR, beN]
  · simp [lenN, rdN, rawL, rawR, beN]; omega
  · simp [stL, rawR]
  · simp [stE, rawR, rawE]
theorem four_of (L : List UInt8) (h : ¬ L.length < 4) : ∃ a b c d M, L = a :: b :: c :: d :: M := by
  match L with
  | [] => exact absurd (by decide) h
  | [_] => exact absurd (by simp) h
  | [_, _] => exact absurd (by simp) h
  | [_, _, _] => exact absurd (by simp) h
  | a :: b :: c :: d :: M => exact ⟨a, b, c, d, M, rfl⟩
/-- what is left is nothing, where anything went wrong -/
theorem rd_wrong (L : List UInt8) (h : rdE L ≠ 0) : rdL L = [] := by
  by_cases h4 : L.length < 4
  · exact (rd_short L h4).2
  · obtain ⟨a, b, c, d, M, rfl⟩ := four_of L h4
    obtain ⟨f1, f2, f3, f4, f5⟩ := rd_four a b c d M
    have key : bdE (a :: b :: c :: d :: M) ≠ 0 → bdL (a :: b :: c :: d :: M) = [] := by
      intro hb
      rw [bdE, f1, f3, f4, f5] at hb
      rw [bdL, f1, f3, f4]
      unfold fmL fmE at *
      by_cases hf : a.toNat / 64 % 4 = 2
      · rw [if_pos hf, if_pos hf] at hb
        rw [if_pos hf]
        unfold rawE at hb
        unfold rawR
        split
        · next hx => rw [if_pos hx] at hb; exact absurd rfl hb
        · rfl
      · rw [if_neg hf, (raw_nil _).1]
    rw [rdE] at h
    rw [rdL]
    cases hp : isPad (a :: b :: c :: d :: M)
    · rw [hp] at h
      exact key (by simpa using h)
    · rw [hp] at h
      simp only [if_true] at h ⊢
      unfold upE at h
      unfold upL
      cases hq : padBad (bdB (a :: b :: c :: d :: M)) (bdL (a :: b :: c :: d :: M))
      · rw [hq] at h
        exact key (by simpa using h)
      · rfl
/-- where nothing went wrong: the chunk may be, and what its bytes are -/
theorem rd_fine (L : List UInt8) (h : rdE L = 0) (h200 : L.length ≤ 200) :
    rightC (rdD L) = true ∧ okC (rdD L) ∧ (encC (rdD L)).length + (rdL L).length ≤ L.length ∧ ((encC (rdD L)).length + (rdL L).length = L.length → encC (rdD L) ++ rdL L = L) := by
  by_cases h4 : L.length < 4
  · rw [(rd_short L h4).1] at h; exact absurd h (by decide)
  · obtain ⟨a, b, c, d, M, rfl⟩ := four_of L h4
    obtain ⟨f1, f2, f3, f4, f5⟩ := rd_four a b c d M
    have ha := UInt8.toNat_lt a
    have hb := UInt8.toNat_lt b
    have hc := UInt8.toNat_lt c
    have hd := UInt8.toNat_lt d
    simp only [List.length_cons] at h200
    generalize hL : a :: b :: c :: d :: M = L at *
    have hbe : bdE L = 0 := by
      rw [rdE] at h
      split at h
      · unfold upE at h
        split at h
        · unfold wrongE at h; split at h
          · exact absurd h (by decide)
          · exact h
        · exact h
      · exact h
    have hf : a.toNat / 64 % 4 = 2 := by
      rw [bdE, f1, f4, f5, fmE] at hbe
      by_cases hf : a.toNat / 64 % 4 = 2
      · exact hf
      · rw [if_neg hf, rawE_nz _ _ _ (by decide)] at hbe
        exact absurd hbe (by decide)
    have hbL : lenN L ≤ M.length ∧ bdB L = M.take (lenN L) ∧ bdL L = M.drop (lenN L) := by
      rw [bdE, f1, f4, f5, fmE, fmL, if_pos hf, if_pos hf] at hbe
      rw [bdB, bdL, f1, f4, fmL, if_pos hf]
      unfold rawE at hbe
      unfold rawL rawR
      by_cases hx : lenN L ≤ M.length
      · rw [if_pos hx, if_pos hx]; exact ⟨hx, rfl, rfl⟩
      · rw [if_neg hx] at hbe; exact absurd hbe (by decide)
    obtain ⟨b1, b2, b3⟩ := hbL
    have hbl : (bdB L).length = lenN L := by rw [b2]; simp; omega
    have hM4 : lenN L % 4 = 0 := by rw [f3]; omega
    have hlen : L.length = M.length + 4 := by rw [← hL]; simp
    cases hp : isPad L
    · have hnp : a.toNat / 32 % 2 = 0 := by
        unfold isPad at hp; rw [f1] at hp; simp at hp; omega
      have e1 : rdB L = bdB L := by rw [rdB, hp]; rfl
      have e2 : rdL L = bdL L := by rw [rdL, hp]; rfl
      refine ⟨?_, ?_, ?_, ?_⟩
      · rw [right_iffC, rdD]
        simp only [e1, hbl]
        omega
      · show (rdD L).2.1 < 256
        simp only [rdD, f2]; exact hb
      · rw [encC_len, rdD, e2, b3]
        simp only [e1, hbl, List.length_drop]; omega
      · intro _
        rw [encC, rdD, e2, b3]
        simp only [e1, hbl]
        rw [b2, List.append_assoc, List.take_append_drop, headC_eq, f1, f2, f3, ← hL]
        have x1 : UInt8.ofNat (128 + a.toNat % 32) = a := by apply UInt8.toNat_inj.1; rw [UInt8.toNat_ofNat']; omega
        have x2 : UInt8.ofNat b.toNat = b := UInt8.ofNat_toNat
        have x3 : UInt8.ofNat (4 * (256 * c.toNat + d.toNat) / 4 / 256) = c := by apply UInt8.toNat_inj.1; rw [UInt8.toNat_ofNat']; omega
        have x4 : UInt8.ofNat (4 * (256 * c.toNat + d.toNat) / 4) = d := by apply UInt8.toNat_inj.1; rw [UInt8.toNat_ofNat']; omega
        rw [x1, x2, x3, x4]; rfl
    · have hpb : padBad (bdB L) (bdL L) = false := by
        rw [rdE, hp] at h
        simp only [if_true] at h
        unfold upE at h
        cases hq : padBad (bdB L) (bdL L)
        · rfl
        · rw [hq, hbe] at h; exact absurd h (by decide)
      have e1 : rdB L = (bdB L).take ((bdB L).length - lastB (bdB L)) := by rw [rdB, hp, if_pos rfl, upB, hpb]; rfl
      have e2 : rdL L = bdL L := by rw [rdL, hp, if_pos rfl, upL, hpb]; rfl
      simp only [padBad, Bool.or_eq_false_iff, decide_eq_false_iff_not] at hpb
      obtain ⟨⟨⟨p1, p2⟩, p3⟩, p4⟩ := hpb
      have e3 : (rdB L).length = lenN L - lastB (bdB L) := by rw [e1, List.length_take, hbl]; omega
      generalize lastB (bdB L) = k at *
      have e4 : (bdL L).length = 0 := by omega
      refine ⟨?_, ?_, ?_, ?_⟩
      · rw [right_iffC, rdD]
        simp only [e3]
        omega
      · show (rdD L).2.1 < 256
        simp only [rdD, f2]; exact hb
      · rw [encC_len, rdD, e2, e4]
        simp only [e3]; omega
      · intro hx
        rw [encC_len, rdD, e2, e4] at hx
        simp only [e3] at hx; omega
/-- a chunk's bytes, whatever stands behind -/
theorem rd_back (d : DC) (R : List UInt8) (h : rightC d = true) (hk : okC d) : rdD (encC d ++ R) = d ∧ rdL (encC d ++ R) = R ∧ rdE (encC d ++ R) = 0 := by
  obtain ⟨n, y, b⟩ := d
  have hr := right_iffC.1 h
  simp only at hr
  have hy : y < 256 := hk
  obtain ⟨r1, r2, r3⟩ := hr
  have hL : encC (n, y, b) ++ R = UInt8.ofNat (128 + n) :: UInt8.ofNat y :: UInt8.ofNat (b.length / 4 / 256) :: UInt8.ofNat (b.length / 4) :: (b ++ R) := by
    rw [encC, headC_eq]; rfl
  obtain ⟨f1, f2, f3, f4, f5⟩ := rd_four (UInt8.ofNat (128 + n)) (UInt8.ofNat y) (UInt8.ofNat (b.length / 4 / 256)) (UInt8.ofNat (b.length / 4)) (b ++ R)
  rw [← hL] at f1 f2 f3 f4 f5
  rw [UInt8.toNat_ofNat'] at f1 f2
  rw [UInt8.toNat_ofNat', UInt8.toNat_ofNat'] at f3
  generalize encC (n, y, b) ++ R = L at *
  have g3 : lenN L = b.length := by omega
  have hf : fstN L / 64 % 4 = 2 := by omega
  have hp : isPad L = false := by unfold isPad; simp; omega
  have hle : b.length ≤ (b ++ R).length := by simp
  have b1 : bdB L = b := by rw [bdB, f4, fmL, if_pos hf, g3, rawL, if_pos hle]; simp
  have b2 : bdL L = R := by rw [bdL, f4, fmL, if_pos hf, g3, rawR, if_pos hle]; simp
  have b3 : bdE L = 0 := by rw [bdE, f4, f5, fmL, if_pos hf, fmE, if_pos hf, g3, rawE, if_pos hle]
  refine ⟨?_, ?_, ?_⟩
  · rw [rdD, rdB, hp, f2]
    simp only [Bool.false_eq_true, if_false, b1]
    rw [show fstN L % 32 = n by omega, show y % 256 = y by omega]
  · rw [rdL, hp]; exact b2
  · rw [rdE, hp]; exact b3
end Go.Proofs.Ytphofpemblindaa
/- The walk of Left of wire's Reader. -/
namespace Go.Proofs.Ytphofpemblindaa
open Go.RowKit
theorem rleft_any (lo rb : Nat) (l : List UInt8) (e : Int) (w : World) (hr : Rd lo w rb l e) :
    Calls Try.prog 33 #[.pointer (some ⟨rb, 0, none⟩)] w fun r w' => r = .returned (.int .i64 (l.length : Nat)) ∧ w' = w := by
  obtain ⟨h1, h2, v, hh, hb⟩ := hr
  obtain ⟨A, c, rfl, hc, hcm, hrow⟩ := bs_parts hb.1
  have c0 := obj_cell hh 0
  have z0 := obj_frozen hh 0
  simp at c0
  clear hh hb h2 hrow
  refine calls_q fun Q HQ => ?_
  go_enter Try.func33, Try.ntmps33
  go_wp2_with fail
  exact HQ.out _ _ ⟨rfl, rfl⟩
end Go.Proofs.Ytphofpemblindaa
/- The walk of unpadded. -/
namespace Go.Proofs.Ytphofpemblindaa
open Go.RowKit

/-- what unpadded answers -/
def UpPost (lo : Nat) (w : World) (rb : Nat) (B L : List UInt8) (e : Int) (r : Ending) (w' : World) : Prop :=
  ∃ v, r = .returned v ∧ BSx (fun k => lo ≤ k ∧ k < rb) w' v (upB B L) ∧ RPost lo w rb (upL B L) (upE B L e) w'
theorem up_bad {lo rb : Nat} {w w' : World} {B L : List UInt8} {e : Int} (h : padBad B L = true) (hp : RPost lo w rb [] (wrongE e 2) w') : UpPost lo w rb B L e (.returned (.slice none 0 0)) w' :=
  ⟨_, rfl, by rw [upB, h]; exact BSx.nil _ _, by rw [upL, upE, h]; exact hp⟩
theorem up_fine {lo rb : Nat} {w : World} {B L : List UInt8} {e : Int} (h : padBad B L = false) (hr : Rd lo w rb L e) {A : Option Addr} {c : Nat} (hB : BSx (fun k => lo ≤ k ∧ k < rb) w (.slice A B.length c) B) {k n : Nat} (hk : lastB B = k) (hn : n = B.length - k) :
    UpPost lo w rb B L e (.returned (.slice A n c)) w := by
  have hc : B.length ≤ c ∧ c ≤ maxLen := by
    obtain ⟨A1, c1, he, h1, h2, _⟩ := hB.1
    simp only [Value.slice.injEq] at he
    rw [he.2.2]; exact ⟨h1, h2⟩
  have hp := hB.piece (A' := A) (c' := c) (i := 0) (j := n) (by omega) (by omega) (.inr (by cases A <;> simp [Addr.add])) (by omega) hc.2
  refine ⟨_, rfl, ?_, ?_⟩
  · rw [upB, h, hk, ← hn]
    simpa using hp
  · rw [upL, upE, h]
    exact ⟨hr, Fr.refl _ _⟩
theorem lastB_at (B : List UInt8) (m : Nat) (h : B.length = m + 1) (hm : m < B.length) : lastB B = B[m].toNat := by
  have : B.length - 1 = m := by omega
  rw [lastB, this, List.getD_eq_getElem?_getD, List.getElem?_eq_getElem hm]; rfl
set_option maxHeartbeats 1000000 in
theorem cunpad_any (lo rb : Nat) (B L : List UInt8) (e : Int) (v : Value) (w : World) (hr : Rd lo w rb L e) (hB : BSx (fun k => lo ≤ k ∧ k < rb) w v B) (hl : B.length ≤ 1000000) :
    Calls Try.prog 51 #[.pointer (some ⟨rb, 0, none⟩), v] w (UpPost lo w rb B L e) := by
  have hLeft := rleft_any lo rb L e w hr
  have HWr := Lib.hid (rwrong_any lo rb L e 2 w hr (by decide))
  have HLf := Lib.hid hLeft
  obtain ⟨A, c, rfl, hc, hcm, hrow⟩ := bs_parts hB.1
  have HF := Lib.hid (fun (h : padBad B L = false) k n hk hn => up_fine h hr hB (k := k) (n := n) hk hn)
  refine calls_q fun Q HQ => ?_
  by_cases h0 : B.length = 0
  · have hbad : padBad B L = true := by
      have : B = [] := List.eq_nil_of_length_eq_zero h0
      subst this; simp [padBad, lastB]
    have HU := Lib.hid (fun w' (hp : RPost lo w rb [] (wrongE e 2) w') => up_bad hbad hp)
    rw [h0] at HF ⊢
    clear hLeft hr hB hrow hbad
    generalize L.length = ll at HLf
    by_cases h1 : (0 : Int) < (ll : Int)
    all_goals
      go_enter Try.func51, Try.ntmps51
      go_wp2_with fail
      refine HLf.out.mono ?_
      rintro r w1 ⟨rfl, rfl⟩
      go_wp2_with fail
      refine HWr.out.mono ?_
      rintro r w2 ⟨rfl, hp⟩
      have HP := Lib.hid (HU.out _ hp)
      clear hp
      go_wp2_with fail
      exact HQ.out _ _ HP.out
  · obtain ⟨m, hm⟩ : ∃ m, B.length = m + 1 := ⟨B.length - 1, by omega⟩
    obtain ⟨b, o, rfl, hb, hcell⟩ := hrow (by omega)
    have hcm1 := hcell m (by omega)
    have hlast := lastB_at B m hm (by omega)
    have hlt := UInt8.toNat_lt (B[m]'(by omega))
    obtain ⟨k, hk⟩ : ∃ k : Nat, (B[m]'(by omega)).toNat = k := ⟨_, rfl⟩
    rw [hk] at hcm1 hlast hlt
    have hpd : padBad B L = (decide (0 < L.length) || decide (k = 0) || decide (k % 4 ≠ 0) || decide (m + 1 < k)) := by rw [padBad, hlast, hm]
    have HU := Lib.hid (fun (hbad : padBad B L = true) w' (hp : RPost lo w rb [] (wrongE e 2) w') => up_bad hbad hp)
    rw [hpd] at HF HU
    rw [hlast, hm] at HF
    rw [hm] at hc ⊢
    clear hLeft hr hB hcell hpd hlast hk hrow h0 hm
    generalize L.length = ll at *
    have hz := Nat.zero_le k
    by_cases h1 : (0 : Int) < (ll : Int)
    · have HU2 := Lib.hid (HU.out (by simp; omega))
      clear HU HF
      go_enter Try.func51, Try.ntmps51
      go_wp2_with fail
      refine HLf.out.mono ?_
      rintro r w1 ⟨rfl, rfl⟩
      go_wp2_with fail
      refine HWr.out.mono ?_
      rintro r w2 ⟨rfl, hp⟩
      have HP := Lib.hid (HU2.out _ hp)
      clear hp
      go_wp2_with fail
      exact HQ.out _ _ HP.out
    · by_cases h2 : k = 0
      · have HU2 := Lib.hid (HU.out (by simp [h2]))
        subst h2
        clear HU HF
        go_enter Try.func51, Try.ntmps51
        go_wp2_with fail
        refine HLf.out.mono ?_
        rintro r w1 ⟨rfl, rfl⟩
        go_wp2_with fail
        refine HWr.out.mono ?_
        rintro r w2 ⟨rfl, hp⟩
        have HP := Lib.hid (HU2.out _ hp)
        clear hp
        go_wp2_with fail
        exact HQ.out _ _ HP.out
      · have hk0 : ((k : Int) == 0) = false := by simp; omega
        by_cases h3 : k % 4 = 0
        · have hk4 : ((k : Int) % 4 != 0) = false := by simp; omega
          by_cases h4 : ((m + 1 : Nat) : Int) < (k : Int)
          · have HU2 := Lib.hid (HU.out (by simp; omega))
            clear HU HF
            go_enter Try.func51, Try.ntmps51
            go_wp2_with fail
            refine HLf.out.mono ?_
            rintro r w1 ⟨rfl, rfl⟩
            go_wp2_with fail
            refine HWr.out.mono ?_
            rintro r w2 ⟨rfl, hp⟩
            have HP := Lib.hid (HU2.out _ hp)
            clear hp
            go_wp2_with fail
            exact HQ.out _ _ HP.out
          · have HF2 := Lib.hid (HF.out (by simp; omega) k (m + 1 - k) rfl rfl)
            have hkm : k ≤ m + 1 := by omega
            clear HU HF
            go_enter Try.func51, Try.ntmps51
            go_wp2_with fail
            refine HLf.out.mono ?_
            rintro r w1 ⟨rfl, rfl⟩
            go_wp2_with fail
            exact HQ.out _ _ HF2.out
        · have hk4 : ((k : Int) % 4 != 0) = true := by simp; omega
          have HU2 := Lib.hid (HU.out (by simp [h3]))
          clear HU HF
          go_enter Try.func51, Try.ntmps51
          go_wp2_with fail
          refine HLf.out.mono ?_
          rintro r w1 ⟨rfl, rfl⟩
          go_wp2_with fail
          refine HWr.out.mono ?_
          rintro r w2 ⟨rfl, hp⟩
          have HP := Lib.hid (HU2.out _ hp)
          clear hp
          go_wp2_with fail
          exact HQ.out _ _ HP.out
end Go.Proofs.Ytphofpemblindaa
/- What the calls of package bits answer; the walks of mayBe and ones. -/
namespace Go.Proofs.Ytphofpemblindaa
open Go.RowKit
/-! ### specifications -/
def mayB (a s : Int) : Bool := decide (0 ≤ a ∧ a ≤ 63 ∧ 0 ≤ s ∧ s ≤ 64 - a)
def fieldN (n : Nat) (a s : Int) : Nat := if mayB a s then n / 2 ^ a.toNat % 2 ^ s.toNat else 0
def placeN (a s : Int) : Nat := (2 ^ s.toNat - 1) * 2 ^ a.toNat
def layN (n : Nat) (a s : Int) (v : Nat) : Nat :=
  if mayB a s then andNotN n (placeN a s) ||| ((v * 2 ^ a.toNat % 18446744073709551616) &&& placeN a s) else n
theorem may_iff {a s : Int} : mayB a s = true ↔ 0 ≤ a ∧ a ≤ 63 ∧ 0 ≤ s ∧ s ≤ 64 - a := by simp [mayB]

theorem ones_eq (s : Nat) (h : s ≤ 64) : IntKind.u64.wrap (IntKind.u64.wrap (2 ^ s) - 1) = ((2 ^ s - 1 : Nat) : Int) := by
  simp only [wrap_u64]
  by_cases e : s = 64
  · subst e; decide
  · have h1 := pow_le_63 (s := s) (by omega)
    have h2 : 0 < (2:Nat) ^ s := Nat.two_pow_pos _
    rw [natpow_cast]; omega

set_option maxHeartbeats 400000 in
theorem ones_any (s : Int) (w : World) (h0 : 0 ≤ s) (h : s ≤ 64) :
    Calls Try.prog 68 #[.int .i64 s] w fun e w' => e = .returned (.int .u64 (2^s.toNat - 1 : Nat)) ∧ w' = w := by
  refine calls_q fun Q HQ => ?_
  go_enter Try.func68, Try.ntmps68
  go_wp2
  exact HQ.out _ _ ⟨ret_int (ones_eq s.toNat (by omega)), rfl⟩

set_option maxHeartbeats 400000 in
theorem may_any (a s : Int) (w : World) :
    Calls Try.prog 67 #[.int .i64 a, .int .i64 s] w fun e w' => e = .returned (.bool (mayB a s)) ∧ w' = w := by
  refine calls_q fun Q HQ => ?_
  go_enter Try.func67, Try.ntmps67
  go_wp2
  all_goals exact HQ.out _ _ ⟨ret_bool (by rw [Bool.eq_iff_iff]; simp [mayB]; omega), rfl⟩
end Go.Proofs.Ytphofpemblindaa
/- The walk of bits.Field. -/
namespace Go.Proofs.Ytphofpemblindaa
open Go.RowKit
theorem field_eq (n a s : Nat) (hn : n < 18446744073709551616) : bits .and .u64 ((n : Int) / 2 ^ a) ((2 ^ s - 1 : Nat) : Int) = ((n / 2 ^ a % 2 ^ s : Nat) : Int) := by
  rw [natpow_cast, show ((n : Int) / ((2 ^ a : Nat) : Int)) = ((n / 2 ^ a : Nat) : Int) by simp, u64_and_nat _ _ (Nat.lt_of_le_of_lt (Nat.div_le_self _ _) hn), Nat.and_two_pow_sub_one_eq_mod]
set_option maxHeartbeats 400000 in
theorem field_any (n a s : Int) (w : World) (hu : U64 n) :
    Calls Try.prog 47 #[.int .u64 n, .int .i64 a, .int .i64 s] w fun e w' => e = .returned (.int .u64 (fieldN n.toNat a s)) ∧ ∃ k, w' = w.drewN k := by
  obtain ⟨n, rfl⟩ := Int.eq_ofNat_of_zero_le hu.lo
  rw [Int.toNat_natCast]
  refine calls_q fun Q HQ => ?_
  have hc := may_any a s w
  by_cases hb : mayB a s = true
  · have hb' := may_iff.1 hb
    rw [hb] at hc
    have H := Lib.hid hc
    have Hb := Lib.hid hb
    clear hc hb
    obtain ⟨a1, a2, s1, s2⟩ := hb'
    go_enter Try.func47, Try.ntmps47
    go_wp2_with (go_at_call 67; refine H.out.mono ?_; rintro e w' ⟨rfl, rfl⟩)
    go_quiet ((go_at_call 68; exact Calls.quiet_of_same (ones_any _ _ (by omega) (by omega))))
    go_wp2
    refine HQ.out _ _ ⟨ret_int ?_, _, rfl⟩
    rw [fieldN, if_pos Hb.out]
    exact field_eq n a.toNat s.toNat (by have := hu.hi; omega)
  · have hb' : mayB a s = false := by simpa using hb
    rw [hb'] at hc
    have H := Lib.hid hc
    have Hb := Lib.hid hb
    clear hc hb hb'
    go_enter Try.func47, Try.ntmps47
    go_wp2_with (go_at_call 67; refine H.out.mono ?_; rintro e w' ⟨rfl, rfl⟩)
    refine HQ.out _ _ ⟨ret_int ?_, 0, rfl⟩
    rw [fieldN, if_neg Hb.out]; rfl
end Go.Proofs.Ytphofpemblindaa
/- Bits of a byte: bits.Field with numbers that are there. -/
namespace Go.Proofs.Ytphofpemblindaa
open Go.RowKit
theorem fieldN_eq (n a s : Nat) (h : a + s ≤ 64) (ha : a ≤ 63) : fieldN n (a : Int) (s : Int) = n / 2 ^ a % 2 ^ s := by
  unfold fieldN
  rw [if_pos (by rw [may_iff]; omega), Int.toNat_natCast, Int.toNat_natCast]
theorem u64n (n : Nat) (h : n < 256) : U64 (n : Int) := ⟨by omega, by omega⟩
/-- bits of a byte -/
theorem fld_any (n a s : Nat) (hn : n < 256) (h : a + s ≤ 64) (ha : a ≤ 63) (w : World) :
    Calls Try.prog 47 #[.int .u64 (n : Nat), .int .i64 (a : Nat), .int .i64 (s : Nat)] w fun e w' => e = .returned (.int .u64 (n / 2 ^ a % 2 ^ s : Nat)) ∧ ∃ k, w' = w.drewN k := by
  have hc := field_any n a s w (u64n n hn)
  rw [Int.toNat_natCast, fieldN_eq n a s h ha] at hc
  exact hc
theorem fr_drewN {w0 w : World} {F : Nat → Prop} (h : Fr F w0 w) (n : Nat) : Fr F w0 (w.drewN n) := h.trans (Fr.drewN w n) (fun _ h => h.elim)
end Go.Proofs.Ytphofpemblindaa
/- The walk of Short of wire's Reader. -/
namespace Go.Proofs.Ytphofpemblindaa
open Go.RowKit
set_option maxHeartbeats 400000 in
theorem rshort_any (lo rb : Nat) (l : List UInt8) (e : Int) (w : World) (hr : Rd lo w rb l e) :
    Calls Try.prog 48 #[.pointer (some ⟨rb, 0, none⟩)] w fun r w' => r = .returned (.int .u16 (rdN 2 l : Nat)) ∧ RPost lo w rb (rawR 2 l) (rawE 2 l e) w' := by
  have hmf : ∀ (fn : Fn) (first cap : Array Value) (w : World), (Instr.makeFunc fn first cap).run Try.prog w = .ok (.func fn first cap) w := fun _ _ _ _ => rfl
  have hn := numfrom_any lo rb 2 l e w hr (by decide)
  have hlt := rdN_lt 2 l
  have HN := Lib.hid hn
  clear hn
  refine calls_q fun Q HQ => ?_
  go_enter Try.func48, Try.ntmps48
  go_wp2_with fail
  refine HN.out.mono ?_
  rintro r w1 ⟨rfl, hp⟩
  have HP := Lib.hid hp
  clear hp
  go_wp2_with fail
  refine HQ.out _ _ ⟨ret_int ?_, HP.out⟩
  first | rfl | (rw [wrap_u16]; omega)
end Go.Proofs.Ytphofpemblindaa
