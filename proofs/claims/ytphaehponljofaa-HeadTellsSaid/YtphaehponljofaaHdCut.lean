/- What reading tells of a packet's bytes that are cut off. -/
import Derived.Test.YtphaehponljofaaHdRf
import Derived.Test.YtphaehponljofaaHdB
namespace Go.Proofs.Ytphaehponljofaa
open Go.RowKit

theorem hread_any (v : Value) (l : List UInt8) (w : World) (hv : BS w v l) : Calls Try.prog 10 #[v] w (ReadPost w l) := by
  by_cases h1 : 200 < l.length
  · exact hread_long v l w hv h1
  by_cases h2 : l.length < 12
  · exact hread_short v l w hv h2
  by_cases h3 : firstN l < 128 ∨ 191 < firstN l
  · exact hread_form v l w hv (by omega) (by omega) h3
  · exact hread_fine v l w hv (by omega) (by omega) h3
/-! ### numbers that were written -/
theorem beN_bytesL (x n : Nat) : beN (bytesL x n) = x % 256 ^ n := by
  induction n with
  | zero => simp [bytesL, beN]; omega
  | succ n ih =>
    have h : bytesL x (n + 1) = [UInt8.ofNat (x / 256 ^ n)] ++ bytesL x n := by
      unfold bytesL
      rw [List.range_succ_eq_map]
      simp only [List.map_cons, List.map_map, List.cons_append, List.nil_append]
      congr 1
      refine List.map_congr_left fun i hi => ?_
      simp only [Function.comp]
      congr 3
      omega
    rw [h, beN_append, bytesL_len, ih]
    have h1 : beN [UInt8.ofNat (x / 256 ^ n)] = x / 256 ^ n % 256 := by simp [beN, UInt8.toNat_ofNat']
    rw [h1, Nat.pow_succ, Nat.mod_mul, Nat.mul_comm, Nat.add_comm]
theorem rawL_app (xs rest : List UInt8) (n : Nat) (h : n = xs.length) : rawL n (xs ++ rest) = xs := by
  subst h
  rw [rawL, if_pos (by simp)]; simp
theorem rawR_app (xs rest : List UInt8) (n : Nat) (h : n = xs.length) : rawR n (xs ++ rest) = rest := by
  subst h
  rw [rawR, if_pos (by simp)]; simp
theorem rawE_app (xs rest : List UInt8) (n : Nat) (e : Int) (h : n = xs.length) : rawE n (xs ++ rest) e = e := by
  subst h
  rw [rawE, if_pos (by simp)]
theorem rdN_app (x n : Nat) (rest : List UInt8) (h : x < 256 ^ n) : rdN n (bytesL x n ++ rest) = x := by
  unfold rdN
  rw [rawL_app _ _ _ (bytesL_len x n).symm, beN_bytesL, Nat.mod_eq_of_lt h]
theorem rawR_num (x n : Nat) (rest : List UInt8) : rawR n (bytesL x n ++ rest) = rest := rawR_app _ _ _ (bytesL_len x n).symm
theorem rawE_num (x n : Nat) (rest : List UInt8) (e : Int) : rawE n (bytesL x n ++ rest) e = e := rawE_app _ _ _ _ (bytesL_len x n).symm
/-! ### the sources -/
theorem srcB_drop (l : List Nat) (j : Nat) (h : j < l.length) : srcB (l.drop j) = bytesL l[j] 4 ++ srcB (l.drop (j + 1)) := by
  unfold srcB
  rw [List.drop_eq_getElem_cons h, List.flatMap_cons]
theorem it_src (ns : List Nat) (rest : List UInt8) (hn : ∀ z ∈ ns, z < 4294967296) (j : Nat) (hj : j ≤ ns.length) :
    itR j (srcB ns ++ rest) = srcB (ns.drop j) ++ rest ∧ itS j (srcB ns ++ rest) = ns.take j ∧ ∀ e, itE j (srcB ns ++ rest) e = e := by
  induction j with
  | zero => simp [itR, itS, itE]
  | succ j ih =>
    obtain ⟨h1, h2, h3⟩ := ih (by omega)
    have hx := hn _ (List.getElem_mem (show j < ns.length by omega))
    refine ⟨?_, ?_, fun e => ?_⟩
    · show rawR 4 (itR j _) = _
      rw [h1, srcB_drop ns j (by omega), List.append_assoc, rawR_num]
    · show itS j _ ++ [rdN 4 (itR j _)] = _
      rw [h1, h2, srcB_drop ns j (by omega), List.append_assoc, rdN_app _ 4 _ (by simpa using hx), List.take_succ_eq_append_getElem (by omega)]
    · show rawE 4 (itR j _) (itE j _ e) = e
      rw [h1, h3, srcB_drop ns j (by omega), List.append_assoc, rawE_num]
/-! ### bytes that were cut: R is what would be left -/
def CutS (R l : List UInt8) (e : Int) : Prop := (e = 0 ∧ ∃ x, x ≠ [] ∧ l ++ x = R) ∨ (e = 3 ∧ l = [])
theorem rawR_nil (n : Nat) : rawR n [] = [] := by unfold rawR; split <;> simp
theorem rawE_nil3 (n : Nat) : rawE n [] 3 = 3 := by unfold rawE; split <;> rfl
theorem CutS.step {x R l : List UInt8} {e : Int} {n : Nat} (hn : n = x.length) (h : CutS (x ++ R) l e) : CutS R (rawR n l) (rawE n l e) := by
  subst hn
  rcases h with ⟨rfl, y, hy, h⟩ | ⟨rfl, rfl⟩
  · by_cases hn : x.length ≤ l.length
    · left
      rw [rawR, rawE, if_pos hn, if_pos hn]
      refine ⟨rfl, y, hy, ?_⟩
      have h2 := congrArg (List.drop x.length) h
      rwa [List.drop_append_of_le_length hn, List.drop_left] at h2
    · right
      rw [rawR, rawE, if_neg hn, if_neg hn]
      exact ⟨rfl, rfl⟩
  · right
    rw [rawR_nil, rawE_nil3]
    exact ⟨rfl, rfl⟩
theorem CutS.end {l : List UInt8} {e : Int} (h : CutS [] l e) : e = 3 ∧ l = [] := by
  rcases h with ⟨_, y, hy, h⟩ | h
  · exact absurd (List.append_eq_nil_iff.1 h).2 hy
  · exact h
theorem CutS.it {R : List UInt8} (ns : List Nat) {l : List UInt8} {e : Int} (h : CutS (srcB ns ++ R) l e) (j : Nat) (hj : j ≤ ns.length) : CutS (srcB (ns.drop j) ++ R) (itR j l) (itE j l e) := by
  induction j with
  | zero => exact h
  | succ j ih =>
    have h1 := ih (by omega)
    rw [srcB_drop ns j (by omega), List.append_assoc] at h1
    exact h1.step (bytesL_len _ 4).symm
theorem CutS.stepn {x R l : List UInt8} {e : Int} {n : Nat} (h : CutS (x ++ R) l e) (hn : e = 0 → n = x.length) : CutS R (rawR n l) (rawE n l e) := by
  by_cases he : e = 0
  · exact h.step (hn he)
  · rcases h with ⟨h, _⟩ | ⟨rfl, rfl⟩
    · exact absurd h he
    · exact .inr ⟨rawE_nil3 n, rawR_nil n⟩
/-! ### reading what begins as a packet's bytes -/
theorem one_lt {d : PD} (h : d.srcs.length ≤ 15) : one d < 160 ∧ 128 ≤ one d ∧ one d % 16 = d.srcs.length ∧ one d / 32 % 2 = 0 ∧ decide (one d / 16 % 2 = 1) = d.has := by
  unfold one
  cases d.has
  · simp; omega
  · simp; omega
theorem two_lt {d : PD} (h : d.ty ≤ 127) : two d < 256 ∧ decide (128 ≤ two d) = d.m ∧ two d % 128 = d.ty := by
  unfold two
  cases d.m
  · simp; omega
  · simp; omega
section
variable {d : PD} (hR : d.Right) (hW : d.Wf) (t : List UInt8)
theorem hb_form : headB d ++ t = bytesL (one d) 1 ++ (bytesL (two d) 1 ++ (bytesL d.seq 2 ++ (bytesL d.st 4 ++ (bytesL d.so 4 ++ t)))) := by
  simp [headB, bytesL1]
theorem drop_app (xs r : List UInt8) (n : Nat) (h : n = xs.length) : (xs ++ r).drop n = r := by subst h; simp
theorem hb1 : (headB d ++ t).drop 1 = bytesL (two d) 1 ++ (bytesL d.seq 2 ++ (bytesL d.st 4 ++ (bytesL d.so 4 ++ t))) := by
  rw [hb_form, drop_app _ _ 1 (bytesL_len _ _).symm]
theorem hb2 : (headB d ++ t).drop 2 = bytesL d.seq 2 ++ (bytesL d.st 4 ++ (bytesL d.so 4 ++ t)) := by
  rw [show (2 : Nat) = 1 + 1 from rfl, ← List.drop_drop, hb1, drop_app _ _ 1 (bytesL_len _ _).symm]
theorem hb4 : (headB d ++ t).drop 4 = bytesL d.st 4 ++ (bytesL d.so 4 ++ t) := by
  rw [show (4 : Nat) = 2 + 2 from rfl, ← List.drop_drop, hb2, drop_app _ _ 2 (bytesL_len _ _).symm]
theorem hb8 : (headB d ++ t).drop 8 = bytesL d.so 4 ++ t := by
  rw [show (8 : Nat) = 4 + 4 from rfl, ← List.drop_drop, hb4, drop_app _ _ 4 (bytesL_len _ _).symm]
theorem hb12 : (headB d ++ t).drop 12 = t := by
  rw [show (12 : Nat) = 8 + 4 from rfl, ← List.drop_drop, hb8, drop_app _ _ 4 (bytesL_len _ _).symm]
include hR
theorem hb_first : firstN (headB d ++ t) = one d := by
  unfold firstN
  rw [hb_form, rdN_app _ 1 _ (by have := one_lt hR.srcs; omega)]
theorem hb_second : secondN (headB d ++ t) = two d := by
  unfold secondN
  rw [hb1, rdN_app _ 1 _ (by have := two_lt hR.ty; omega)]
theorem hb_has : hasB (headB d ++ t) = d.has := by
  unfold hasB
  rw [hb_first hR]
  exact (one_lt hR.srcs).2.2.2.2
theorem hb_pad : padB (headB d ++ t) = false := by
  unfold padB
  rw [hb_first hR, (one_lt hR.srcs).2.2.2.1]
  rfl
theorem ex_small : d.ex.length / 4 < 65536 ∧ 4 * (d.ex.length / 4) = d.ex.length := by
  have h1 := hR.size
  have h2 := hR.ex
  unfold PD.size at h1
  omega
theorem hb_readE (h12 : t.length ≤ 188) : readE (headB d ++ t) = rd3E (headB d ++ t) := by
  have hl : (headB d ++ t).length = 12 + t.length := by rw [List.length_append, headB_len]
  have := one_lt hR.srcs
  unfold readE rd4E
  rw [if_neg (by omega), if_neg (by omega), hb_first hR, if_neg (by omega), hb_pad hR]
  rfl
/-- cut off ahead of the payload -/
theorem read_cut1 (x : List UInt8) (hx : x ≠ []) (ht : t ++ x = srcB d.srcs ++ extB d) (h12 : t.length ≤ 188) : readE (headB d ++ t) = 3 := by
  rw [hb_readE hR t h12]
  have h0 : CutS (srcB d.srcs ++ extB d) t 0 := .inl ⟨rfl, x, hx, ht⟩
  have h1 := h0.it d.srcs d.srcs.length (Nat.le_refl _)
  rw [List.drop_length, show srcB [] = [] from rfl, List.nil_append] at h1
  unfold rd3E rd2L rd2E exN rd2L
  rw [hb_has hR, hb_first hR, hb12, (one_lt hR.srcs).2.2.1]
  generalize itR d.srcs.length t = L at *
  generalize itE d.srcs.length t 0 = E at *
  unfold extB at h1
  cases hh : d.has
  · rw [hh] at h1
    exact h1.end.1
  · rw [hh] at h1
    rw [if_pos rfl, List.append_assoc] at h1
    have h2 := h1.step (n := 2) (bytesL_len _ 2).symm
    have h3 := h2.step (n := 2) (bytesL_len _ 2).symm
    rw [← List.append_nil d.ex] at h3
    have h4 := h3.stepn (n := 4 * rdN 2 (rawR 2 L)) (fun he => by
      have he2 : rawE 2 L E = 0 := by
        by_cases hz : rawE 2 L E = 0
        · exact hz
        · rcases h2 with ⟨hz2, _⟩ | ⟨hz2, hz3⟩
          · exact hz2
          · rw [hz2, hz3, rawE_nil3] at he; cases he
      rw [he2] at h2 he
      rcases h2 with ⟨_, y, _, hy⟩ | ⟨hz, _⟩
      · have hlen : 2 ≤ (rawR 2 L).length := by
          rw [rawE] at he
          by_cases h : 2 ≤ (rawR 2 L).length
          · exact h
          · rw [if_neg h] at he; cases he
        obtain ⟨a1, a2⟩ := ex_small hR
        have e1 : rdN 2 (rawR 2 L) = rdN 2 (rawR 2 L ++ y) := by
          unfold rdN rawL
          rw [if_pos hlen, if_pos (by rw [List.length_append]; omega), List.take_append_of_le_length hlen]
        rw [e1, hy, rdN_app _ 2 _ (by omega)]
        exact a2
      · cases hz)
    rw [if_pos rfl]
    exact h4.end.1
include hW
theorem hb_hd : hdOf (headB d ++ t) = { PD.zero with m := d.m, ty := d.ty, seq := d.seq, st := d.st, so := d.so } := by
  obtain ⟨_, e1, e2⟩ := two_lt hR.ty
  unfold hdOf
  rw [hb_second hR, hb2, hb4, hb8, rdN_app _ 2 _ (by have := hW.seq; omega), rdN_app _ 4 _ (by have := hW.st; omega), rdN_app _ 4 _ (by have := hW.so; omega), e1, e2]
/-- cut off behind it -/
theorem read_cut2 (p : List UInt8) (ht : t = srcB d.srcs ++ extB d ++ p) (h12 : t.length ≤ 188) : readE (headB d ++ t) = 0 ∧ readP (headB d ++ t) = { d with pl := p } := by
  obtain ⟨o1, o2, o3, o4, o5⟩ := one_lt hR.srcs
  have hit := it_src d.srcs (extB d ++ p) hW.srcs d.srcs.length (Nat.le_refl _)
  rw [← List.append_assoc, ← ht, List.drop_length, show srcB [] = [] from rfl, List.nil_append, List.take_length] at hit
  obtain ⟨i1, i2, i3⟩ := hit
  obtain ⟨a1, a2⟩ := ex_small hR
  have g1 : rd2L (headB d ++ t) = extB d ++ p := by unfold rd2L; rw [hb_first hR, hb12, o3, i1]
  have g2 : rd2E (headB d ++ t) = 0 := by unfold rd2E; rw [hb_first hR, hb12, o3, i3]
  have g3 : srcsOf (headB d ++ t) = { PD.zero with m := d.m, ty := d.ty, seq := d.seq, st := d.st, so := d.so, srcs := d.srcs } := by
    unfold srcsOf; rw [hb_hd hR hW, hb_first hR, hb12, o3, i2]
  have g4 : rd3L (headB d ++ t) = p ∧ rd3E (headB d ++ t) = 0 ∧ extOf (headB d ++ t) = { d with pl := [] } := by
    unfold rd3L rd3E extOf exN
    rw [hb_has hR, g1, g2, g3]
    unfold extB
    cases hh : d.has
    · have hz := hR.has
      rw [hh] at hz
      simp at hz
      refine ⟨by simp, by simp, ?_⟩
      rw [if_neg (by simp)]
      obtain ⟨m, ty, seq, st, so, srcs, has, prof, ex, pl⟩ := d
      simp only at hz hh
      obtain ⟨rfl, rfl⟩ := hz
      subst hh
      rfl
    · simp only [if_true]
      rw [List.append_assoc, List.append_assoc, rawR_num, rawR_num, rdN_app d.prof 2 _ (by have := hW.prof; omega), rdN_app (d.ex.length / 4) 2 _ (by omega), rawE_num, rawE_num, rawR_app _ _ _ a2, rawE_app _ _ _ _ a2, rawL_app _ _ _ a2]
      refine ⟨rfl, rfl, ?_⟩
      obtain ⟨m, ty, seq, st, so, srcs, has, prof, ex, pl⟩ := d
      simp only at hh
      subst hh
      rfl
  obtain ⟨g4, g5, g6⟩ := g4
  have hE : readE (headB d ++ t) = 0 := by rw [hb_readE hR t h12, g5]
  refine ⟨hE, ?_⟩
  rw [readP, if_pos hE]
  unfold readOf rd4L rd4N
  rw [hb_pad hR, g4, g6]
  simp
end
end Go.Proofs.Ytphaehponljofaa
