/- Messages of feed as data: lost numbers' pairs, what may be, their bytes, what reading tells. -/
import Derived.Test.YtonkecfgopbclaaNm
import Derived.Test.YtonkecfgopbclaaCk
import Derived.Test.YtonkecfgopbclaaSerA
namespace Go.Proofs.Ytonkecfgopbclaa
open Go.RowKit

/-! ### lost numbers' pairs -/
/-- the number of which bit k tells -/
def aft (n : Int) (k : Nat) : Int := (n + k + 1) % 65536
/-- one of the sixteen behind a number is looked at -/
def fpS (n : Int) (k : Nat) (s : Nat × List Int) : Nat × List Int :=
  match s.2 with
  | [] => s
  | x :: r => if x = aft n k then (s.1 ||| 2 ^ k, r) else s
def fpK (n : Int) (l : List Int) : Nat → Nat × List Int
  | 0 => (0, l)
  | k + 1 => fpS n k (fpK n l k)
def fp (n : Int) (l : List Int) : Nat × List Int := fpK n l 16
def numK (n : Int) (a : Nat) : Nat → List Int
  | 0 => [n]
  | k + 1 => numK n a k ++ (if a.testBit k then [aft n k] else [])
def nums1 (p : Int × Nat) : List Int := numK p.1 p.2 16
def numsP (ps : List (Int × Nat)) : List Int := (ps.map nums1).flatten
theorem numsP_cons (p : Int × Nat) (ps : List (Int × Nat)) : numsP (p :: ps) = nums1 p ++ numsP ps := rfl
theorem numsP_snoc (ps : List (Int × Nat)) (p : Int × Nat) : numsP (ps ++ [p]) = numsP ps ++ nums1 p := by simp [numsP]
def pairsF : Nat → List Int → List (Int × Nat)
  | 0, _ => []
  | _, [] => []
  | f + 1, n :: l => (n, (fp n l).1) :: pairsF f (fp n l).2
def pairsL (l : List Int) : List (Int × Nat) := pairsF l.length l
theorem fpS_len (n : Int) (k : Nat) (s : Nat × List Int) : (fpS n k s).2.length ≤ s.2.length := by
  obtain ⟨a, l⟩ := s
  cases l with
  | nil => simp [fpS]
  | cons x r => simp only [fpS]; split <;> simp
theorem fpK_len (n : Int) (l : List Int) (k : Nat) : (fpK n l k).2.length ≤ l.length := by
  induction k with
  | zero => exact Nat.le_refl _
  | succ k ih => exact Nat.le_trans (fpS_len _ _ _) ih
theorem fp_len (n : Int) (l : List Int) : (fp n l).2.length ≤ l.length := fpK_len n l 16
theorem pairsF_fuel : ∀ (f : Nat) (l : List Int), l.length ≤ f → pairsF f l = pairsL l := by
  have h : ∀ (f g : Nat) (l : List Int), l.length ≤ f → l.length ≤ g → pairsF f l = pairsF g l := by
    intro f
    induction f with
    | zero =>
      intro g l h1 h2
      obtain rfl := List.eq_nil_of_length_eq_zero (show l.length = 0 by omega)
      cases g <;> rfl
    | succ f ih =>
      intro g l h1 h2
      cases l with
      | nil => cases g <;> rfl
      | cons n l =>
        cases g with
        | zero => simp at h2
        | succ g =>
          have := fp_len n l
          simp only [List.length_cons] at h1 h2
          rw [pairsF, pairsF, ih g _ (by omega) (by omega)]
  exact fun f l hl => h f l.length l hl (Nat.le_refl _)
theorem pairsL_nil : pairsL [] = [] := rfl
theorem pairsL_cons (n : Int) (l : List Int) : pairsL (n :: l) = (n, (fp n l).1) :: pairsL (fp n l).2 := by
  show pairsF (l.length + 1) (n :: l) = _
  rw [pairsF, pairsF_fuel _ _ (fp_len n l)]
/-- induction along the pairs -/
theorem pairs_ind {C : List Int → Prop} (h0 : C []) (h1 : ∀ n l, C (fp n l).2 → C (n :: l)) (l : List Int) : C l := by
  have h : ∀ (f : Nat) (l : List Int), l.length ≤ f → C l := by
    intro f
    induction f with
    | zero =>
      intro l hl
      obtain rfl := List.eq_nil_of_length_eq_zero (show l.length = 0 by omega)
      exact h0
    | succ f ih =>
      intro l hl
      cases l with
      | nil => exact h0
      | cons n l =>
        have := fp_len n l
        simp only [List.length_cons] at hl
        exact h1 n l (ih _ (by omega))
  exact h l.length l (Nat.le_refl _)
/-- the bits below k alone tell -/
theorem numK_low (n : Int) (a b : Nat) (k : Nat) (h : ∀ j, j < k → a.testBit j = b.testBit j) : numK n a k = numK n b k := by
  induction k with
  | zero => rfl
  | succ k ih => rw [numK, numK, ih (fun j hj => h j (by omega)), h k (by omega)]
theorem or_low (a k j : Nat) (h : j < k) : (a ||| 2 ^ k).testBit j = a.testBit j := by
  rw [Nat.testBit_or, Nat.testBit_two_pow]
  have : ¬ k = j := by omega
  simp [this]
theorem or_at (a k : Nat) : (a ||| 2 ^ k).testBit k = true := by
  rw [Nat.testBit_or, Nat.testBit_two_pow]; simp
theorem fpK_back (n : Int) (l : List Int) (k : Nat) : (fpK n l k).1 < 2 ^ k ∧ numK n (fpK n l k).1 k ++ (fpK n l k).2 = n :: l := by
  induction k with
  | zero => exact ⟨by simp [fpK], rfl⟩
  | succ k ih =>
    obtain ⟨h1, h2⟩ := ih
    rw [fpK]
    generalize fpK n l k = s at *
    obtain ⟨a, r⟩ := s
    simp only at h1 h2
    have h3 : a < 2 ^ (k + 1) := by rw [Nat.pow_succ]; omega
    have h4 : a.testBit k = false := Nat.testBit_lt_two_pow h1
    cases r with
    | nil =>
      refine ⟨h3, ?_⟩
      show numK n a (k + 1) ++ [] = _
      rw [numK, h4]; simpa using h2
    | cons x r =>
      simp only [fpS]
      split
      · next hx =>
        refine ⟨Nat.or_lt_two_pow h3 (Nat.pow_lt_pow_right (by decide) (by omega)), ?_⟩
        simp only [numK]
        rw [numK_low n _ a k (fun j hj => or_low a k j hj), or_at, if_pos rfl, List.append_assoc, ← hx]
        exact h2
      · refine ⟨h3, ?_⟩
        simp only [numK]
        rw [h4]; simpa using h2
theorem fp_lt (n : Int) (l : List Int) : (fp n l).1 < 65536 := (fpK_back n l 16).1
theorem fp_back (n : Int) (l : List Int) : nums1 (n, (fp n l).1) ++ (fp n l).2 = n :: l := (fpK_back n l 16).2
/-- pairs tell the lost numbers, in order -/
theorem nums_pairs (l : List Int) : numsP (pairsL l) = l := by
  refine pairs_ind (C := fun l => numsP (pairsL l) = l) rfl (fun n l ih => ?_) l
  rw [pairsL_cons, numsP_cons, ih, fp_back]
theorem pairs_lt (l : List Int) : ∀ p ∈ pairsL l, p.2 < 65536 := by
  refine pairs_ind (C := fun l => ∀ p ∈ pairsL l, p.2 < 65536) (by simp [pairsL_nil]) (fun n l ih => ?_) l
  rw [pairsL_cons]
  intro p hp
  rcases List.mem_cons.1 hp with rfl | hp
  · exact fp_lt n l
  · exact ih p hp
theorem numK_len (n : Int) (a k : Nat) : 1 ≤ (numK n a k).length ∧ (numK n a k).length ≤ k + 1 := by
  induction k with
  | zero => simp [numK]
  | succ k ih =>
    rw [numK, List.length_append]
    split <;> simp <;> omega
theorem nums1_len (p : Int × Nat) : 1 ≤ (nums1 p).length ∧ (nums1 p).length ≤ 17 := numK_len p.1 p.2 16
theorem numsP_len (ps : List (Int × Nat)) : ps.length ≤ (numsP ps).length ∧ (numsP ps).length ≤ 17 * ps.length := by
  induction ps with
  | nil => simp [numsP]
  | cons p ps ih =>
    have := nums1_len p
    rw [numsP_cons, List.length_append, List.length_cons]; omega
/-- no more pairs than lost numbers, no fewer than seventeen of each let there be -/
theorem pairs_len (l : List Int) : (pairsL l).length ≤ l.length ∧ l.length ≤ 17 * (pairsL l).length := by
  have h := numsP_len (pairsL l)
  rwa [nums_pairs] at h
theorem numK_fits (n : Int) (a k : Nat) (h : Fits 65536 n) : ∀ x ∈ numK n a k, Fits 65536 x := by
  induction k with
  | zero => intro x hx; simp only [numK, List.mem_singleton] at hx; exact hx ▸ h
  | succ k ih =>
    intro x hx
    rw [numK, List.mem_append] at hx
    rcases hx with hx | hx
    · exact ih x hx
    · split at hx
      · simp only [List.mem_singleton] at hx
        subst hx
        unfold aft
        exact ⟨by omega, by omega⟩
      · cases hx
theorem numsP_fits (ps : List (Int × Nat)) (h : ∀ p ∈ ps, Fits 65536 p.1) : ∀ x ∈ numsP ps, Fits 65536 x := by
  intro x hx
  rw [numsP, List.mem_flatten] at hx
  obtain ⟨l, hl, hx⟩ := hx
  obtain ⟨p, hp, rfl⟩ := List.mem_map.1 hl
  exact numK_fits _ _ _ (h p hp) x hx
theorem numK_head (n : Int) (a k : Nat) : ∃ t, numK n a k = n :: t := by
  induction k with
  | zero => exact ⟨[], rfl⟩
  | succ k ih =>
    obtain ⟨t, ht⟩ := ih
    rw [numK, ht]; exact ⟨_, rfl⟩
theorem nums1_head (p : Int × Nat) : ∃ t, nums1 p = p.1 :: t := numK_head _ _ _
theorem pairs_fits (l : List Int) (h : ∀ x ∈ l, Fits 65536 x) : ∀ p ∈ pairsL l, Fits 65536 p.1 := by
  intro p hp
  refine h _ ?_
  rw [← nums_pairs l, numsP, List.mem_flatten]
  obtain ⟨t, ht⟩ := nums1_head p
  exact ⟨nums1 p, List.mem_map.2 ⟨p, hp, rfl⟩, by rw [ht]; exact List.mem_cons_self ..⟩

/-! ### no fewer pairs tell the same -/
/-- numbers that are behind m by more than k, at most by 16, and rise -/
def Asc (m : Int) : Nat → List Int → Prop
  | _, [] => True
  | k, x :: l => ∃ d, k ≤ d ∧ d < 16 ∧ x = aft m d ∧ Asc m (d + 1) l
theorem Asc.mono {m : Int} {k j : Nat} {l : List Int} (h : Asc m k l) (hj : j ≤ k) : Asc m j l := by
  cases l with
  | nil => trivial
  | cons x l =>
    obtain ⟨d, h1, h2⟩ := h
    exact ⟨d, by omega, h2⟩
theorem aft_inj {m : Int} {i j : Nat} (hi : i < 16) (hj : j < 16) (h : aft m i = aft m j) : i = j := by
  unfold aft at h; omega
/-- looked at from k on -/
theorem fpK_asc (m : Int) (l t : List Int) (k : Nat) (hk : k ≤ 16) (S : List Int) (hS : Asc m 0 S) (h : l = S ++ t) :
    (∃ S', Asc m k S' ∧ (fpK m l k).2 = S' ++ t) ∨ (∃ p, t = p ++ (fpK m l k).2) := by
  induction k with
  | zero => exact .inl ⟨S, hS, h⟩
  | succ k ih =>
    rw [fpK]
    have ih := ih (by omega)
    generalize fpK m l k = s at *
    obtain ⟨a, r⟩ := s
    simp only at ih
    rcases ih with ⟨S', h1, rfl⟩ | ⟨p, rfl⟩
    · cases S' with
      | nil =>
        refine .inr ?_
        cases t with
        | nil => exact ⟨[], by simp [fpS]⟩
        | cons x t =>
          simp only [fpS, List.nil_append]
          split
          · exact ⟨[x], rfl⟩
          · exact ⟨[], rfl⟩
      | cons y S' =>
        obtain ⟨d, h2, h3, rfl, h4⟩ := h1
        refine .inl ?_
        simp only [fpS, List.cons_append]
        split
        · next hx =>
          obtain rfl := aft_inj h3 (by omega) hx
          exact ⟨S', h4, rfl⟩
        · next hx =>
          refine ⟨aft m d :: S', ⟨d, ?_, h3, rfl, h4⟩, rfl⟩
          rcases Nat.lt_or_ge k d with h5 | h5
          · exact h5
          · obtain rfl : d = k := by omega
            exact absurd rfl hx
    · refine .inr ?_
      cases r with
      | nil => exact ⟨p, by simp [fpS]⟩
      | cons x r =>
        simp only [fpS]
        split
        · exact ⟨p ++ [x], by simp⟩
        · exact ⟨p, rfl⟩
theorem fp_asc (m : Int) (S t : List Int) (hS : Asc m 0 S) : ∃ p, t = p ++ (fp m (S ++ t)).2 := by
  rcases fpK_asc m (S ++ t) t 16 (Nat.le_refl _) S hS rfl with ⟨S', h1, h2⟩ | h
  · cases S' with
    | nil => exact ⟨[], by rw [fp, h2]; rfl⟩
    | cons x S' =>
      obtain ⟨d, h3, h4, _⟩ := h1
      omega
  · exact h
/-- a suffix of what a pair tells, but nothing -/
theorem aft_aft (n : Int) (i j : Nat) (h : i < j) : aft n j = aft (aft n i) (j - i - 1) := by
  unfold aft; omega
/-- what a pair tells behind its number, from k bits on -/
def numF (n : Int) (a : Nat) (k : Nat) : Nat → List Int
  | 0 => []
  | f + 1 => (if a.testBit k then [aft n k] else []) ++ numF n a (k + 1) f
theorem numK_F (n : Int) (a f : Nat) : ∀ k, numK n a (k + f) = numK n a k ++ numF n a k f := by
  induction f with
  | zero => intro k; simp [numF]
  | succ f ih =>
    intro k
    rw [show k + (f + 1) = (k + 1) + f by omega, ih (k + 1), numK, numF, List.append_assoc]
theorem nums1_F (p : Int × Nat) : nums1 p = p.1 :: numF p.1 p.2 0 16 := by
  have h := numK_F p.1 p.2 16 0
  rw [Nat.zero_add] at h
  exact h
theorem numF_asc (n : Int) (a : Nat) (f k : Nat) (h : k + f = 16) : Asc n k (numF n a k f) := by
  induction f generalizing k with
  | zero => trivial
  | succ f ih =>
    rw [numF]
    have := ih (k + 1) (by omega)
    split
    · exact ⟨k, Nat.le_refl _, by omega, rfl, this⟩
    · exact this.mono (by omega)
/-- from one of them on -/
theorem Asc.shift {n : Int} {d : Nat} {l : List Int} : ∀ {k : Nat}, Asc n k l → d < k → Asc (aft n d) (k - d - 1) l := by
  induction l with
  | nil => intro k _ _; trivial
  | cons x l ih =>
    intro k h hd
    obtain ⟨e, h1, h2, rfl, h3⟩ := h
    refine ⟨e - d - 1, by omega, by omega, aft_aft n d e (by omega), ?_⟩
    have := ih h3 (by omega)
    rwa [show e + 1 - d - 1 = e - d - 1 + 1 by omega] at this
theorem asc_suffix {n : Int} {l : List Int} : ∀ {k : Nat}, Asc n k l → ∀ (q : List Int) (x : Int) (S : List Int), l = q ++ x :: S → Asc x 0 S := by
  induction l with
  | nil => intro k _ q x S h; cases q <;> cases h
  | cons y l ih =>
    intro k h0 q x S h
    obtain ⟨d, h1, h2, rfl, h3⟩ := h0
    cases q with
    | nil =>
      simp only [List.nil_append, List.cons.injEq] at h
      obtain ⟨rfl, rfl⟩ := h
      exact (h3.shift (show d < d + 1 by omega)).mono (Nat.zero_le _)
    | cons y q =>
      simp only [List.cons_append, List.cons.injEq] at h
      exact ih h3 q x S h.2
theorem nums1_suffix (p : Int × Nat) (q : List Int) (x : Int) (S : List Int) (h : nums1 p = q ++ x :: S) : Asc x 0 S := by
  have hA := numF_asc p.1 p.2 16 0 rfl
  rw [nums1_F] at h
  cases q with
  | nil =>
    simp only [List.nil_append, List.cons.injEq] at h
    obtain ⟨rfl, rfl⟩ := h
    exact hA
  | cons y q =>
    simp only [List.cons_append, List.cons.injEq] at h
    exact asc_suffix hA q x S h.2
theorem pairs_least (ps : List (Int × Nat)) : ∀ (q l : List Int), numsP ps = q ++ l → (pairsL l).length ≤ ps.length := by
  induction ps with
  | nil =>
    intro q l h
    have : l = [] := by
      cases q with
      | nil => exact h.symm
      | cons y q => cases h
    subst this
    simp [pairsL_nil]
  | cons p ps ih =>
    intro q l h
    rw [numsP_cons] at h
    rcases List.append_eq_append_iff.1 h with ⟨a, rfl, h2⟩ | ⟨c, h1, rfl⟩
    · have := ih a l h2
      rw [List.length_cons]; omega
    · cases c with
      | nil =>
        have := ih [] (numsP ps) rfl
        rw [List.length_cons]; simpa using by omega
      | cons x S =>
        have hA := nums1_suffix p q x S h1
        rw [List.cons_append, pairsL_cons, List.length_cons, List.length_cons]
        obtain ⟨p', hp⟩ := fp_asc x S (numsP ps) hA
        have := ih p' _ hp
        omega
end Go.Proofs.Ytonkecfgopbclaa
