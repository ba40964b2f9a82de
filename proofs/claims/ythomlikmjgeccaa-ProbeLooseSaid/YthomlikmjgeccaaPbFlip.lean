/- Bits that the words do not name change nothing. -/
import Derived.Test.YthomlikmjgeccaaPbLen
namespace Go.Proofs.Ythomlikmjgeccaa
open Go.RowKit

def fl1 (n : Nat) : Nat := n ^^^ 72
def fl2 (n : Nat) : Nat := n ^^^ 15
set_option maxRecDepth 10000 in
theorem fl1_all : ∀ x : Fin 256, fl1 x.val < 256 ∧ bitN (fl1 x.val) 7 = bitN x.val 7 ∧ bitN (fl1 x.val) 5 = bitN x.val 5 ∧ bitN (fl1 x.val) 4 = bitN x.val 4 ∧ fl1 x.val % 8 = x.val % 8 ∧
    bits .xor .u8 (x.val : Int) 72 = (fl1 x.val : Int) ∧ decide (128 ≤ fl1 x.val) = bitN x.val 7 := by decide
set_option maxRecDepth 10000 in
theorem fl2_all : ∀ x : Fin 256, fl2 x.val < 256 ∧ bitN (fl2 x.val) 7 = bitN x.val 7 ∧ bitN (fl2 x.val) 6 = bitN x.val 6 ∧ bitN (fl2 x.val) 5 = bitN x.val 5 ∧ bitN (fl2 x.val) 4 = bitN x.val 4 ∧
    bits .xor .u8 (x.val : Int) 15 = (fl2 x.val : Int) := by decide
/-- the same bytes, but for the bits that the words do not name -/
def flA (l : List UInt8) : List UInt8 := l.set 0 (UInt8.ofNat (fl1 (l.getD 0 0).toNat))
def flB (l : List UInt8) : List UInt8 := l.set 1 (UInt8.ofNat (fl2 (l.getD 1 0).toNat))
def flL (l : List UInt8) : List UInt8 := if decide (1 < l.length) && bitN (l.getD 0 0).toNat 7 then flB (flA l) else flA l
theorem flL_len (l : List UInt8) : (flL l).length = l.length := by
  unfold flL flB flA; split <;> simp
theorem lt8 (x : UInt8) : x.toNat < 256 := UInt8.toNat_lt x
theorem u8_of {n : Nat} (h : n < 256) : (UInt8.ofNat n).toNat = n := u8nat_eq h
theorem readS_cons (x : UInt8) (xs : List UInt8) : readS (x :: xs) = readF (bitN x.toNat 7) (bitN x.toNat 5) (bitN x.toNat 4) (x.toNat % 8) xs 0 := by
  unfold readS
  rw [rdN_cons, rawR_cons, rawE_cons]
theorem readS_fl1 (x : UInt8) (xs : List UInt8) : readS (UInt8.ofNat (fl1 x.toNat) :: xs) = readS (x :: xs) := by
  have h := fl1_all ⟨x.toNat, lt8 x⟩
  simp only at h
  rw [readS_cons, readS_cons, u8_of h.1, h.2.1, h.2.2.1, h.2.2.2.1, h.2.2.2.2.1]
theorem readS_fl2 (x y : UInt8) (xs : List UInt8) : readS (x :: UInt8.ofNat (fl2 y.toNat) :: xs) = readS (x :: y :: xs) ∨ bitN x.toNat 7 = false := by
  cases hb : bitN x.toNat 7
  · exact .inr rfl
  · have h := fl2_all ⟨y.toNat, lt8 y⟩
    simp only at h
    refine .inl ?_
    rw [readS_cons, readS_cons, hb]
    have hc := next_cons (UInt8.ofNat (fl2 y.toNat)) xs 0 (DD.none (bitN x.toNat 5) (bitN x.toNat 4) (x.toNat % 8))
    have hd := next_cons y xs 0 (DD.none (bitN x.toNat 5) (bitN x.toNat 4) (x.toNat % 8))
    unfold readF numsS
    rw [hc.1, hc.2, hd.1, hd.2, u8_of h.1, h.2.1, h.2.2.1, h.2.2.2.1, h.2.2.2.2.1]
    simp only [if_true]
theorem fl_read (l : List UInt8) (h : 0 < l.length) : readS ((flL l).take 6) = readS (l.take 6) := by
  match l, h with
  | [x], _ =>
    have e : flL [x] = [UInt8.ofNat (fl1 x.toNat)] := by simp [flL, flA]
    rw [e]
    exact readS_fl1 x []
  | x :: y :: zs, _ =>
    unfold flL flB flA
    cases hb : bitN x.toNat 7
    · simp only [List.length_cons, List.getD_cons_zero, hb, Bool.and_false, Bool.false_eq_true, if_false, List.set_cons_zero]
      exact readS_fl1 x ((y :: zs).take 5)
    · have h1 : decide (1 < (x :: y :: zs).length) = true := by simp
      simp only [List.getD_cons_zero, hb, h1, Bool.and_true, if_true, List.set_cons_zero, List.getD_cons_succ, List.set_cons_succ]
      rcases readS_fl2 (UInt8.ofNat (fl1 x.toNat)) y (zs.take 4) with h2 | h2
      · exact h2.trans (readS_fl1 x (y :: zs.take 4))
      · have h3 := fl1_all ⟨x.toNat, lt8 x⟩
        simp only at h3
        rw [u8_of h3.1, h3.2.1, hb] at h2
        cases h2
theorem fl_res (l : List UInt8) (h : 0 < l.length) : resD (flL l) = resD l ∧ resN (flL l) = resN l ∧ resE (flL l) = resE l := by
  unfold resD resN resE
  rw [fl_read l h, List.length_take, List.length_take, flL_len]
  simp
theorem resN_one (l : List UInt8) (h : 0 < l.length) (he : resE l = 0) : 1 ≤ resN l := by
  match l, h with
  | x :: xs, _ =>
    have hs : shortS (readS ((x :: xs).take 6)) = false := by
      cases hs : shortS (readS ((x :: xs).take 6))
      · rfl
      · unfold resE at he; rw [hs] at he; simp at he
    unfold resN
    rw [hs]
    rw [show (x :: xs).take 6 = x :: xs.take 5 from rfl, readS_cons]
    have := readF_le (bitN x.toNat 7) (bitN x.toNat 5) (bitN x.toNat 4) (x.toNat % 8) (xs.take 5) 0
    simp only [List.length_cons, Bool.false_eq_true, if_false]
    omega
theorem resN_two (x y : UInt8) (zs : List UInt8) (hb : bitN x.toNat 7 = true) (he : resE (x :: y :: zs) = 0) : 2 ≤ resN (x :: y :: zs) := by
  have hs : shortS (readS ((x :: y :: zs).take 6)) = false := by
    cases hs : shortS (readS ((x :: y :: zs).take 6))
    · rfl
    · unfold resE at he; rw [hs] at he; simp at he
  unfold resN
  rw [hs]
  rw [show (x :: y :: zs).take 6 = x :: y :: zs.take 4 from rfl, readS_cons, hb]
  have hd := next_cons y (zs.take 4) 0 (DD.none (bitN x.toNat 5) (bitN x.toNat 4) (x.toNat % 8))
  have := numsS_le ⟨y :: zs.take 4, 0, DD.none (bitN x.toNat 5) (bitN x.toNat 4) (x.toNat % 8)⟩
  rw [hd.2] at this
  simp only [List.length_cons, Bool.false_eq_true, if_false, readF, if_true] at this ⊢
  omega
theorem fl_even (l : List UInt8) (h : 0 < l.length) (he : resE l = 0) : evenAt (flL l) (resN l) = evenAt l (resN l) := by
  unfold evenAt
  rw [flL_len]
  have h1 := resN_one l h he
  match l, h with
  | [x], _ =>
    have : resN [x] ≠ 0 := by omega
    simp [this]
  | x :: y :: zs, _ =>
    unfold flL flB flA
    cases hb : bitN x.toNat 7
    · simp only [List.length_cons, List.getD_cons_zero, hb, Bool.and_false, Bool.false_eq_true, if_false, List.set_cons_zero]
      obtain ⟨k, hk⟩ : ∃ k, resN (x :: y :: zs) = k + 1 := ⟨resN (x :: y :: zs) - 1, by omega⟩
      rw [hk, List.getD_cons_succ, List.getD_cons_succ]
    · have h2 : decide (1 < (x :: y :: zs).length) = true := by simp
      have h3 := resN_two x y zs hb he
      simp only [List.getD_cons_zero, hb, h2, Bool.and_true, if_true, List.set_cons_zero, List.getD_cons_succ, List.set_cons_succ]
      obtain ⟨k, hk⟩ : ∃ k, resN (x :: y :: zs) = k + 2 := ⟨resN (x :: y :: zs) - 2, by omega⟩
      rw [hk, List.getD_cons_succ, List.getD_cons_succ, List.getD_cons_succ, List.getD_cons_succ]
theorem fl_beg (l : List UInt8) (h : 0 < l.length) : begB (flL l) = begB l := by
  obtain ⟨h1, h2, h3⟩ := fl_res l h
  unfold begB
  rw [h1, h2, h3]
  by_cases he : resE l = 0
  · rw [fl_even l h he]
  · simp [he]
end Go.Proofs.Ythomlikmjgeccaa
