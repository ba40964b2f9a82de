/- Numbers that were written, and that are read; reading goes on. -/
import Derived.Test.YtonkecfgopbclaaBBytes
import Derived.Test.YtonkecfgopbclaaWireR
namespace Go.Proofs.Ytonkecfgopbclaa
open Go.RowKit

/-! ### numbers that were written, and that are read -/
theorem bytesL_snoc2 (x n : Nat) : bytesL x (n + 1) = UInt8.ofNat (x / 256 ^ n) :: bytesL x n := by
  unfold bytesL
  rw [List.range_succ_eq_map]
  simp only [List.map_cons, List.map_map]
  congr 1
  refine List.map_congr_left fun i hi => ?_
  simp only [Function.comp]
  congr 3
  omega
theorem beN_cons (x : UInt8) (l : List UInt8) : beN (x :: l) = x.toNat * 256 ^ l.length + beN l := by
  have h := beN_append [x] l
  have h3 : beN [x] = x.toNat := by simp [beN]
  rw [h3] at h
  exact h
theorem beN_bytesL (x n : Nat) : beN (bytesL x n) = x % 256 ^ n := by
  induction n with
  | zero => simp [bytesL, beN, Nat.mod_one]
  | succ n ih =>
    have e : (UInt8.ofNat (x / 256 ^ n)).toNat = x / 256 ^ n % 256 := UInt8.toNat_ofNat'
    rw [bytesL_snoc2, beN_cons, bytesL_len, ih, e, Nat.pow_succ, Nat.mod_mul, Nat.mul_comm, Nat.add_comm]
theorem bytesL_add (x y n : Nat) : bytesL (x * 256 ^ n + y) n = bytesL y n := by
  unfold bytesL
  apply List.map_congr_left
  intro i hi
  have hi := List.mem_range.1 hi
  have e : (256 : Nat) ^ n = 256 ^ (i + 1) * 256 ^ (n - 1 - i) := by rw [← Nat.pow_add]; congr 1; omega
  rw [e, ← Nat.mul_assoc, Nat.add_comm, Nat.add_mul_div_right _ _ (Nat.pow_pos (by decide)), Nat.pow_succ, ← Nat.mul_assoc]
  generalize y / 256 ^ (n - 1 - i) = p
  generalize x * 256 ^ i = q
  apply UInt8.toNat_inj.1
  rw [UInt8.toNat_ofNat', UInt8.toNat_ofNat']
  omega
theorem bytesL_mod (x n : Nat) : bytesL (x % 256 ^ n) n = bytesL x n := by
  have h := bytesL_add (x / 256 ^ n) (x % 256 ^ n) n
  rw [Nat.mul_comm, Nat.div_add_mod] at h
  exact h.symm
theorem bytesL_beN (l : List UInt8) : bytesL (beN l) l.length = l := by
  induction l with
  | nil => rfl
  | cons x l ih =>
    have h1 := beN_lt l
    rw [List.length_cons, bytesL_snoc2, beN_cons, bytesL_add, ih, Nat.add_comm, Nat.add_mul_div_right _ _ (Nat.pow_pos (by decide)), Nat.div_eq_of_lt h1, Nat.zero_add]
    congr 1
    apply UInt8.toNat_inj.1
    have := UInt8.toNat_lt x
    rw [UInt8.toNat_ofNat']
    omega
theorem bytesI_n (x n : Nat) (h : n ≤ 8) : bytesI x n = bytesL x n := by rw [bytesI, if_pos (by omega)]; rfl
theorem rawL_app (xs rest : List UInt8) (n : Nat) (h : n = xs.length) : rawL n (xs ++ rest) = xs := by
  subst h
  rw [rawL, if_pos (by simp)]; simp
theorem rawR_app (xs rest : List UInt8) (n : Nat) (h : n = xs.length) : rawR n (xs ++ rest) = rest := by
  subst h
  rw [rawR, if_pos (by simp)]; simp
theorem rdN_app (x n : Nat) (rest : List UInt8) (h : x < 256 ^ n) : rdN n (bytesL x n ++ rest) = x := by
  unfold rdN
  rw [rawL_app _ _ _ (bytesL_len x n).symm, beN_bytesL, Nat.mod_eq_of_lt h]
theorem rawR_num (x n : Nat) (rest : List UInt8) : rawR n (bytesL x n ++ rest) = rest := rawR_app _ _ _ (bytesL_len x n).symm
/-- reading goes on -/
theorem rawR_0 (l : List UInt8) : rawR 0 l = l := by simp [rawR]
theorem rawR_add (a b : Nat) (l : List UInt8) (hb : 0 < b) : rawR b (rawR a l) = rawR (a + b) l := by
  unfold rawR
  by_cases h1 : a ≤ l.length
  · rw [if_pos h1]
    by_cases h2 : a + b ≤ l.length
    · rw [if_pos h2, if_pos (by simp; omega), List.drop_drop]
    · rw [if_neg h2, if_neg (by simp; omega)]
  · rw [if_neg h1, if_neg (show ¬ a + b ≤ l.length by omega), if_neg (show ¬ b ≤ ([] : List UInt8).length by simp; omega)]
theorem rawE_add (a b : Nat) (l : List UInt8) (e : Int) (hb : 0 < b) : rawE b (rawR a l) (rawE a l e) = rawE (a + b) l e := by
  unfold rawE rawR
  by_cases h1 : a ≤ l.length
  · rw [if_pos h1, if_pos h1]
    by_cases h2 : a + b ≤ l.length
    · rw [if_pos h2, if_pos (by simp; omega)]
    · rw [if_neg h2, if_neg (by simp; omega)]
  · rw [if_neg h1, if_neg h1, if_neg (show ¬ a + b ≤ l.length by omega), if_neg (show ¬ b ≤ ([] : List UInt8).length by simp; omega)]
    by_cases he : e = 0
    · rw [if_pos he]; rfl
    · rw [if_neg he, if_neg he]
/-- what is read is written again -/
theorem rd_wr (n : Nat) (l : List UInt8) (h : n ≤ l.length) : bytesL (rdN n l) n ++ rawR n l = l := by
  have h1 : rawL n l = l.take n := by rw [rawL, if_pos h]
  have h2 : (l.take n).length = n := by simp; omega
  have h3 := bytesL_beN (l.take n)
  rw [h2] at h3
  rw [rdN, h1, h3, rawR, if_pos h, List.take_append_drop]
theorem rawR_len (n : Nat) (l : List UInt8) (h : n ≤ l.length) : (rawR n l).length = l.length - n := by rw [rawR, if_pos h]; simp
end Go.Proofs.Ytonkecfgopbclaa
