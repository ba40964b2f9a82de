/- The walk of bits.Signed. -/
import Derived.Test.YthgajlmhgbhmlaaBase
namespace Go.Proofs.Ythgajlmhgbhmlaa
open Go.RowKit
/-! ### Signed -/
def signedN (n : Nat) (s : Int) : Int :=
  if 1 ≤ s ∧ s ≤ 64 then (if n % 2 ^ s.toNat < 2 ^ (s.toNat - 1) then ((n % 2 ^ s.toNat : Nat) : Int) else ((n % 2 ^ s.toNat : Nat) : Int) - 2 ^ s.toNat) else 0
theorem wrap_i64' (n : Int) : IntKind.i64.wrap n = if 9223372036854775808 ≤ n % 18446744073709551616 then n % 18446744073709551616 - 18446744073709551616 else n % 18446744073709551616 := by
  simp [IntKind.wrap, IntKind.bits, IntKind.signed]
theorem signed_eq (n : Nat) (s : Int) (h1 : 1 ≤ s) (h2 : s ≤ 64) :
    IntKind.i64.wrap (IntKind.u64.wrap ((n : Int) * 2 ^ (64 - s).toNat)) / 2 ^ (64 - s).toNat = signedN n s := by
  obtain ⟨k, hk⟩ : ∃ k : Nat, s.toNat = k + 1 := ⟨s.toNat - 1, by omega⟩
  have hab : (64 - s).toNat = 63 - k := by omega
  have hk63 : k ≤ 63 := by omega
  rw [signedN, if_pos ⟨h1, h2⟩, hab, hk, show k + 1 - 1 = k from rfl]
  have e64 : (2:Nat) ^ (k + 1) * 2 ^ (63 - k) = 18446744073709551616 := by
    rw [← Nat.pow_add, show k + 1 + (63 - k) = 64 by omega]
  have e63 : (2:Nat) ^ k * 2 ^ (63 - k) = 9223372036854775808 := by
    rw [← Nat.pow_add, show k + (63 - k) = 63 by omega]
  have hb := Nat.two_pow_pos (63 - k)
  have e1 : n * 2 ^ (63 - k) % 18446744073709551616 = (n % 2 ^ (k + 1)) * 2 ^ (63 - k) := by
    rw [← e64, Nat.mul_mod_mul_right]
  have hlt : n % 2 ^ (k + 1) < 2 ^ (k + 1) := Nat.mod_lt _ (Nat.two_pow_pos _)
  rw [natpow_cast, natpow_cast]
  generalize n % 2 ^ (k + 1) = m at *
  rw [wrap_u64, ← Int.natCast_mul, wrap_i64']
  have e2 : ((n * 2 ^ (63 - k) : Nat) : Int) % 18446744073709551616 = ((m * 2 ^ (63 - k) : Nat) : Int) := by rw [← e1]; omega
  have hmul : m * 2 ^ (63 - k) < 18446744073709551616 := by rw [← e64]; exact Nat.mul_lt_mul_of_pos_right hlt hb
  rw [e2, show ((m * 2 ^ (63 - k) : Nat) : Int) % 18446744073709551616 = ((m * 2 ^ (63 - k) : Nat) : Int) by omega]
  by_cases hm : m < 2 ^ k
  · have h3 : m * 2 ^ (63 - k) < 9223372036854775808 := by rw [← e63]; exact Nat.mul_lt_mul_of_pos_right hm hb
    rw [if_neg (by omega), if_pos hm, Int.natCast_mul]
    exact Int.mul_ediv_cancel _ (by omega)
  · have h3 : 9223372036854775808 ≤ m * 2 ^ (63 - k) := by rw [← e63]; exact Nat.mul_le_mul_right _ (by omega)
    rw [if_pos (by omega), if_neg hm]
    have e5 : ((m * 2 ^ (63 - k) : Nat) : Int) - 18446744073709551616 = ((m : Int) - ((2 ^ (k + 1) : Nat) : Int)) * ((2 ^ (63 - k) : Nat) : Int) := by
      rw [Int.sub_mul, ← Int.natCast_mul, ← Int.natCast_mul, e64]; rfl
    rw [e5]
    exact Int.mul_ediv_cancel _ (by omega)
set_option maxHeartbeats 400000 in
theorem signed_any (n s : Int) (w : World) (hn : U64 n) :
    Calls Try.prog 43 #[.int .u64 n, .int .i64 s] w fun e w' => e = .returned (.int .i64 (signedN n.toNat s)) ∧ w' = w := by
  obtain ⟨n, rfl⟩ := Int.eq_ofNat_of_zero_le hn.lo
  rw [Int.toNat_natCast]
  refine calls_q fun Q HQ => ?_
  by_cases h1 : 1 ≤ s
  · by_cases h2 : s ≤ 64
    · go_enter Try.func43, Try.ntmps43
      go_wp2
      exact HQ.out _ _ ⟨ret_int (by have h := signed_eq n s h1 h2; rw [IntWalk.i64_left] at h; exact h), rfl⟩
    · go_enter Try.func43, Try.ntmps43
      go_wp2
      exact HQ.out _ _ ⟨ret_int (by rw [signedN, if_neg (by omega)]), rfl⟩
  · go_enter Try.func43, Try.ntmps43
    go_wp2
    exact HQ.out _ _ ⟨ret_int (by rw [signedN, if_neg (by omega)]), rfl⟩
end Go.Proofs.Ythgajlmhgbhmlaa
