/- The walk of bits.Field. -/
import Derived.Test.YteoegmfhfejdkaaBNums
namespace Go.Proofs.Yteoegmfhfejdkaa
open Go.RowKit
theorem field_eq (n a s : Nat) (hn : n < 18446744073709551616) : bits .and .u64 ((n : Int) / 2 ^ a) ((2 ^ s - 1 : Nat) : Int) = ((n / 2 ^ a % 2 ^ s : Nat) : Int) := by
  rw [natpow_cast, show ((n : Int) / ((2 ^ a : Nat) : Int)) = ((n / 2 ^ a : Nat) : Int) by simp, u64_and_nat _ _ (Nat.lt_of_le_of_lt (Nat.div_le_self _ _) hn), Nat.and_two_pow_sub_one_eq_mod]
set_option maxHeartbeats 400000 in
theorem field_any (n a s : Int) (w : World) (hu : U64 n) :
    Calls Try.prog 20 #[.int .u64 n, .int .i64 a, .int .i64 s] w fun e w' => e = .returned (.int .u64 (fieldN n.toNat a s)) ∧ ∃ k, w' = w.drewN k := by
  obtain ⟨n, rfl⟩ := Int.eq_ofNat_of_zero_le hu.lo
  rw [Int.toNat_natCast]
  refine calls_q fun Q HQ => ?_
  have hc := may_any a s w
  by_cases hb : mayB a s = true
  · have hb' := may_iff.1 hb
    rw [hb] at hc
    have H := Lib.hid hc
    have Hb := Lib.hid hb
    clear hc hb
    obtain ⟨a1, a2, s1, s2⟩ := hb'
    go_enter Try.func20, Try.ntmps20
    go_wp2_with (go_at_call 21; refine H.out.mono ?_; rintro e w' ⟨rfl, rfl⟩)
    go_quiet ((go_at_call 22; exact Calls.quiet_of_same (ones_any _ _ (by omega) (by omega))))
    go_wp2
    refine HQ.out _ _ ⟨ret_int ?_, _, rfl⟩
    rw [fieldN, if_pos Hb.out]
    exact field_eq n a.toNat s.toNat (by have := hu.hi; omega)
  · have hb' : mayB a s = false := by simpa using hb
    rw [hb'] at hc
    have H := Lib.hid hc
    have Hb := Lib.hid hb
    clear hc hb hb'
    go_enter Try.func20, Try.ntmps20
    go_wp2_with (go_at_call 21; refine H.out.mono ?_; rintro e w' ⟨rfl, rfl⟩)
    refine HQ.out _ _ ⟨ret_int ?_, 0, rfl⟩
    rw [fieldN, if_neg Hb.out]; rfl
end Go.Proofs.Yteoegmfhfejdkaa
