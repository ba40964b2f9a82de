/- The walk of bits.Lay. -/
import Derived.Test.YteoegmfhfejdkaaBNums
namespace Go.Proofs.Yteoegmfhfejdkaa
open Go.RowKit
theorem placeN_lt {a s : Int} (h : mayB a s = true) : placeN a s < 18446744073709551616 := by
  obtain ⟨h1, h2, h3, h4⟩ := may_iff.1 h
  unfold placeN
  have e : 2 ^ s.toNat * 2 ^ a.toNat = 2 ^ (s.toNat + a.toNat) := (Nat.pow_add _ _ _).symm
  have h5 := pow_le_64 (s := s.toNat + a.toNat) (by omega)
  have h6 := Nat.two_pow_pos a.toNat
  rw [Nat.sub_mul, e]
  omega
theorem lay_eq (n v : Nat) (a s : Int) (h : mayB a s = true) :
    bits .or .u64 (bits .andNot .u64 (n : Int) (IntKind.u64.wrap (((2 ^ s.toNat - 1 : Nat) : Int) * 2 ^ a.toNat)))
      (bits .and .u64 (IntKind.u64.wrap ((v : Int) * 2 ^ a.toNat)) (IntKind.u64.wrap (((2 ^ s.toNat - 1 : Nat) : Int) * 2 ^ a.toNat))) = (layN n a s v : Int) := by
  have hp := placeN_lt h
  have e1 : IntKind.u64.wrap (((2 ^ s.toNat - 1 : Nat) : Int) * 2 ^ a.toNat) = (placeN a s : Int) := by
    rw [wrap_u64, natpow_cast, ← Int.natCast_mul]
    show ((placeN a s : Nat) : Int) % _ = _
    omega
  have e2 : IntKind.u64.wrap ((v : Int) * 2 ^ a.toNat) = ((v * 2 ^ a.toNat % 18446744073709551616 : Nat) : Int) := by
    rw [wrap_u64, natpow_cast, ← Int.natCast_mul]; omega
  have h2 := Nat.mod_lt (v * 2 ^ a.toNat) (y := 18446744073709551616) (by decide)
  rw [e1, e2, u64_andNot_nat, u64_and_nat _ _ h2, u64_or_nat _ _ (andNotN_lt _ _) (Nat.lt_of_le_of_lt Nat.and_le_left h2), layN, if_pos h]

set_option maxHeartbeats 400000 in
theorem lay_any (n a s v : Int) (w : World) (hn : U64 n) (hv : U64 v) :
    Calls Try.prog 16 #[.int .u64 n, .int .i64 a, .int .i64 s, .int .u64 v] w fun e w' => e = .returned (.int .u64 (layN n.toNat a s v.toNat)) ∧ w' = w := by
  obtain ⟨n, rfl⟩ := Int.eq_ofNat_of_zero_le hn.lo
  obtain ⟨v, rfl⟩ := Int.eq_ofNat_of_zero_le hv.lo
  rw [Int.toNat_natCast, Int.toNat_natCast]
  refine calls_q fun Q HQ => ?_
  have hc := may_any a s w
  by_cases hb : mayB a s = true
  · have hb' := may_iff.1 hb
    rw [hb] at hc
    have H := Lib.hid hc
    have Hb := Lib.hid hb
    clear hc hb
    obtain ⟨a1, a2, s1, s2⟩ := hb'
    go_enter Try.func16, Try.ntmps16
    go_wp2_with (first
      | (go_at_call 21; refine H.out.mono ?_; rintro e w' ⟨rfl, rfl⟩)
      | (go_at_call 22; refine (ones_any _ _ (by omega) (by omega)).mono ?_; rintro e w' ⟨rfl, rfl⟩))
    refine HQ.out _ _ ⟨ret_int ?_, rfl⟩
    exact lay_eq n v a s Hb.out
  · have hb' : mayB a s = false := by simpa using hb
    rw [hb'] at hc
    have H := Lib.hid hc
    have Hb := Lib.hid hb
    clear hc hb hb'
    go_enter Try.func16, Try.ntmps16
    go_wp2_with (go_at_call 21; refine H.out.mono ?_; rintro e w' ⟨rfl, rfl⟩)
    refine HQ.out _ _ ⟨ret_int ?_, rfl⟩
    rw [layN, if_neg Hb.out]

end Go.Proofs.Yteoegmfhfejdkaa
