/- The walks of package serial: how far one number of 16 bits is ahead of another one, which is newer. -/
import Derived.Test.YtonkecfgopbclaaBase
namespace Go.Proofs.Ytonkecfgopbclaa
open Go.RowKit

/-- how far b is ahead of a, of a round r -/
def ahd (r a b : Int) : Int := if r ≤ 2 * ((b - a) % r) then (b - a) % r - r else (b - a) % r
theorem ahd16 (a b : Int) : IntKind.i16.wrap (IntKind.u16.wrap (b - a)) = ahd 65536 a b := by
  simp [IntKind.wrap, IntKind.bits, IntKind.signed, ahd]; omega
theorem ahd32 (a b : Int) : IntKind.i32.wrap (IntKind.u32.wrap (b - a)) = ahd 4294967296 a b := by
  simp [IntKind.wrap, IntKind.bits, IntKind.signed, ahd]; omega
theorem ahd32' (a b : Int) : wrap32 ((b - a) % 4294967296) = ahd 4294967296 a b := by
  unfold wrap32 ahd; split <;> omega
theorem ahd16_rng (a b : Int) : -32768 ≤ ahd 65536 a b ∧ ahd 65536 a b ≤ 32767 := by unfold ahd; split <;> omega
theorem ahd32_rng (a b : Int) : -2147483648 ≤ ahd 4294967296 a b ∧ ahd 4294967296 a b ≤ 2147483647 := by unfold ahd; split <;> omega
theorem ahd16_64 (a b : Int) : wrap64 (ahd 65536 a b) = ahd 65536 a b := by have := ahd16_rng a b; unfold wrap64; omega
theorem ahd32_64 (a b : Int) : wrap64 (ahd 4294967296 a b) = ahd 4294967296 a b := by have := ahd32_rng a b; unfold wrap64; omega

set_option maxHeartbeats 400000 in
theorem ahead16_any (a b : Int) (w : World) :
    Calls Try.prog 52 #[.int .u16 a, .int .u16 b] w fun e w' => e = .returned (.int .i16 (ahd 65536 a b)) ∧ w' = w := by
  refine calls_q fun Q HQ => ?_
  go_enter Try.func52, Try.ntmps52
  go_wp2
  exact HQ.out _ _ ⟨ret_int (ahd16 a b), rfl⟩
set_option maxHeartbeats 400000 in
theorem ahead_any (a b : Int) (w : World) :
    Calls Try.prog 48 #[.int .u16 a, .int .u16 b] w fun e w' => e = .returned (.int .i64 (ahd 65536 a b)) ∧ w' = w := by
  refine calls_q fun Q HQ => ?_
  go_enter Try.func48, Try.ntmps48
  go_wp2_with (go_at_call 52; refine (ahead16_any _ _ _).mono ?_; rintro e w1 ⟨rfl, rfl⟩)
  exact HQ.out _ _ ⟨ret_int (ahd16_64 a b), rfl⟩
set_option maxHeartbeats 400000 in
theorem newer_any (a b : Int) (w : World) :
    Calls Try.prog 39 #[.int .u16 a, .int .u16 b] w fun e w' => e = .returned (.bool (decide (0 < ahd 65536 a b))) ∧ w' = w := by
  refine calls_q fun Q HQ => ?_
  go_enter Try.func39, Try.ntmps39
  go_wp2_with (go_at_call 48; refine (ahead_any _ _ _).mono ?_; rintro e w1 ⟨rfl, rfl⟩)
  exact HQ.out _ _ ⟨ret_bool rfl, rfl⟩
end Go.Proofs.Ytonkecfgopbclaa
