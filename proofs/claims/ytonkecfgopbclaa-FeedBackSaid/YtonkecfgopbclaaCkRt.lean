/- The walks of size and Right. -/
import Derived.Test.YtonkecfgopbclaaCk
namespace Go.Proofs.Ytonkecfgopbclaa
open Go.RowKit
set_option maxHeartbeats 400000 in
theorem csize_any (n y : Nat) (A : Option Addr) (c : Nat) (b : List UInt8) (w : World) (hb : b.length ≤ 9223372036854775000) :
    Calls Try.prog 29 #[.agg #[.int .u8 (n : Nat), .int .u8 (y : Nat), .slice A b.length c]] w fun e w' => e = .returned (.int .i64 (4 + b.length : Nat)) ∧ Below w.heap.size w w' := by
  refine calls_q fun Q HQ => ?_
  go_enter Try.func29, Try.ntmps29
  go_wp2_with fail
  exact HQ.out _ _ ⟨ret_int (by omega), below_alloc _⟩
set_option maxHeartbeats 400000 in
theorem cright_any (n y : Nat) (A : Option Addr) (c : Nat) (b : List UInt8) (w : World) (hb : b.length ≤ 9223372036854775000) :
    Calls Try.prog 12 #[.agg #[.int .u8 (n : Nat), .int .u8 (y : Nat), .slice A b.length c]] w fun e w' => e = .returned (.bool (rightC (n, y, b))) ∧ Below w.heap.size w w' := by
  have HS := Lib.hid (fun w => csize_any n y A c b w hb)
  refine calls_q fun Q HQ => ?_
  by_cases h31 : (n : Int) ≤ 31
  · by_cases h4 : (b.length : Int) % 4 = 0
    · go_enter Try.func12, Try.ntmps12
      go_wp2_with fail
      refine (HS.out _).mono ?_
      rintro e w1 ⟨rfl, hb1⟩
      have HB := Lib.hid ((below_alloc (w := w) (.cells #[.int .u8 (n : Nat), .int .u8 (y : Nat), .slice A b.length c] 29)).trans (hb1.mono (by simp)))
      clear hb1
      go_wp2_with fail
      all_goals (refine HQ.out _ _ ⟨ret_bool ?_, HB.out⟩; rw [rightC, Bool.eq_iff_iff]; simp; try omega)
    · go_enter Try.func12, Try.ntmps12
      go_wp2_with fail
      refine HQ.out _ _ ⟨ret_bool ?_, below_alloc _⟩
      rw [rightC, Bool.eq_iff_iff]; simp; omega
  · go_enter Try.func12, Try.ntmps12
    go_wp2_with fail
    refine HQ.out _ _ ⟨ret_bool ?_, below_alloc _⟩
    rw [rightC, Bool.eq_iff_iff]; simp; omega
end Go.Proofs.Ytonkecfgopbclaa
