/- The walk of Left of wire's Reader. -/
import Derived.Test.YtonkecfgopbclaaWireR
namespace Go.Proofs.Ytonkecfgopbclaa
open Go.RowKit
theorem rleft_any (lo rb : Nat) (l : List UInt8) (e : Int) (w : World) (hr : Rd lo w rb l e) :
    Calls Try.prog 35 #[.pointer (some ⟨rb, 0, none⟩)] w fun r w' => r = .returned (.int .i64 (l.length : Nat)) ∧ w' = w := by
  obtain ⟨h1, h2, v, hh, hb⟩ := hr
  obtain ⟨A, c, rfl, hc, hcm, hrow⟩ := bs_parts hb.1
  have c0 := obj_cell hh 0
  have z0 := obj_frozen hh 0
  simp at c0
  clear hh hb h2 hrow
  refine calls_q fun Q HQ => ?_
  go_enter Try.func35, Try.ntmps35
  go_wp2_with fail
  exact HQ.out _ _ ⟨rfl, rfl⟩
end Go.Proofs.Ytonkecfgopbclaa
