/- The walk of Short of wire's Reader. -/
import Derived.Test.YtonkecfgopbclaaWireR
namespace Go.Proofs.Ytonkecfgopbclaa
open Go.RowKit
set_option maxHeartbeats 400000 in
theorem rshort_any (lo rb : Nat) (l : List UInt8) (e : Int) (w : World) (hr : Rd lo w rb l e) :
    Calls Try.prog 38 #[.pointer (some ⟨rb, 0, none⟩)] w fun r w' => r = .returned (.int .u16 (rdN 2 l : Nat)) ∧ RPost lo w rb (rawR 2 l) (rawE 2 l e) w' := by
  have hmf : ∀ (fn : Fn) (first cap : Array Value) (w : World), (Instr.makeFunc fn first cap).run Try.prog w = .ok (.func fn first cap) w := fun _ _ _ _ => rfl
  have hn := numfrom_any lo rb 2 l e w hr (by decide)
  have hlt := rdN_lt 2 l
  have HN := Lib.hid hn
  clear hn
  refine calls_q fun Q HQ => ?_
  go_enter Try.func38, Try.ntmps38
  go_wp2_with fail
  refine HN.out.mono ?_
  rintro r w1 ⟨rfl, hp⟩
  have HP := Lib.hid hp
  clear hp
  go_wp2_with fail
  refine HQ.out _ _ ⟨ret_int ?_, HP.out⟩
  first | rfl | (rw [wrap_u16]; omega)
end Go.Proofs.Ytonkecfgopbclaa
