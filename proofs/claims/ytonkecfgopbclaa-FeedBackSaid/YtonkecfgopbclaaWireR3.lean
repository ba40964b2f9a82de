/- The walk of Three of wire's Reader. -/
import Derived.Test.YtonkecfgopbclaaWireR
namespace Go.Proofs.Ytonkecfgopbclaa
open Go.RowKit
set_option maxHeartbeats 400000 in
theorem rthree_any (lo rb : Nat) (l : List UInt8) (e : Int) (w : World) (hr : Rd lo w rb l e) :
    Calls Try.prog 37 #[.pointer (some ⟨rb, 0, none⟩)] w fun r w' => r = .returned (.int .u32 (rdN 3 l : Nat)) ∧ RPost lo w rb (rawR 3 l) (rawE 3 l e) w' := by
  have hmf : ∀ (fn : Fn) (first cap : Array Value) (w : World), (Instr.makeFunc fn first cap).run Try.prog w = .ok (.func fn first cap) w := fun _ _ _ _ => rfl
  have hn := numfrom_any lo rb 3 l e w hr (by decide)
  have hlt := rdN_lt 3 l
  have HN := Lib.hid hn
  clear hn
  refine calls_q fun Q HQ => ?_
  go_enter Try.func37, Try.ntmps37
  go_wp2_with fail
  refine HN.out.mono ?_
  rintro r w1 ⟨rfl, hp⟩
  have HP := Lib.hid hp
  clear hp
  go_wp2_with fail
  refine HQ.out _ _ ⟨ret_int ?_, HP.out⟩
  first | rfl | (rw [wrap_u32]; omega)
end Go.Proofs.Ytonkecfgopbclaa
