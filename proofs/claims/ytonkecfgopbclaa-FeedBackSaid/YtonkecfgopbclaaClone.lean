/- The walk of bytes.Clone. -/
import Derived.Test.YtonkecfgopbclaaFr
namespace Go.Proofs.Ytonkecfgopbclaa
open Go.RowKit

set_option maxHeartbeats 400000 in
theorem clone_any (v : Value) (l : List UInt8) (w : World) (hv : BS w v l) (hm : l.length ≤ 140737488355328) :
    Calls Try.prog 32 #[v] w fun e w' => ∃ u, e = .returned u ∧ w'.ownsRow w.heap.size 5 1 u l.length (c8 l) ∧ Below w.heap.size w w' := by
  obtain ⟨A, c, rfl, hc, hcm, hr⟩ := bs_parts hv
  refine calls_q fun Q HQ => ?_
  have HR := Lib.hid hr
  clear hr hv
  cases A with
  | none =>
    have hl : l = [] := by
      cases l with
      | nil => rfl
      | cons x xs => obtain ⟨b, o, h, _⟩ := HR.out (by simp); cases h
    subst hl
    clear HR hc hm
    rw [List.length_nil]
    have he := fun w => Lib.run_eql_slice_nil (P := Try.prog) w 27 5 none 0 c 0 0 Try.underlying27
    go_enter Try.func32, Try.ntmps32
    go_wp2_with fail
    exact HQ.out _ _ ⟨_, rfl, World.ownsRow_nil _ _ _ _, Below.refl _ _⟩
  | some a =>
    have he := fun w => Lib.run_eql_slice_nil (P := Try.prog) w 27 5 (some a) l.length c 0 0 Try.underlying27
    go_enter Try.func32, Try.ntmps32
    go_wp2_with (at_builtin; refine wpl_app rfl _ _ 27 rfl w.heap.size 5 (.int .u8 0) 1 Try.underlying27 (by kernel_rfl) rfl _ 0 [] rfl (own_empty _ _ _ (Nat.le_refl _)) _ _ _ (c8 l) rfl ?c1 (c8_one _) ?c2 ?c3 ?c4 ?c5)
    case c1 => exact src_of rfl (HR.out.below (Nat.le_refl _) (below_alloc _))
    case c2 => unfold maxLen; omega
    case c3 => omega
    case c4 => simp
    case c5 =>
      intro v' w1 hown hg _
      have hb1 : Below w.heap.size w w1 := ((Below.refl _ _).alloc (Nat.le_refl _) _).grown hg (by simp) (fun k hk => by simp [Value.ownBlock] at hk; omega)
      have HO := Lib.hid hown
      have HB := Lib.hid hb1
      clear hown hb1 hg
      go_wp2_with fail
      exact HQ.out _ _ ⟨_, rfl, HO.out, HB.out⟩
end Go.Proofs.Ytonkecfgopbclaa
