/- The walk of told, where its bit is 1: once for each of the closures that it is handed. -/
import Derived.Test.YthomlikmjgeccaaPbRd
namespace Go.Proofs.Ythomlikmjgeccaa
open Go.RowKit
theorem told_yes2 (k n : Nat) (c0 c1 : Value) (a : Addr) (w : World) (R : Int → World → Prop) (hc : w.cell? a = some (.int .u64 (n : Nat))) (hn : n < 256) (hk : k ≤ 62) (hb : bitN n k = true)
    (hg : ∀ j, Calls Try.prog 34 #[c0, c1] (w.drewN j) fun e w' => ∃ x, e = .returned (.int .i64 x) ∧ R x w') :
    Calls Try.prog 33 #[.int .i64 (k : Nat), .func (.func 34) #[] #[c0, c1], .pointer (some a)] w fun e w' => ∃ x, e = .returned (.int .i64 x) ∧ R x w' := by
  have hm := marked_any n k w (u64_lt hn) hk
  rw [hb] at hm
  have HM := Lib.hid hm
  have HG := Lib.hid hg
  clear hm hb hg
  refine calls_q fun Q HQ => ?_
  go_enter Try.func33, Try.ntmps33
  go_wp2_with fail
  refine HM.out.mono ?_
  rintro e w1 ⟨rfl, j, rfl⟩
  go_wp2_with fail
  refine (HG.out j).mono ?_
  rintro e w1 ⟨x, rfl, hr⟩
  have HR := Lib.hid hr
  clear hr
  go_wp2_with fail
  exact HQ.out _ _ ⟨x, rfl, HR.out⟩
theorem told_yes3 (k n : Nat) (c0 : Value) (a : Addr) (w : World) (R : Int → World → Prop) (hc : w.cell? a = some (.int .u64 (n : Nat))) (hn : n < 256) (hk : k ≤ 62) (hb : bitN n k = true)
    (hg : ∀ j, Calls Try.prog 35 #[c0] (w.drewN j) fun e w' => ∃ x, e = .returned (.int .i64 x) ∧ R x w') :
    Calls Try.prog 33 #[.int .i64 (k : Nat), .func (.func 35) #[] #[c0], .pointer (some a)] w fun e w' => ∃ x, e = .returned (.int .i64 x) ∧ R x w' := by
  have hm := marked_any n k w (u64_lt hn) hk
  rw [hb] at hm
  have HM := Lib.hid hm
  have HG := Lib.hid hg
  clear hm hb hg
  refine calls_q fun Q HQ => ?_
  go_enter Try.func33, Try.ntmps33
  go_wp2_with fail
  refine HM.out.mono ?_
  rintro e w1 ⟨rfl, j, rfl⟩
  go_wp2_with fail
  refine (HG.out j).mono ?_
  rintro e w1 ⟨x, rfl, hr⟩
  have HR := Lib.hid hr
  clear hr
  go_wp2_with fail
  exact HQ.out _ _ ⟨x, rfl, HR.out⟩
theorem told_yes4 (k n : Nat) (c0 c1 : Value) (a : Addr) (w : World) (R : Int → World → Prop) (hc : w.cell? a = some (.int .u64 (n : Nat))) (hn : n < 256) (hk : k ≤ 62) (hb : bitN n k = true)
    (hg : ∀ j, Calls Try.prog 36 #[c0, c1] (w.drewN j) fun e w' => ∃ x, e = .returned (.int .i64 x) ∧ R x w') :
    Calls Try.prog 33 #[.int .i64 (k : Nat), .func (.func 36) #[] #[c0, c1], .pointer (some a)] w fun e w' => ∃ x, e = .returned (.int .i64 x) ∧ R x w' := by
  have hm := marked_any n k w (u64_lt hn) hk
  rw [hb] at hm
  have HM := Lib.hid hm
  have HG := Lib.hid hg
  clear hm hb hg
  refine calls_q fun Q HQ => ?_
  go_enter Try.func33, Try.ntmps33
  go_wp2_with fail
  refine HM.out.mono ?_
  rintro e w1 ⟨rfl, j, rfl⟩
  go_wp2_with fail
  refine (HG.out j).mono ?_
  rintro e w1 ⟨x, rfl, hr⟩
  have HR := Lib.hid hr
  clear hr
  go_wp2_with fail
  exact HQ.out _ _ ⟨x, rfl, HR.out⟩
theorem told_yes5 (k n : Nat) (c0 : Value) (a : Addr) (w : World) (R : Int → World → Prop) (hc : w.cell? a = some (.int .u64 (n : Nat))) (hn : n < 256) (hk : k ≤ 62) (hb : bitN n k = true)
    (hg : ∀ j, Calls Try.prog 37 #[c0] (w.drewN j) fun e w' => ∃ x, e = .returned (.int .i64 x) ∧ R x w') :
    Calls Try.prog 33 #[.int .i64 (k : Nat), .func (.func 37) #[] #[c0], .pointer (some a)] w fun e w' => ∃ x, e = .returned (.int .i64 x) ∧ R x w' := by
  have hm := marked_any n k w (u64_lt hn) hk
  rw [hb] at hm
  have HM := Lib.hid hm
  have HG := Lib.hid hg
  clear hm hb hg
  refine calls_q fun Q HQ => ?_
  go_enter Try.func33, Try.ntmps33
  go_wp2_with fail
  refine HM.out.mono ?_
  rintro e w1 ⟨rfl, j, rfl⟩
  go_wp2_with fail
  refine (HG.out j).mono ?_
  rintro e w1 ⟨x, rfl, hr⟩
  have HR := Lib.hid hr
  clear hr
  go_wp2_with fail
  exact HQ.out _ _ ⟨x, rfl, HR.out⟩
end Go.Proofs.Ythomlikmjgeccaa
