/- ReportCount, over arguments that come in. -/
import Derived.Test.YthgajlmhgbhmlaaRpCt
import Derived.Test.YthgajlmhgbhmlaaRpOp
namespace Go.Proofs.Ythgajlmhgbhmlaa
open Go.RowKit

theorem rpcount_law (v : Value) (r : DR) (ct : Int) (w : World) (h : RV w v r ∧ r.Ok) (hct : (Lit.int .u8 ct).wf = true) :
    Calls Try.prog 5 #[v, .int .u8 ct] w fun r w' => r = .returned (.bool true) ∧ Below w.heap.size w w' := by
  obtain ⟨⟨u, rfl, hb⟩, ho⟩ := h
  obtain ⟨c, rfl, hc⟩ := nat_u8 hct
  obtain ⟨sd, so, i0, i1, i2, i3, i4, bl⟩ := r
  exact rpcount_any sd so i0 i1 i2 i3 i4 bl u c w hb ho hc
end Go.Proofs.Ythgajlmhgbhmlaa
