/- ReportTells, over arguments that come in. -/
import Derived.Test.YthgajlmhgbhmlaaRpTl
namespace Go.Proofs.Ythgajlmhgbhmlaa
open Go.RowKit

theorem rptells_law (v : Value) (r : DR) (x : Value) (d : DC) (w : World) (h : RV w v r ∧ r.Ok) (g : CV w x d ∧ d.1 < 256 ∧ d.2.1 < 256) :
    Calls Try.prog 3 #[v, x] w fun r w' => r = .returned (.bool true) ∧ Below w.heap.size w w' := by
  obtain ⟨⟨v1, rfl, hb⟩, ho⟩ := h
  obtain ⟨⟨x1, rfl, gb⟩, g1, g2⟩ := g
  obtain ⟨sd, so, i0, i1, i2, i3, i4, bl⟩ := r
  obtain ⟨n, y, B⟩ := d
  exact rptells_any sd so i0 i1 i2 i3 i4 bl v1 n y B x1 w hb ho gb g1 g2
end Go.Proofs.Ythgajlmhgbhmlaa
