/- ReportBack, over arguments that come in. -/
import Derived.Test.YthgajlmhgbhmlaaRpBk
import Derived.Test.YthgajlmhgbhmlaaRpOp
namespace Go.Proofs.Ythgajlmhgbhmlaa
open Go.RowKit

theorem rpback_law (v : Value) (r : DR) (u : Value) (s : DR) (x : Value) (d : DC) (w : World) (h : RV w v r ∧ r.Ok) (k : RV w u s ∧ s.Ok) (g : CV w x d ∧ d.1 < 256 ∧ d.2.1 < 256) :
    Calls Try.prog 4 #[v, u, x] w fun r w' => r = .returned (.bool true) ∧ Below w.heap.size w w' := by
  obtain ⟨⟨v1, rfl, hb⟩, ho⟩ := h
  obtain ⟨⟨u1, rfl, kb⟩, ko⟩ := k
  obtain ⟨⟨x1, rfl, gb⟩, g1, g2⟩ := g
  obtain ⟨sd, so, i0, i1, i2, i3, i4, bl⟩ := r
  obtain ⟨td, tz, j0, j1, j2, j3, j4, bm⟩ := s
  obtain ⟨n, y, B⟩ := d
  exact rpback_any sd so i0 i1 i2 i3 i4 bl v1 td tz j0 j1 j2 j3 j4 bm u1 n y B x1 w hb ho kb ko gb g1 g2
end Go.Proofs.Ythgajlmhgbhmlaa
