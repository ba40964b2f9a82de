/- FeedBack, over arguments that come in. -/
import Derived.Test.YtonkecfgopbclaaFBk
import Derived.Test.YtonkecfgopbclaaFOp
namespace Go.Proofs.Ytonkecfgopbclaa
open Go.RowKit

theorem fback_law (v : Value) (m : DM) (u : Value) (m' : DM) (x : Value) (d : DC) (w : World) (h : MV w v m ∧ m.Ok) (k : MV w u m' ∧ m'.Ok) (g : CV w x d ∧ d.1 < 256 ∧ d.2.1 < 256) :
    Calls Try.prog 3 #[v, u, x] w fun r w' => r = .returned (.bool true) ∧ Below w.heap.size w w' := by
  obtain ⟨⟨va, vl, rfl, ha, hl⟩, ho⟩ := h
  obtain ⟨⟨ua, ul, rfl, ha2, hl2⟩, hp⟩ := k
  obtain ⟨⟨x1, rfl, gb⟩, _, _⟩ := g
  obtain ⟨k1, se, me, ak, lo⟩ := m
  obtain ⟨k2, se2, me2, bk, mo⟩ := m'
  obtain ⟨n, y, B⟩ := d
  exact fback_any k1 se me va vl ak lo k2 se2 me2 ua ul bk mo n y B x1 w ha hl ho ha2 hl2 hp gb
end Go.Proofs.Ytonkecfgopbclaa
