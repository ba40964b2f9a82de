/- Two packets in boxes, and bytes beside them: what stays when the world grows. -/
import Derived.Test.YtphaehponljofaaHdRe
namespace Go.Proofs.Ytphaehponljofaa
open Go.RowKit
structure ASt (w0 : World) (b1 b4 : Nat) (o1 o4 : Obj) (u : Value) (l : List UInt8) (v1 : Value) (d1 : PD) (v4 : Value) (d4 : PD) (w : World) : Prop where
  x1 : w.heap[b1]? = some o1
  x4 : w.heap[b4]? = some o4
  u : BS w u l
  p1 : PV w v1 d1
  p4 : PV w v4 d4
  below : Below w0.heap.size w0 w
section
variable {w0 w w' : World} {b1 b4 : Nat} {o1 o4 : Obj} {u v1 v4 : Value} {l : List UInt8} {d1 d4 : PD}
theorem ASt.after (h : ASt w0 b1 b4 o1 o4 u l v1 d1 v4 d4 w) (hb : Below w.heap.size w w') : ASt w0 b1 b4 o1 o4 u l v1 d1 v4 d4 w' :=
  ⟨(Fr.of hb).heap h.x1 (fun h => h), (Fr.of hb).heap h.x4 (fun h => h), h.u.below hb, h.p1.below hb, h.p4.below hb, h.below.trans (hb.mono h.below.size)⟩
theorem ASt.alloc (h : ASt w0 b1 b4 o1 o4 u l v1 d1 v4 d4 w) (o : Obj) : ASt w0 b1 b4 o1 o4 u l v1 d1 v4 d4 (w.alloc o) := h.after (below_alloc o)
theorem ASt.drewN (h : ASt w0 b1 b4 o1 o4 u l v1 d1 v4 d4 w) (n : Nat) : ASt w0 b1 b4 o1 o4 u l v1 d1 v4 d4 (w.drewN n) := h.after (below_drewN (Below.refl _ _) n)
theorem ASt.drew (h : ASt w0 b1 b4 o1 o4 u l v1 d1 v4 d4 w) : ASt w0 b1 b4 o1 o4 u l v1 d1 v4 d4 w.drew := h.drewN 1
end
theorem ASt.cells {w0 w : World} {b1 b4 : Nat} {x0 x1 x2 x3 x4 x5 x6 x7 x8 x9 y0 y1 y2 y3 y4 y5 y6 y7 y8 y9 : Value} {t : TypeId} {u v1 v4 : Value} {l : List UInt8} {d1 d4 : PD} (h : ASt w0 b1 b4 (.cells #[x0, x1, x2, x3, x4, x5, x6, x7, x8, x9] t (0, 0)) (.cells #[y0, y1, y2, y3, y4, y5, y6, y7, y8, y9] t (0, 0)) u l v1 d1 v4 d4 w) :
    ASt w0 b1 b4 (.cells #[x0, x1, x2, x3, x4, x5, x6, x7, x8, x9] t (0, 0)) (.cells #[y0, y1, y2, y3, y4, y5, y6, y7, y8, y9] t (0, 0)) u l v1 d1 v4 d4 w ∧ w.cell? ⟨b1, 0, none⟩ = some x0 ∧ w.cell? ⟨b1, 1, none⟩ = some x1 ∧ w.cell? ⟨b1, 2, none⟩ = some x2 ∧ w.cell? ⟨b1, 3, none⟩ = some x3 ∧ w.cell? ⟨b1, 4, none⟩ = some x4 ∧ w.cell? ⟨b1, 5, none⟩ = some x5 ∧ w.cell? ⟨b1, 6, none⟩ = some x6 ∧ w.cell? ⟨b1, 7, none⟩ = some x7 ∧ w.cell? ⟨b1, 8, none⟩ = some x8 ∧ w.cell? ⟨b1, 9, none⟩ = some x9 ∧ w.cell? ⟨b4, 0, none⟩ = some y0 ∧ w.cell? ⟨b4, 1, none⟩ = some y1 ∧ w.cell? ⟨b4, 2, none⟩ = some y2 ∧ w.cell? ⟨b4, 3, none⟩ = some y3 ∧ w.cell? ⟨b4, 4, none⟩ = some y4 ∧ w.cell? ⟨b4, 5, none⟩ = some y5 ∧ w.cell? ⟨b4, 6, none⟩ = some y6 ∧ w.cell? ⟨b4, 7, none⟩ = some y7 ∧ w.cell? ⟨b4, 8, none⟩ = some y8 ∧ w.cell? ⟨b4, 9, none⟩ = some y9 := by
  obtain ⟨k0, k1, k2, k3, k4, k5, k6, k7, k8, k9⟩ := ten_cells h.x1
  obtain ⟨m0, m1, m2, m3, m4, m5, m6, m7, m8, m9⟩ := ten_cells h.x4
  exact ⟨h, k0, k1, k2, k3, k4, k5, k6, k7, k8, k9, m0, m1, m2, m3, m4, m5, m6, m7, m8, m9⟩
end Go.Proofs.Ytphaehponljofaa
