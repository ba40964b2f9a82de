/- The walk of ReportTells. -/
import Derived.Test.YthgajlmhgbhmlaaRpAk
import Derived.Test.YthgajlmhgbhmlaaRpOp
import Derived.Test.YthgajlmhgbhmlaaRrW
import Derived.Test.YthgajlmhgbhmlaaRrD
import Derived.Deep.DeepCutAuto
namespace Go.Proofs.Ythgajlmhgbhmlaa
open Go.RowKit

/-- what stands when all four have answered -/
structure RT (w0 : World) (b2 b3 b5 b7 b9 b11 : Nat) (o2 o3 o5 o7 o9 o11 : Obj) (u2 : Value) (bl : List DB) (u3 : Value) (B : List UInt8) (u5 u7 : Value) (E : List UInt8) (u9 u11 : Value) (bm : List DB) (w : World) : Prop where
  x2 : w.heap[b2]? = some o2
  x3 : w.heap[b3]? = some o3
  x5 : w.heap[b5]? = some o5
  x7 : w.heap[b7]? = some o7
  x9 : w.heap[b9]? = some o9
  x11 : w.heap[b11]? = some o11
  h2 : BlS w u2 bl
  h3 : BS w u3 B
  h5 : BS w u5 E
  h7 : BS w u7 E
  h9 : BlS w u9 bm
  h11 : BlS w u11 bm
  below : Below w0.heap.size w0 w
section
variable {w0 w w' : World} {b2 b3 b5 b7 b9 b11 : Nat} {o2 o3 o5 o7 o9 o11 : Obj} {u2 u3 u5 u7 u9 u11 : Value} {bl bm : List DB} {B E : List UInt8}
theorem RT.after (h : RT w0 b2 b3 b5 b7 b9 b11 o2 o3 o5 o7 o9 o11 u2 bl u3 B u5 u7 E u9 u11 bm w) (hb : Below w.heap.size w w') : RT w0 b2 b3 b5 b7 b9 b11 o2 o3 o5 o7 o9 o11 u2 bl u3 B u5 u7 E u9 u11 bm w' :=
  ⟨(Fr.of hb).heap h.x2 (fun h => h), (Fr.of hb).heap h.x3 (fun h => h), (Fr.of hb).heap h.x5 (fun h => h), (Fr.of hb).heap h.x7 (fun h => h), (Fr.of hb).heap h.x9 (fun h => h), (Fr.of hb).heap h.x11 (fun h => h), h.h2.below hb, h.h3.below hb, h.h5.below hb, h.h7.below hb, h.h9.below hb, h.h11.below hb, h.below.trans (hb.mono h.below.size)⟩
theorem RT.drew (h : RT w0 b2 b3 b5 b7 b9 b11 o2 o3 o5 o7 o9 o11 u2 bl u3 B u5 u7 E u9 u11 bm w) : RT w0 b2 b3 b5 b7 b9 b11 o2 o3 o5 o7 o9 o11 u2 bl u3 B u5 u7 E u9 u11 bm w.drew := h.after (below_drewN (Below.refl _ _) 1)
end
theorem RT.cells {w0 w : World} {b2 b3 b5 b7 b9 b11 : Nat} {o3 : Obj} {x0 x1 x2 x3 x4 x5 x6 x7 y0 y1 y2 y3 y4 y5 y6 y7 z0 z1 z2 z3 z4 z5 z6 z7 p0 p1 p2 q0 q1 q2 : Value} {t2 t5 t7 t9 t11 : TypeId} {u2 u3 u5 u7 u9 u11 : Value} {bl bm : List DB} {B E : List UInt8}
    (h : RT w0 b2 b3 b5 b7 b9 b11 (.cells #[x0, x1, x2, x3, x4, x5, x6, x7] t2 (0, 0)) o3 (.cells #[p0, p1, p2] t5 (0, 0)) (.cells #[q0, q1, q2] t7 (0, 0)) (.cells #[y0, y1, y2, y3, y4, y5, y6, y7] t9 (0, 0)) (.cells #[z0, z1, z2, z3, z4, z5, z6, z7] t11 (0, 0)) u2 bl u3 B u5 u7 E u9 u11 bm w) : RT w0 b2 b3 b5 b7 b9 b11 (.cells #[x0, x1, x2, x3, x4, x5, x6, x7] t2 (0, 0)) o3 (.cells #[p0, p1, p2] t5 (0, 0)) (.cells #[q0, q1, q2] t7 (0, 0)) (.cells #[y0, y1, y2, y3, y4, y5, y6, y7] t9 (0, 0)) (.cells #[z0, z1, z2, z3, z4, z5, z6, z7] t11 (0, 0)) u2 bl u3 B u5 u7 E u9 u11 bm w ∧ w.cell? ⟨b2, 0, none⟩ = some (x0) ∧ w.cell? ⟨b2, 1, none⟩ = some (x1) ∧ w.cell? ⟨b2, 2, none⟩ = some (x2) ∧ w.cell? ⟨b2, 3, none⟩ = some (x3) ∧ w.cell? ⟨b2, 4, none⟩ = some (x4) ∧ w.cell? ⟨b2, 5, none⟩ = some (x5) ∧ w.cell? ⟨b2, 6, none⟩ = some (x6) ∧ w.cell? ⟨b2, 7, none⟩ = some (x7) ∧ w.cell? ⟨b5, 0, none⟩ = some (p0) ∧ w.cell? ⟨b5, 1, none⟩ = some (p1) ∧ w.cell? ⟨b5, 2, none⟩ = some (p2) ∧ w.cell? ⟨b7, 0, none⟩ = some (q0) ∧ w.cell? ⟨b7, 1, none⟩ = some (q1) ∧ w.cell? ⟨b7, 2, none⟩ = some (q2) ∧ w.cell? ⟨b9, 0, none⟩ = some (y0) ∧ w.cell? ⟨b9, 1, none⟩ = some (y1) ∧ w.cell? ⟨b9, 2, none⟩ = some (y2) ∧ w.cell? ⟨b9, 3, none⟩ = some (y3) ∧ w.cell? ⟨b9, 4, none⟩ = some (y4) ∧ w.cell? ⟨b9, 5, none⟩ = some (y5) ∧ w.cell? ⟨b9, 6, none⟩ = some (y6) ∧ w.cell? ⟨b9, 7, none⟩ = some (y7) ∧ w.cell? ⟨b11, 0, none⟩ = some (z0) ∧ w.cell? ⟨b11, 1, none⟩ = some (z1) ∧ w.cell? ⟨b11, 2, none⟩ = some (z2) ∧ w.cell? ⟨b11, 3, none⟩ = some (z3) ∧ w.cell? ⟨b11, 4, none⟩ = some (z4) ∧ w.cell? ⟨b11, 5, none⟩ = some (z5) ∧ w.cell? ⟨b11, 6, none⟩ = some (z6) ∧ w.cell? ⟨b11, 7, none⟩ = some (z7) := by
  have c := obj_cell h.x2
  have d := obj_cell h.x5
  have e := obj_cell h.x7
  have f := obj_cell h.x9
  have g := obj_cell h.x11
  exact ⟨h, c 0, c 1, c 2, c 3, c 4, c 5, c 6, c 7, d 0, d 1, d 2, e 0, e 1, e 2, f 0, f 1, f 2, f 3, f 4, f 5, f 6, f 7, g 0, g 1, g 2, g 3, g 4, g 5, g 6, g 7⟩
set_option maxRecDepth 20000 in
set_option maxHeartbeats 4000000 in
theorem rptells_any (sd : Bool) (so i0 i1 i2 i3 i4 : Nat) (bl : List DB) (u2 : Value) (n y : Nat) (B : List UInt8) (u3 : Value) (w : World)
    (h2 : BlS w u2 bl) (ho : DR.Ok ⟨sd, so, i0, i1, i2, i3, i4, bl⟩) (h3 : BS w u3 B) (hn : n < 256) (hy : y < 256) :
    Calls Try.prog 3 #[.agg #[.bool sd, .int .u32 (so : Nat), .int .u32 (i0 : Nat), .int .u32 (i1 : Nat), .int .u32 (i2 : Nat), .int .u32 (i3 : Nat), .int .u32 (i4 : Nat), u2], .agg #[.int .u8 (n : Nat), .int .u8 (y : Nat), u3]] w
      fun r w' => r = .returned (.bool true) ∧ Below w.heap.size w w' := by
  have HO := Lib.hid ho
  obtain ⟨A2, c2, rfl, _⟩ := h2.parts
  obtain ⟨A3, c3, rfl, _⟩ := bs_parts h3
  have hb1 := below_alloc (w := w) (.cells #[.bool sd, .int .u32 (so : Nat), .int .u32 (i0 : Nat), .int .u32 (i1 : Nat), .int .u32 (i2 : Nat), .int .u32 (i3 : Nat), .int .u32 (i4 : Nat), (.slice A2 bl.length c2)] 27 (0, 0))
  have hb2 := hb1.alloc hb1.size (.cells #[.int .u8 (n : Nat), .int .u8 (y : Nat), (.slice A3 B.length c3)] 30 (0, 0))
  have hx3 := heap_alloc_new (w.alloc (.cells #[.bool sd, .int .u32 (so : Nat), .int .u32 (i0 : Nat), .int .u32 (i1 : Nat), .int .u32 (i2 : Nat), .int .u32 (i3 : Nat), .int .u32 (i4 : Nat), (.slice A2 bl.length c2)] 27 (0, 0))) (.cells #[.int .u8 (n : Nat), .int .u8 (y : Nat), (.slice A3 B.length c3)] 30 (0, 0))
  rw [World.size_alloc] at hx3
  have X2a := Lib.hid ((Fr.alloc (w.alloc (.cells #[.bool sd, .int .u32 (so : Nat), .int .u32 (i0 : Nat), .int .u32 (i1 : Nat), .int .u32 (i2 : Nat), .int .u32 (i3 : Nat), .int .u32 (i4 : Nat), (.slice A2 bl.length c2)] 27 (0, 0))) (.cells #[.int .u8 (n : Nat), .int .u8 (y : Nat), (.slice A3 B.length c3)] 30 (0, 0))).heap (heap_alloc_new w (.cells #[.bool sd, .int .u32 (so : Nat), .int .u32 (i0 : Nat), .int .u32 (i1 : Nat), .int .u32 (i2 : Nat), .int .u32 (i3 : Nat), .int .u32 (i4 : Nat), (.slice A2 bl.length c2)] 27 (0, 0))) (fun h => h))
  have X3a := Lib.hid hx3
  have H2a := Lib.hid (h2.below hb2)
  have H3a := Lib.hid (h3.below hb2)
  have HBa := Lib.hid hb2
  clear ho h2 h3 hb1 hb2 hx3
  refine calls_q fun Q HQ => ?_
  go_enter Try.func3, Try.ntmps3
  go_wp2_with fail
  rw [show (w.alloc (.cells #[.bool sd, .int .u32 (so : Nat), .int .u32 (i0 : Nat), .int .u32 (i1 : Nat), .int .u32 (i2 : Nat), .int .u32 (i3 : Nat), .int .u32 (i4 : Nat), (.slice A2 bl.length c2)] 27)).alloc (.cells #[.int .u8 (n : Nat), .int .u8 (y : Nat), (.slice A3 B.length c3)] 30) = (w.alloc (.cells #[.bool sd, .int .u32 (so : Nat), .int .u32 (i0 : Nat), .int .u32 (i1 : Nat), .int .u32 (i2 : Nat), .int .u32 (i3 : Nat), .int .u32 (i4 : Nat), (.slice A2 bl.length c2)] 27 (0, 0))).alloc (.cells #[.int .u8 (n : Nat), .int .u8 (y : Nat), (.slice A3 B.length c3)] 30 (0, 0)) from rfl]
  generalize (w.alloc (.cells #[.bool sd, .int .u32 (so : Nat), .int .u32 (i0 : Nat), .int .u32 (i1 : Nat), .int .u32 (i2 : Nat), .int .u32 (i3 : Nat), .int .u32 (i4 : Nat), (.slice A2 bl.length c2)] 27 (0, 0))).alloc (.cells #[.int .u8 (n : Nat), .int .u8 (y : Nat), (.slice A3 B.length c3)] 30 (0, 0)) = w1 at *
  obtain ⟨b3, hb3⟩ : ∃ b3, w.heap.size + 1 = b3 := ⟨_, rfl⟩
  rw [hb3] at X3a ⊢
  clear hb3
  obtain ⟨b2, hb2⟩ : ∃ b2, w.heap.size = b2 := ⟨_, rfl⟩
  have hx2 := X2a.out
  rw [hb2] at hx2
  have X2b := Lib.hid hx2
  clear X2a hx2
  refine (awake8_any w1).mono ?_
  rintro r w2 ⟨rfl, hb⟩
  rw [hb2]
  clear hb2
  have X2a := X2b
  clear X2b
  have X2c := Lib.hid ((Fr.of hb).heap X2a.out (fun h => h))
  have X3c := Lib.hid ((Fr.of hb).heap X3a.out (fun h => h))
  have H3c := Lib.hid (H3a.out.below hb)
  have H2c := Lib.hid (H2a.out.below hb)
  have HBc := Lib.hid (HBa.out.trans (hb.mono HBa.out.size))
  clear X2a X3a H3a H2a HBa
  clear hb
  obtain ⟨k0, k1, k2, k3, k4, k5, k6, k7⟩ := cells8 X2c.out
  obtain ⟨m0, m1, m2, _, _, _⟩ := cells3 X3c.out
  by_cases hx : (40 : Int) < (bl.length : Int)
  · go_wp2_with fail
    exact HQ.out _ _ ⟨rfl, HBc.out⟩
  by_cases hx3 : (400 : Int) < (B.length : Int)
  · go_wp2_with fail
    exact HQ.out _ _ ⟨rfl, HBc.out⟩
  have HBl := Lib.hid (show bl.length ≤ 1000 ∧ B.length ≤ 1000 by omega)
  go_wp2_with fail
  have hwr := rpwrite_v sd so i0 i1 i2 i3 i4 bl _ w2 H2c.out HO.out
  have hws := fun A c w h => rrwrite_any sd so i0 i1 i2 i3 i4 bl A c w h HO.out
  have hwn : (wrC ⟨sd, so, i0, i1, i2, i3, i4, bl⟩).1 < 256 ∧ (wrC ⟨sd, so, i0, i1, i2, i3, i4, bl⟩).2.1 < 256 := by
    rw [wrC]; split
    · rename_i hr; exact ⟨by have := (rightR_iff.1 hr).2.1; show bl.length < 256; unfold mostN at this; split at this <;> simp only at this <;> omega, by show typR sd < 256; cases sd <;> decide⟩
    · exact ⟨by decide, by decide⟩
  unfold WritePost at hwr hws
  generalize wrE ⟨sd, so, i0, i1, i2, i3, i4, bl⟩ = e6 at *
  obtain ⟨dd, hdd⟩ : ∃ dd, wrC ⟨sd, so, i0, i1, i2, i3, i4, bl⟩ = dd := ⟨_, rfl⟩
  rw [hdd] at hwr hws hwn
  clear hdd
  obtain ⟨n5, y5, E⟩ := dd
  simp only at hwr hws hwn
  have HWs := Lib.hid hws
  have HWn := Lib.hid hwn
  clear hws hwn hx hx3
  refine hwr.mono ?_
  rintro r w3 ⟨v5, rfl, hv5, hb5⟩
  obtain ⟨A5, c5, rfl, _⟩ := bs_parts hv5
  have hba := hb5.alloc hb5.size (.cells #[.int .u8 (n5 : Nat), .int .u8 (y5 : Nat), (.slice A5 E.length c5)] 30 (0, 0))
  have H5d := Lib.hid (hv5.below (below_alloc (.cells #[.int .u8 (n5 : Nat), .int .u8 (y5 : Nat), (.slice A5 E.length c5)] 30 (0, 0))))
  have X5d := Lib.hid (heap_alloc_new w3 (.cells #[.int .u8 (n5 : Nat), .int .u8 (y5 : Nat), (.slice A5 E.length c5)] 30 (0, 0)))
  have X2d := Lib.hid ((Fr.of hba).heap X2c.out (fun h => h))
  have X3d := Lib.hid ((Fr.of hba).heap X3c.out (fun h => h))
  have H3d := Lib.hid (H3c.out.below hba)
  have H2d := Lib.hid (H2c.out.below hba)
  have HBd := Lib.hid (HBc.out.trans (hba.mono HBc.out.size))
  clear X2c X3c H3c H2c HBc
  clear hwr hv5 hb5 hba k0 k1 k2 k3 k4 k5 k6 k7 m0 m1 m2
  go_upto_region 6 with fail
  rw [show w3.alloc (.cells #[.int .u8 (n5 : Nat), .int .u8 (y5 : Nat), (.slice A5 E.length c5)] 30) = w3.alloc (.cells #[.int .u8 (n5 : Nat), .int .u8 (y5 : Nat), (.slice A5 E.length c5)] 30 (0, 0)) from rfl]
  generalize w3.alloc (.cells #[.int .u8 (n5 : Nat), .int .u8 (y5 : Nat), (.slice A5 E.length c5)] 30 (0, 0)) = w4 at *
  generalize w3.heap.size = b5 at *
  obtain ⟨k0, k1, k2, k3, k4, k5, k6, k7⟩ := cells8 X2d.out
  go_wp2_with fail
  refine (rpown_v sd so i0 i1 i2 i3 i4 bl _ w4 H2d.out HBl.out.1).mono ?_
  rintro r w5 ⟨vo, rfl, hvo, hb⟩
  obtain ⟨Ao, co, rfl, _⟩ := hvo.parts
  have HOo := Lib.hid hvo
  have X2e := Lib.hid ((Fr.of hb).heap X2d.out (fun h => h))
  have X3e := Lib.hid ((Fr.of hb).heap X3d.out (fun h => h))
  have X5e := Lib.hid ((Fr.of hb).heap X5d.out (fun h => h))
  have H3e := Lib.hid (H3d.out.below hb)
  have H5e := Lib.hid (H5d.out.below hb)
  have H2e := Lib.hid (H2d.out.below hb)
  have HBe := Lib.hid (HBd.out.trans (hb.mono HBd.out.size))
  clear X2d X3d X5d H3d H5d H2d HBd
  clear hvo hb k0 k1 k2 k3 k4 k5 k6 k7
  go_wp2_with fail
  refine (HWs.out Ao co w5 HOo.out).mono ?_
  rintro r w6 ⟨v7, rfl, hv7, hb7⟩
  obtain ⟨A7, c7, rfl, _⟩ := bs_parts hv7
  have hba := hb7.alloc hb7.size (.cells #[.int .u8 (n5 : Nat), .int .u8 (y5 : Nat), (.slice A7 E.length c7)] 35 (0, 0))
  have H7f := Lib.hid (hv7.below (below_alloc (.cells #[.int .u8 (n5 : Nat), .int .u8 (y5 : Nat), (.slice A7 E.length c7)] 35 (0, 0))))
  have X7f := Lib.hid (heap_alloc_new w6 (.cells #[.int .u8 (n5 : Nat), .int .u8 (y5 : Nat), (.slice A7 E.length c7)] 35 (0, 0)))
  have X2f := Lib.hid ((Fr.of hba).heap X2e.out (fun h => h))
  have X3f := Lib.hid ((Fr.of hba).heap X3e.out (fun h => h))
  have X5f := Lib.hid ((Fr.of hba).heap X5e.out (fun h => h))
  have H3f := Lib.hid (H3e.out.below hba)
  have H5f := Lib.hid (H5e.out.below hba)
  have H2f := Lib.hid (H2e.out.below hba)
  have HBf := Lib.hid (HBe.out.trans (hba.mono HBe.out.size))
  clear X2e X3e X5e H3e H5e H2e HBe
  clear hv7 hb7 hba HOo HWs
  go_upto_region 7 with fail
  rw [show w6.alloc (.cells #[.int .u8 (n5 : Nat), .int .u8 (y5 : Nat), (.slice A7 E.length c7)] 35) = w6.alloc (.cells #[.int .u8 (n5 : Nat), .int .u8 (y5 : Nat), (.slice A7 E.length c7)] 35 (0, 0)) from rfl]
  generalize w6.alloc (.cells #[.int .u8 (n5 : Nat), .int .u8 (y5 : Nat), (.slice A7 E.length c7)] 35 (0, 0)) = w7 at *
  generalize w6.heap.size = b7 at *
  obtain ⟨m0, m1, m2, _, _, _⟩ := cells3 X3f.out
  have hrd := rpread_v n y _ B w7 H3f.out hn hy HBl.out.2
  have hrs := fun w h => rrread_any n y A3 c3 B w h hn hy HBl.out.2
  have hm6 : (readR (n, y, B)).bl.length ≤ 1000 := by
    unfold readR; split
    · unfold decR; split <;> simp only [decBs_len] <;> omega
    · exact Nat.zero_le _
  have HMm := Lib.hid hm6
  clear hm6
  unfold RdPostR rval at hrd hrs
  generalize rdErr (n, y, B) = er at *
  generalize readR (n, y, B) = r6 at *
  have HRs := Lib.hid hrs
  clear hrs
  go_wp2_with fail
  refine hrd.mono ?_
  rintro r w8 ⟨v9, rfl, hv9, hb9⟩
  obtain ⟨A9, c9, rfl, _⟩ := hv9.parts
  have hba := hb9.alloc hb9.size (.cells #[.bool r6.sd, .int .u32 (r6.so : Nat), .int .u32 (r6.i0 : Nat), .int .u32 (r6.i1 : Nat), .int .u32 (r6.i2 : Nat), .int .u32 (r6.i3 : Nat), .int .u32 (r6.i4 : Nat), (.slice A9 r6.bl.length c9)] 27 (0, 0))
  have H9g := Lib.hid (hv9.below (below_alloc (.cells #[.bool r6.sd, .int .u32 (r6.so : Nat), .int .u32 (r6.i0 : Nat), .int .u32 (r6.i1 : Nat), .int .u32 (r6.i2 : Nat), .int .u32 (r6.i3 : Nat), .int .u32 (r6.i4 : Nat), (.slice A9 r6.bl.length c9)] 27 (0, 0))))
  have X9g := Lib.hid (heap_alloc_new w8 (.cells #[.bool r6.sd, .int .u32 (r6.so : Nat), .int .u32 (r6.i0 : Nat), .int .u32 (r6.i1 : Nat), .int .u32 (r6.i2 : Nat), .int .u32 (r6.i3 : Nat), .int .u32 (r6.i4 : Nat), (.slice A9 r6.bl.length c9)] 27 (0, 0)))
  have X2g := Lib.hid ((Fr.of hba).heap X2f.out (fun h => h))
  have X3g := Lib.hid ((Fr.of hba).heap X3f.out (fun h => h))
  have X5g := Lib.hid ((Fr.of hba).heap X5f.out (fun h => h))
  have X7g := Lib.hid ((Fr.of hba).heap X7f.out (fun h => h))
  have H3g := Lib.hid (H3f.out.below hba)
  have H5g := Lib.hid (H5f.out.below hba)
  have H7g := Lib.hid (H7f.out.below hba)
  have H2g := Lib.hid (H2f.out.below hba)
  have HBg := Lib.hid (HBf.out.trans (hba.mono HBf.out.size))
  clear X2f X3f X5f X7f H3f H5f H7f H2f HBf
  clear hrd hv9 hb9 hba m0 m1 m2
  go_upto_region 8 with fail
  rw [show w8.alloc (.cells #[.bool r6.sd, .int .u32 (r6.so : Nat), .int .u32 (r6.i0 : Nat), .int .u32 (r6.i1 : Nat), .int .u32 (r6.i2 : Nat), .int .u32 (r6.i3 : Nat), .int .u32 (r6.i4 : Nat), (.slice A9 r6.bl.length c9)] 27) = w8.alloc (.cells #[.bool r6.sd, .int .u32 (r6.so : Nat), .int .u32 (r6.i0 : Nat), .int .u32 (r6.i1 : Nat), .int .u32 (r6.i2 : Nat), .int .u32 (r6.i3 : Nat), .int .u32 (r6.i4 : Nat), (.slice A9 r6.bl.length c9)] 27 (0, 0)) from rfl]
  generalize w8.alloc (.cells #[.bool r6.sd, .int .u32 (r6.so : Nat), .int .u32 (r6.i0 : Nat), .int .u32 (r6.i1 : Nat), .int .u32 (r6.i2 : Nat), .int .u32 (r6.i3 : Nat), .int .u32 (r6.i4 : Nat), (.slice A9 r6.bl.length c9)] 27 (0, 0)) = w9 at *
  generalize w8.heap.size = b9 at *
  obtain ⟨m0, m1, m2, _, _, _⟩ := cells3 X3g.out
  go_wp2_with fail
  refine (HRs.out w9 H3g.out).mono ?_
  rintro r w10 ⟨v11, rfl, hv11, hb11⟩
  obtain ⟨A11, c11, rfl, _⟩ := hv11.parts
  have hba := hb11.alloc hb11.size (.cells #[.bool r6.sd, .int .u32 (r6.so : Nat), .int .u32 (r6.i0 : Nat), .int .u32 (r6.i1 : Nat), .int .u32 (r6.i2 : Nat), .int .u32 (r6.i3 : Nat), .int .u32 (r6.i4 : Nat), (.slice A11 r6.bl.length c11)] 41 (0, 0))
  have H11h := Lib.hid (hv11.below (below_alloc (.cells #[.bool r6.sd, .int .u32 (r6.so : Nat), .int .u32 (r6.i0 : Nat), .int .u32 (r6.i1 : Nat), .int .u32 (r6.i2 : Nat), .int .u32 (r6.i3 : Nat), .int .u32 (r6.i4 : Nat), (.slice A11 r6.bl.length c11)] 41 (0, 0))))
  have X11h := Lib.hid (heap_alloc_new w10 (.cells #[.bool r6.sd, .int .u32 (r6.so : Nat), .int .u32 (r6.i0 : Nat), .int .u32 (r6.i1 : Nat), .int .u32 (r6.i2 : Nat), .int .u32 (r6.i3 : Nat), .int .u32 (r6.i4 : Nat), (.slice A11 r6.bl.length c11)] 41 (0, 0)))
  have X2h := Lib.hid ((Fr.of hba).heap X2g.out (fun h => h))
  have X3h := Lib.hid ((Fr.of hba).heap X3g.out (fun h => h))
  have X5h := Lib.hid ((Fr.of hba).heap X5g.out (fun h => h))
  have X7h := Lib.hid ((Fr.of hba).heap X7g.out (fun h => h))
  have X9h := Lib.hid ((Fr.of hba).heap X9g.out (fun h => h))
  have H3h := Lib.hid (H3g.out.below hba)
  have H5h := Lib.hid (H5g.out.below hba)
  have H7h := Lib.hid (H7g.out.below hba)
  have H2h := Lib.hid (H2g.out.below hba)
  have H9h := Lib.hid (H9g.out.below hba)
  have HBh := Lib.hid (HBg.out.trans (hba.mono HBg.out.size))
  clear X2g X3g X5g X7g X9g H3g H5g H7g H2g H9g HBg
  clear hv11 hb11 hba m0 m1 m2 HRs
  go_upto_region 9 with fail
  rw [show w10.alloc (.cells #[.bool r6.sd, .int .u32 (r6.so : Nat), .int .u32 (r6.i0 : Nat), .int .u32 (r6.i1 : Nat), .int .u32 (r6.i2 : Nat), .int .u32 (r6.i3 : Nat), .int .u32 (r6.i4 : Nat), (.slice A11 r6.bl.length c11)] 41) = w10.alloc (.cells #[.bool r6.sd, .int .u32 (r6.so : Nat), .int .u32 (r6.i0 : Nat), .int .u32 (r6.i1 : Nat), .int .u32 (r6.i2 : Nat), .int .u32 (r6.i3 : Nat), .int .u32 (r6.i4 : Nat), (.slice A11 r6.bl.length c11)] 41 (0, 0)) from rfl]
  generalize w10.alloc (.cells #[.bool r6.sd, .int .u32 (r6.so : Nat), .int .u32 (r6.i0 : Nat), .int .u32 (r6.i1 : Nat), .int .u32 (r6.i2 : Nat), .int .u32 (r6.i3 : Nat), .int .u32 (r6.i4 : Nat), (.slice A11 r6.bl.length c11)] 41 (0, 0)) = w11 at *
  generalize w10.heap.size = b11 at *
  have HT := Lib.hid (show RT w b2 b3 b5 b7 b9 b11 (.cells #[.bool sd, .int .u32 (so : Nat), .int .u32 (i0 : Nat), .int .u32 (i1 : Nat), .int .u32 (i2 : Nat), .int .u32 (i3 : Nat), .int .u32 (i4 : Nat), (.slice A2 bl.length c2)] 27 (0, 0)) (.cells #[.int .u8 (n : Nat), .int .u8 (y : Nat), (.slice A3 B.length c3)] 30 (0, 0)) (.cells #[.int .u8 (n5 : Nat), .int .u8 (y5 : Nat), (.slice A5 E.length c5)] 30 (0, 0)) (.cells #[.int .u8 (n5 : Nat), .int .u8 (y5 : Nat), (.slice A7 E.length c7)] 35 (0, 0)) (.cells #[.bool r6.sd, .int .u32 (r6.so : Nat), .int .u32 (r6.i0 : Nat), .int .u32 (r6.i1 : Nat), .int .u32 (r6.i2 : Nat), .int .u32 (r6.i3 : Nat), .int .u32 (r6.i4 : Nat), (.slice A9 r6.bl.length c9)] 27 (0, 0)) (.cells #[.bool r6.sd, .int .u32 (r6.so : Nat), .int .u32 (r6.i0 : Nat), .int .u32 (r6.i1 : Nat), .int .u32 (r6.i2 : Nat), .int .u32 (r6.i3 : Nat), .int .u32 (r6.i4 : Nat), (.slice A11 r6.bl.length c11)] 41 (0, 0)) (.slice A2 bl.length c2) bl (.slice A3 B.length c3) B (.slice A5 E.length c5) (.slice A7 E.length c7) E (.slice A9 r6.bl.length c9) (.slice A11 r6.bl.length c11) r6.bl w11 from ⟨X2h.out, X3h.out, X5h.out, X7h.out, X9h.out, X11h.out, H2h.out, H3h.out, H5h.out, H7h.out, H9h.out, H11h.out, HBh.out⟩)
  clear X2h X3h X5h X7h X9h X11h H2h H3h H5h H7h H9h H11h HBh
  obtain ⟨b, hbr⟩ : ∃ b, rightR ⟨sd, so, i0, i1, i2, i3, i4, bl⟩ = b := ⟨_, rfl⟩
  have HRi := Lib.hid (fun w => rpright_v sd so i0 i1 i2 i3 i4 bl (.slice A2 bl.length c2) w)
  have HRj := Lib.hid (fun A c w => rrright_any sd so i0 i1 i2 i3 i4 bl A c w)
  rw [hbr] at HRi HRj
  clear hbr
  go_region_held3 (fun w' => RT w b2 b3 b5 b7 b9 b11 (.cells #[.bool sd, .int .u32 (so : Nat), .int .u32 (i0 : Nat), .int .u32 (i1 : Nat), .int .u32 (i2 : Nat), .int .u32 (i3 : Nat), .int .u32 (i4 : Nat), (.slice A2 bl.length c2)] 27 (0, 0)) (.cells #[.int .u8 (n : Nat), .int .u8 (y : Nat), (.slice A3 B.length c3)] 30 (0, 0)) (.cells #[.int .u8 (n5 : Nat), .int .u8 (y5 : Nat), (.slice A5 E.length c5)] 30 (0, 0)) (.cells #[.int .u8 (n5 : Nat), .int .u8 (y5 : Nat), (.slice A7 E.length c7)] 35 (0, 0)) (.cells #[.bool r6.sd, .int .u32 (r6.so : Nat), .int .u32 (r6.i0 : Nat), .int .u32 (r6.i1 : Nat), .int .u32 (r6.i2 : Nat), .int .u32 (r6.i3 : Nat), .int .u32 (r6.i4 : Nat), (.slice A9 r6.bl.length c9)] 27 (0, 0)) (.cells #[.bool r6.sd, .int .u32 (r6.so : Nat), .int .u32 (r6.i0 : Nat), .int .u32 (r6.i1 : Nat), .int .u32 (r6.i2 : Nat), .int .u32 (r6.i3 : Nat), .int .u32 (r6.i4 : Nat), (.slice A11 r6.bl.length c11)] 41 (0, 0)) (.slice A2 bl.length c2) bl (.slice A3 B.length c3) B (.slice A5 E.length c5) (.slice A7 E.length c7) E (.slice A9 r6.bl.length c9) (.slice A11 r6.bl.length c11) r6.bl w' ∧ w'.cell? ⟨b2, 0, none⟩ = some (.bool sd) ∧ w'.cell? ⟨b2, 1, none⟩ = some (.int .u32 (so : Nat)) ∧ w'.cell? ⟨b2, 2, none⟩ = some (.int .u32 (i0 : Nat)) ∧ w'.cell? ⟨b2, 3, none⟩ = some (.int .u32 (i1 : Nat)) ∧ w'.cell? ⟨b2, 4, none⟩ = some (.int .u32 (i2 : Nat)) ∧ w'.cell? ⟨b2, 5, none⟩ = some (.int .u32 (i3 : Nat)) ∧ w'.cell? ⟨b2, 6, none⟩ = some (.int .u32 (i4 : Nat)) ∧ w'.cell? ⟨b2, 7, none⟩ = some ((.slice A2 bl.length c2)) ∧ w'.cell? ⟨b5, 0, none⟩ = some (.int .u8 (n5 : Nat)) ∧ w'.cell? ⟨b5, 1, none⟩ = some (.int .u8 (y5 : Nat)) ∧ w'.cell? ⟨b5, 2, none⟩ = some ((.slice A5 E.length c5)) ∧ w'.cell? ⟨b7, 0, none⟩ = some (.int .u8 (n5 : Nat)) ∧ w'.cell? ⟨b7, 1, none⟩ = some (.int .u8 (y5 : Nat)) ∧ w'.cell? ⟨b7, 2, none⟩ = some ((.slice A7 E.length c7)) ∧ w'.cell? ⟨b9, 0, none⟩ = some (.bool r6.sd) ∧ w'.cell? ⟨b9, 1, none⟩ = some (.int .u32 (r6.so : Nat)) ∧ w'.cell? ⟨b9, 2, none⟩ = some (.int .u32 (r6.i0 : Nat)) ∧ w'.cell? ⟨b9, 3, none⟩ = some (.int .u32 (r6.i1 : Nat)) ∧ w'.cell? ⟨b9, 4, none⟩ = some (.int .u32 (r6.i2 : Nat)) ∧ w'.cell? ⟨b9, 5, none⟩ = some (.int .u32 (r6.i3 : Nat)) ∧ w'.cell? ⟨b9, 6, none⟩ = some (.int .u32 (r6.i4 : Nat)) ∧ w'.cell? ⟨b9, 7, none⟩ = some ((.slice A9 r6.bl.length c9)) ∧ w'.cell? ⟨b11, 0, none⟩ = some (.bool r6.sd) ∧ w'.cell? ⟨b11, 1, none⟩ = some (.int .u32 (r6.so : Nat)) ∧ w'.cell? ⟨b11, 2, none⟩ = some (.int .u32 (r6.i0 : Nat)) ∧ w'.cell? ⟨b11, 3, none⟩ = some (.int .u32 (r6.i1 : Nat)) ∧ w'.cell? ⟨b11, 4, none⟩ = some (.int .u32 (r6.i2 : Nat)) ∧ w'.cell? ⟨b11, 5, none⟩ = some (.int .u32 (r6.i3 : Nat)) ∧ w'.cell? ⟨b11, 6, none⟩ = some (.int .u32 (r6.i4 : Nat)) ∧ w'.cell? ⟨b11, 7, none⟩ = some ((.slice A11 r6.bl.length c11))) (first | exact (((‹RT w b2 b3 b5 b7 b9 b11 _ _ _ _ _ _ _ _ _ _ _ _ _ _ _ _ _ ∧ _›).1).after (by assumption)).cells | exact (HT.out.drew).cells) (first
    | (go_at_call 12; have hh := (‹RT w b2 b3 b5 b7 b9 b11 _ _ _ _ _ _ _ _ _ _ _ _ _ _ _ _ _ ∧ _›).1; refine (HRi.out _ hh.h2).mono ?_; rintro e w13 ⟨rfl, hb⟩; clear hh)
    | (go_at_call_of 9 A2; have hh := (‹RT w b2 b3 b5 b7 b9 b11 _ _ _ _ _ _ _ _ _ _ _ _ _ _ _ _ _ ∧ _›).1; refine (rpown_v sd so i0 i1 i2 i3 i4 bl _ _ hh.h2 HBl.out.1).mono ?_; rintro e w13 ⟨vor, rfl, hor, hb⟩; obtain ⟨Ar, cr, rfl, _⟩ := hor.parts; have HOr := Lib.hid hor; clear hh hor)
    | (go_at_call_of 9 A9; have hh := (‹RT w b2 b3 b5 b7 b9 b11 _ _ _ _ _ _ _ _ _ _ _ _ _ _ _ _ _ ∧ _›).1; refine (rpown_v r6.sd r6.so r6.i0 r6.i1 r6.i2 r6.i3 r6.i4 r6.bl _ _ hh.h9 HMm.out).mono ?_; rintro e w13 ⟨vos, rfl, hos, hb⟩; have HOs := Lib.hid hos; clear hh hos)
    | (go_at_call 13; refine (HRj.out _ _ _ HOr.out).mono ?_; rintro e w13 ⟨rfl, hb⟩)
    | (go_at_call 14; have hh := (‹RT w b2 b3 b5 b7 b9 b11 _ _ _ _ _ _ _ _ _ _ _ _ _ _ _ _ _ ∧ _›).1; refine (cksame_is (r := true) n5 y5 _ E n5 y5 _ E _ hh.h5 hh.h7 HWn.out.1 HWn.out.2 HWn.out.1 HWn.out.2 (decide_eq_true rfl)).mono ?_; rintro e w13 ⟨rfl, hb⟩; clear hh)
    | (go_at_call 15; have hh := (‹RT w b2 b3 b5 b7 b9 b11 _ _ _ _ _ _ _ _ _ _ _ _ _ _ _ _ _ ∧ _›).1; refine (rpsame_v (r := true) r6.sd r6.so r6.i0 r6.i1 r6.i2 r6.i3 r6.i4 r6.bl _ _ r6.sd r6.so r6.i0 r6.i1 r6.i2 r6.i3 r6.i4 r6.bl _ HOs.out hh.h11 ⟨fun _ => rfl, fun _ => rfl⟩).mono ?_; rintro e w13 ⟨rfl, hb⟩; clear hh))
  have hh := (‹RT w b2 b3 b5 b7 b9 b11 _ _ _ _ _ _ _ _ _ _ _ _ _ _ _ _ _ ∧ _›).1
  go_wp2_with fail
  exact HQ.out _ _ ⟨rfl, hh.below⟩
end Go.Proofs.Ythgajlmhgbhmlaa
