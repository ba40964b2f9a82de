/- The walk of ReportBack: the boxes; a chunk comes back from its report. -/
import Derived.Test.YthgajlmhgbhmlaaRpAk
import Derived.Deep.DeepCutAuto
namespace Go.Proofs.Ythgajlmhgbhmlaa
open Go.RowKit

abbrev oRp (sd : Bool) (so i0 i1 i2 i3 i4 : Nat) (v : Value) : Obj := .cells #[.bool sd, .int .u32 (so : Nat), .int .u32 (i0 : Nat), .int .u32 (i1 : Nat), .int .u32 (i2 : Nat), .int .u32 (i3 : Nat), .int .u32 (i4 : Nat), v] 27 (0, 0)
abbrev oCk (n y : Nat) (v : Value) : Obj := .cells #[.int .u8 (n : Nat), .int .u8 (y : Nat), v] 30 (0, 0)
/-- two reports and a chunk in boxes -/
structure RK (w0 : World) (b3 b4 b5 : Nat) (o3 o4 o5 : Obj) (u3 : Value) (bl : List DB) (u4 : Value) (bm : List DB) (u5 : Value) (B : List UInt8) (w : World) : Prop where
  x3 : w.heap[b3]? = some o3
  x4 : w.heap[b4]? = some o4
  x5 : w.heap[b5]? = some o5
  h3 : BlS w u3 bl
  h4 : BlS w u4 bm
  h5 : BS w u5 B
  below : Below w0.heap.size w0 w
section
variable {w0 w w' : World} {b3 b4 b5 : Nat} {o3 o4 o5 : Obj} {u3 u4 u5 : Value} {bl bm : List DB} {B : List UInt8}
theorem RK.after (h : RK w0 b3 b4 b5 o3 o4 o5 u3 bl u4 bm u5 B w) (hb : Below w.heap.size w w') : RK w0 b3 b4 b5 o3 o4 o5 u3 bl u4 bm u5 B w' :=
  ⟨(Fr.of hb).heap h.x3 (fun h => h), (Fr.of hb).heap h.x4 (fun h => h), (Fr.of hb).heap h.x5 (fun h => h), h.h3.below hb, h.h4.below hb, h.h5.below hb, h.below.trans (hb.mono h.below.size)⟩
end
/-- .. and a chunk, and a report, made of the first -/
structure RK2 (w0 : World) (b3 b4 b5 b11 b13 : Nat) (o3 o4 o5 o11 o13 : Obj) (u3 : Value) (bl : List DB) (u4 : Value) (bm : List DB) (u5 : Value) (B : List UInt8) (u11 : Value) (E : List UInt8) (u13 : Value) (w : World) : Prop where
  k : RK w0 b3 b4 b5 o3 o4 o5 u3 bl u4 bm u5 B w
  x11 : w.heap[b11]? = some o11
  x13 : w.heap[b13]? = some o13
  h11 : BS w u11 E
  h13 : BlS w u13 bl
section
variable {w0 w w' : World} {b3 b4 b5 b11 b13 : Nat} {o3 o4 o5 o11 o13 : Obj} {u3 u4 u5 u11 u13 : Value} {bl bm : List DB} {B E : List UInt8}
theorem RK2.after (h : RK2 w0 b3 b4 b5 b11 b13 o3 o4 o5 o11 o13 u3 bl u4 bm u5 B u11 E u13 w) (hb : Below w.heap.size w w') : RK2 w0 b3 b4 b5 b11 b13 o3 o4 o5 o11 o13 u3 bl u4 bm u5 B u11 E u13 w' :=
  ⟨h.k.after hb, (Fr.of hb).heap h.x11 (fun h => h), (Fr.of hb).heap h.x13 (fun h => h), h.h11.below hb, h.h13.below hb⟩
theorem RK2.drew (h : RK2 w0 b3 b4 b5 b11 b13 o3 o4 o5 o11 o13 u3 bl u4 bm u5 B u11 E u13 w) : RK2 w0 b3 b4 b5 b11 b13 o3 o4 o5 o11 o13 u3 bl u4 bm u5 B u11 E u13 w.drew := h.after (below_drewN (Below.refl _ _) 1)
end
theorem RK2.cells {w0 w : World} {b3 b4 b5 b11 b13 : Nat} {o4 o5 : Obj} {x0 x1 x2 x3 x4 x5 x6 x7 y0 y1 y2 y3 y4 y5 y6 y7 z0 z1 z2 : Value} {t t2 t3 : TypeId} {u3 u4 u5 u11 u13 : Value} {bl bm : List DB} {B E : List UInt8}
    (h : RK2 w0 b3 b4 b5 b11 b13 (.cells #[x0, x1, x2, x3, x4, x5, x6, x7] t (0, 0)) o4 o5 (.cells #[z0, z1, z2] t3 (0, 0)) (.cells #[y0, y1, y2, y3, y4, y5, y6, y7] t2 (0, 0)) u3 bl u4 bm u5 B u11 E u13 w) :
    RK2 w0 b3 b4 b5 b11 b13 (.cells #[x0, x1, x2, x3, x4, x5, x6, x7] t (0, 0)) o4 o5 (.cells #[z0, z1, z2] t3 (0, 0)) (.cells #[y0, y1, y2, y3, y4, y5, y6, y7] t2 (0, 0)) u3 bl u4 bm u5 B u11 E u13 w ∧ w.cell? ⟨b3, 0, none⟩ = some (x0) ∧ w.cell? ⟨b3, 1, none⟩ = some (x1) ∧ w.cell? ⟨b3, 2, none⟩ = some (x2) ∧ w.cell? ⟨b3, 3, none⟩ = some (x3) ∧ w.cell? ⟨b3, 4, none⟩ = some (x4) ∧ w.cell? ⟨b3, 5, none⟩ = some (x5) ∧ w.cell? ⟨b3, 6, none⟩ = some (x6) ∧ w.cell? ⟨b3, 7, none⟩ = some (x7) ∧ w.cell? ⟨b13, 0, none⟩ = some (y0) ∧ w.cell? ⟨b13, 1, none⟩ = some (y1) ∧ w.cell? ⟨b13, 2, none⟩ = some (y2) ∧ w.cell? ⟨b13, 3, none⟩ = some (y3) ∧ w.cell? ⟨b13, 4, none⟩ = some (y4) ∧ w.cell? ⟨b13, 5, none⟩ = some (y5) ∧ w.cell? ⟨b13, 6, none⟩ = some (y6) ∧ w.cell? ⟨b13, 7, none⟩ = some (y7) ∧ w.cell? ⟨b11, 0, none⟩ = some (z0) ∧ w.cell? ⟨b11, 1, none⟩ = some (z1) ∧ w.cell? ⟨b11, 2, none⟩ = some (z2) := by
  have c := obj_cell h.k.x3
  have d := obj_cell h.x13
  have e := obj_cell h.x11
  exact ⟨h, c 0, c 1, c 2, c 3, c 4, c 5, c 6, c 7, d 0, d 1, d 2, d 3, d 4, d 5, d 6, d 7, e 0, e 1, e 2⟩
/-- .. and two chunks -/
structure RK3 (w0 : World) (b3 b4 b5 b11 b15 : Nat) (o3 o4 o5 o11 o15 : Obj) (u3 : Value) (bl : List DB) (u4 : Value) (bm : List DB) (u5 : Value) (B : List UInt8) (u11 : Value) (E : List UInt8) (u15 : Value) (F : List UInt8) (w : World) : Prop where
  k : RK w0 b3 b4 b5 o3 o4 o5 u3 bl u4 bm u5 B w
  x11 : w.heap[b11]? = some o11
  x15 : w.heap[b15]? = some o15
  h11 : BS w u11 E
  h15 : BS w u15 F
theorem RK3.after {w0 w w' : World} {b3 b4 b5 b11 b15 : Nat} {o3 o4 o5 o11 o15 : Obj} {u3 u4 u5 u11 u15 : Value} {bl bm : List DB} {B E F : List UInt8} (h : RK3 w0 b3 b4 b5 b11 b15 o3 o4 o5 o11 o15 u3 bl u4 bm u5 B u11 E u15 F w) (hb : Below w.heap.size w w') : RK3 w0 b3 b4 b5 b11 b15 o3 o4 o5 o11 o15 u3 bl u4 bm u5 B u11 E u15 F w' :=
  ⟨h.k.after hb, (Fr.of hb).heap h.x11 (fun h => h), (Fr.of hb).heap h.x15 (fun h => h), h.h11.below hb, h.h15.below hb⟩
theorem RK3.drew {w0 w : World} {b3 b4 b5 b11 b15 : Nat} {o3 o4 o5 o11 o15 : Obj} {u3 u4 u5 u11 u15 : Value} {bl bm : List DB} {B E F : List UInt8} (h : RK3 w0 b3 b4 b5 b11 b15 o3 o4 o5 o11 o15 u3 bl u4 bm u5 B u11 E u15 F w) : RK3 w0 b3 b4 b5 b11 b15 o3 o4 o5 o11 o15 u3 bl u4 bm u5 B u11 E u15 F w.drew := h.after (below_drewN (Below.refl _ _) 1)
theorem RK3.cells {w0 w : World} {b3 b4 b5 b11 b15 : Nat} {o5 : Obj} {x0 x1 x2 x3 x4 x5 x6 x7 y0 y1 y2 y3 y4 y5 y6 y7 z0 z1 z2 v0 v1 v2 : Value} {t t2 t3 t4 : TypeId} {u3 u4 u5 u11 u15 : Value} {bl bm : List DB} {B E F : List UInt8}
    (h : RK3 w0 b3 b4 b5 b11 b15 (.cells #[x0, x1, x2, x3, x4, x5, x6, x7] t (0, 0)) (.cells #[y0, y1, y2, y3, y4, y5, y6, y7] t2 (0, 0)) o5 (.cells #[z0, z1, z2] t3 (0, 0)) (.cells #[v0, v1, v2] t4 (0, 0)) u3 bl u4 bm u5 B u11 E u15 F w) :
    RK3 w0 b3 b4 b5 b11 b15 (.cells #[x0, x1, x2, x3, x4, x5, x6, x7] t (0, 0)) (.cells #[y0, y1, y2, y3, y4, y5, y6, y7] t2 (0, 0)) o5 (.cells #[z0, z1, z2] t3 (0, 0)) (.cells #[v0, v1, v2] t4 (0, 0)) u3 bl u4 bm u5 B u11 E u15 F w ∧ w.cell? ⟨b3, 0, none⟩ = some (x0) ∧ w.cell? ⟨b3, 1, none⟩ = some (x1) ∧ w.cell? ⟨b3, 2, none⟩ = some (x2) ∧ w.cell? ⟨b3, 3, none⟩ = some (x3) ∧ w.cell? ⟨b3, 4, none⟩ = some (x4) ∧ w.cell? ⟨b3, 5, none⟩ = some (x5) ∧ w.cell? ⟨b3, 6, none⟩ = some (x6) ∧ w.cell? ⟨b3, 7, none⟩ = some (x7) ∧ w.cell? ⟨b4, 0, none⟩ = some (y0) ∧ w.cell? ⟨b4, 1, none⟩ = some (y1) ∧ w.cell? ⟨b4, 2, none⟩ = some (y2) ∧ w.cell? ⟨b4, 3, none⟩ = some (y3) ∧ w.cell? ⟨b4, 4, none⟩ = some (y4) ∧ w.cell? ⟨b4, 5, none⟩ = some (y5) ∧ w.cell? ⟨b4, 6, none⟩ = some (y6) ∧ w.cell? ⟨b4, 7, none⟩ = some (y7) ∧ w.cell? ⟨b11, 0, none⟩ = some (z0) ∧ w.cell? ⟨b11, 1, none⟩ = some (z1) ∧ w.cell? ⟨b11, 2, none⟩ = some (z2) ∧ w.cell? ⟨b15, 0, none⟩ = some (v0) ∧ w.cell? ⟨b15, 1, none⟩ = some (v1) ∧ w.cell? ⟨b15, 2, none⟩ = some (v2) := by
  have c := obj_cell h.k.x3
  have d := obj_cell h.k.x4
  have e := obj_cell h.x11
  have f := obj_cell h.x15
  exact ⟨h, c 0, c 1, c 2, c 3, c 4, c 5, c 6, c 7, d 0, d 1, d 2, d 3, d 4, d 5, d 6, d 7, e 0, e 1, e 2, f 0, f 1, f 2⟩
theorem cright_v {r : Bool} (n y : Nat) (v : Value) (b : List UInt8) (w : World) (h : BS w v b) (hb : b.length ≤ 1000) (hr : rightC (n, y, b) = r) :
    Calls Try.prog 16 #[.agg #[.int .u8 (n : Nat), .int .u8 (y : Nat), v]] w fun e w' => e = .returned (.bool r) ∧ Below w.heap.size w w' := by
  subst hr
  obtain ⟨A, c, rfl, _⟩ := bs_parts h
  exact cright_any n y A c b w (by omega)
/-- a chunk comes back from its report -/
theorem ck_back {d : DC} (h : rdErr d = 0) : readR d = decR d ∧ (decR d).Ok ∧ wrE (decR d) = 0 ∧ wrC (decR d) = d := by
  obtain ⟨h1, h2⟩ := back_c h
  exact ⟨by rw [readR, if_pos h], decR_ok d, by rw [wrE, if_pos h1], by rw [wrC, if_pos h1, h2]⟩
set_option maxRecDepth 20000 in
set_option maxHeartbeats 4000000 in
theorem rpback_any (sd : Bool) (so i0 i1 i2 i3 i4 : Nat) (bl : List DB) (u3 : Value) (td : Bool) (tz j0 j1 j2 j3 j4 : Nat) (bm : List DB) (u4 : Value) (n y : Nat) (B : List UInt8) (u5 : Value) (w : World)
    (h3 : BlS w u3 bl) (ho : DR.Ok ⟨sd, so, i0, i1, i2, i3, i4, bl⟩) (h4 : BlS w u4 bm) (hp : DR.Ok ⟨td, tz, j0, j1, j2, j3, j4, bm⟩) (h5 : BS w u5 B) (hn : n < 256) (hy : y < 256) :
    Calls Try.prog 4 #[.agg #[.bool sd, .int .u32 (so : Nat), .int .u32 (i0 : Nat), .int .u32 (i1 : Nat), .int .u32 (i2 : Nat), .int .u32 (i3 : Nat), .int .u32 (i4 : Nat), u3],
        .agg #[.bool td, .int .u32 (tz : Nat), .int .u32 (j0 : Nat), .int .u32 (j1 : Nat), .int .u32 (j2 : Nat), .int .u32 (j3 : Nat), .int .u32 (j4 : Nat), u4], .agg #[.int .u8 (n : Nat), .int .u8 (y : Nat), u5]] w
      fun r w' => r = .returned (.bool true) ∧ Below w.heap.size w w' := by
  have HO := Lib.hid ho
  have HP := Lib.hid hp
  obtain ⟨A3, c3, rfl, _⟩ := h3.parts
  obtain ⟨A4, c4, rfl, _⟩ := h4.parts
  obtain ⟨A5, c5, rfl, _⟩ := bs_parts h5
  have hb1 := below_alloc (w := w) (oRp sd so i0 i1 i2 i3 i4 (.slice A3 bl.length c3))
  have hb2 := hb1.alloc hb1.size (oRp td tz j0 j1 j2 j3 j4 (.slice A4 bm.length c4))
  have hb3 := hb2.alloc hb2.size (oCk n y (.slice A5 B.length c5))
  have HK := Lib.hid (show RK w w.heap.size (w.heap.size + 1) (w.heap.size + 1 + 1) (oRp sd so i0 i1 i2 i3 i4 (.slice A3 bl.length c3)) (oRp td tz j0 j1 j2 j3 j4 (.slice A4 bm.length c4)) (oCk n y (.slice A5 B.length c5)) (.slice A3 bl.length c3) bl (.slice A4 bm.length c4) bm (.slice A5 B.length c5) B (((w.alloc (oRp sd so i0 i1 i2 i3 i4 (.slice A3 bl.length c3))).alloc (oRp td tz j0 j1 j2 j3 j4 (.slice A4 bm.length c4))).alloc (oCk n y (.slice A5 B.length c5))) from
    ⟨heap3_1 _ _ _ _, heap3_2 _ _ _ _, heap3_3 _ _ _ _, h3.below hb3, h4.below hb3, h5.below hb3, hb3⟩)
  clear ho hp h3 h4 h5 hb1 hb2 hb3
  refine calls_q fun Q HQ => ?_
  go_enter Try.func4, Try.ntmps4
  go_wp2_with fail
  rw [show ((w.alloc (.cells #[.bool sd, .int .u32 (so : Nat), .int .u32 (i0 : Nat), .int .u32 (i1 : Nat), .int .u32 (i2 : Nat), .int .u32 (i3 : Nat), .int .u32 (i4 : Nat), .slice A3 bl.length c3] 27)).alloc (.cells #[.bool td, .int .u32 (tz : Nat), .int .u32 (j0 : Nat), .int .u32 (j1 : Nat), .int .u32 (j2 : Nat), .int .u32 (j3 : Nat), .int .u32 (j4 : Nat), .slice A4 bm.length c4] 27)).alloc (.cells #[.int .u8 (n : Nat), .int .u8 (y : Nat), .slice A5 B.length c5] 30) = (((w.alloc (oRp sd so i0 i1 i2 i3 i4 (.slice A3 bl.length c3))).alloc (oRp td tz j0 j1 j2 j3 j4 (.slice A4 bm.length c4))).alloc (oCk n y (.slice A5 B.length c5))) from rfl]
  generalize (((w.alloc (oRp sd so i0 i1 i2 i3 i4 (.slice A3 bl.length c3))).alloc (oRp td tz j0 j1 j2 j3 j4 (.slice A4 bm.length c4))).alloc (oCk n y (.slice A5 B.length c5))) = w1 at *
  generalize w.heap.size + 1 + 1 = b5 at *
  generalize w.heap.size + 1 = b4 at *
  obtain ⟨b3, hb3⟩ : ∃ b3, w.heap.size = b3 := ⟨_, rfl⟩
  have hk := HK.out
  rw [show RK w w.heap.size b4 b5 = RK w b3 b4 b5 by rw [hb3]] at hk
  refine (awake8_any w1).mono ?_
  rintro r w2 ⟨rfl, hb⟩
  have HK2 := Lib.hid (hk.after hb)
  have HBq := Lib.hid hb3
  clear hb hk HK
  rw [hb3]
  clear hb3
  obtain ⟨k0, k1, k2, k3, k4, k5, k6, k7⟩ := cells8 HK2.out.x3
  obtain ⟨l0, l1, l2, l3, l4, l5, l6, l7⟩ := cells8 HK2.out.x4
  obtain ⟨m0, m1, m2, _, _, _⟩ := cells3 HK2.out.x5
  by_cases hx : (40 : Int) < (bl.length : Int)
  · go_wp2_with fail
    exact HQ.out _ _ ⟨rfl, HK2.out.below⟩
  by_cases hx2 : (40 : Int) < (bm.length : Int)
  · go_wp2_with fail
    exact HQ.out _ _ ⟨rfl, HK2.out.below⟩
  by_cases hx3 : (400 : Int) < (B.length : Int)
  · go_wp2_with fail
    exact HQ.out _ _ ⟨rfl, HK2.out.below⟩
  have HBl := Lib.hid (show bl.length ≤ 1000 ∧ bm.length ≤ 1000 ∧ B.length ≤ 1000 by omega)
  go_wp2_with fail
  have hrd := rpread_v n y _ B w2 HK2.out.h5 hn hy HBl.out.2.2
  unfold RdPostR rval at hrd
  obtain ⟨er, her⟩ : ∃ er, rdErr (n, y, B) = er := ⟨_, rfl⟩
  obtain ⟨r6, hr6⟩ : ∃ r6, readR (n, y, B) = r6 := ⟨_, rfl⟩
  rw [her, hr6] at hrd
  have HEr := Lib.hid her
  have HR6 := Lib.hid hr6
  clear her hr6
  refine hrd.mono ?_
  rintro r w3 ⟨v6, rfl, hv6, hb6⟩
  obtain ⟨A6, c6, rfl, _⟩ := hv6.parts
  have hba := hb6.alloc hb6.size (.cells #[.bool r6.sd, .int .u32 (r6.so : Nat), .int .u32 (r6.i0 : Nat), .int .u32 (r6.i1 : Nat), .int .u32 (r6.i2 : Nat), .int .u32 (r6.i3 : Nat), .int .u32 (r6.i4 : Nat), .slice A6 r6.bl.length c6] 27 (0, 0))
  have HK4 := Lib.hid (HK2.out.after hba)
  have HV4 := Lib.hid (hv6.below (below_alloc (.cells #[.bool r6.sd, .int .u32 (r6.so : Nat), .int .u32 (r6.i0 : Nat), .int .u32 (r6.i1 : Nat), .int .u32 (r6.i2 : Nat), .int .u32 (r6.i3 : Nat), .int .u32 (r6.i4 : Nat), .slice A6 r6.bl.length c6] 27 (0, 0))))
  have HX4 := Lib.hid (heap_alloc_new w3 (.cells #[.bool r6.sd, .int .u32 (r6.so : Nat), .int .u32 (r6.i0 : Nat), .int .u32 (r6.i1 : Nat), .int .u32 (r6.i2 : Nat), .int .u32 (r6.i3 : Nat), .int .u32 (r6.i4 : Nat), .slice A6 r6.bl.length c6] 27 (0, 0)))
  clear hrd hv6 hb6 hba HK2 k0 k1 k2 k3 k4 k5 k6 k7 l0 l1 l2 l3 l4 l5 l6 l7 m0 m1 m2 hx hx2 hx3
  go_upto_region 6 with fail
  rw [show w3.alloc (.cells #[.bool r6.sd, .int .u32 (r6.so : Nat), .int .u32 (r6.i0 : Nat), .int .u32 (r6.i1 : Nat), .int .u32 (r6.i2 : Nat), .int .u32 (r6.i3 : Nat), .int .u32 (r6.i4 : Nat), .slice A6 r6.bl.length c6] 27) = w3.alloc (.cells #[.bool r6.sd, .int .u32 (r6.so : Nat), .int .u32 (r6.i0 : Nat), .int .u32 (r6.i1 : Nat), .int .u32 (r6.i2 : Nat), .int .u32 (r6.i3 : Nat), .int .u32 (r6.i4 : Nat), .slice A6 r6.bl.length c6] 27 (0, 0)) from rfl]
  generalize w3.alloc (.cells #[.bool r6.sd, .int .u32 (r6.so : Nat), .int .u32 (r6.i0 : Nat), .int .u32 (r6.i1 : Nat), .int .u32 (r6.i2 : Nat), .int .u32 (r6.i3 : Nat), .int .u32 (r6.i4 : Nat), .slice A6 r6.bl.length c6] 27 (0, 0)) = w4 at *
  generalize w3.heap.size = b7 at *
  go_upto_if 41 with fail
  go_cut [] (fun wx => RK w b3 b4 b5 (oRp sd so i0 i1 i2 i3 i4 (.slice A3 bl.length c3)) (oRp td tz j0 j1 j2 j3 j4 (.slice A4 bm.length c4)) (oCk n y (.slice A5 B.length c5)) (.slice A3 bl.length c3) bl (.slice A4 bm.length c4) bm (.slice A5 B.length c5) B wx)
  case first =>
    by_cases hz : er = 0
    · subst hz
      obtain ⟨g1, g2, g3, g4⟩ := ck_back HEr.out
      rw [HR6.out] at g1
      rw [← g1] at g2 g3 g4
      have HG3 := Lib.hid g3
      have HG4 := Lib.hid g4
      have HG2 := Lib.hid g2
      clear g1 g2 g3 g4 HEr HR6
      obtain ⟨k0, k1, k2, k3, k4, k5, k6, k7⟩ := cells8 HX4.out
      go_wp2_with fail
      have hwr := rpwrite_v r6.sd r6.so r6.i0 r6.i1 r6.i2 r6.i3 r6.i4 r6.bl _ w4 HV4.out HG2.out
      unfold WritePost at hwr
      rw [show (⟨r6.sd, r6.so, r6.i0, r6.i1, r6.i2, r6.i3, r6.i4, r6.bl⟩ : DR) = r6 from rfl, HG3.out, HG4.out] at hwr
      refine hwr.mono ?_
      rintro r w5 ⟨v9, rfl, hv9, hb9⟩
      obtain ⟨A9, c9, rfl, _⟩ := bs_parts hv9
      have hba := hb9.alloc hb9.size (oCk n y (.slice A9 B.length c9))
      have HK6 := Lib.hid (HK4.out.after hba)
      have HV6 := Lib.hid (hv9.below (below_alloc (oCk n y (.slice A9 B.length c9))))
      have HX6 := Lib.hid (heap_alloc_new w5 (oCk n y (.slice A9 B.length c9)))
      clear hwr hv9 hb9 hba HK4 HV4 HX4 HG2 HG3 HG4 k0 k1 k2 k3 k4 k5 k6 k7
      go_upto_region 8 with fail
      rw [show w5.alloc (.cells #[.int .u8 (n : Nat), .int .u8 (y : Nat), .slice A9 B.length c9] 30) = w5.alloc (oCk n y (.slice A9 B.length c9)) from rfl]
      generalize w5.alloc (oCk n y (.slice A9 B.length c9)) = w6 at *
      generalize w5.heap.size = b9 at *
      obtain ⟨m0, m1, m2, _, _, _⟩ := cells3 HK6.out.x5
      obtain ⟨q0, q1, q2, _, _, _⟩ := cells3 HX6.out
      go_wp2_with fail
      refine (cksame_is (r := true) n y _ B n y _ B w6 HV6.out HK6.out.h5 hn hy hn hy (decide_eq_true rfl)).mono ?_
      rintro r w7 ⟨rfl, hb⟩
      have HK7 := Lib.hid (HK6.out.after hb)
      clear hb HK6 HV6 HX6 m0 m1 m2 q0 q1 q2
      go_wp2_with fail
      go_meet
      case rel => exact HK7.out
    · have hz1 : (er == 0) = false := by simp [hz]
      clear hz HR6 HEr HV4 HX4
      go_wp2_with fail
      go_meet
      case rel => exact HK4.out
  case rest =>
    have HK8 := Lib.hid hcut
    clear hcut HK4 HV4 HX4 HEr HR6
    generalize wc = w8 at *
    obtain ⟨k0, k1, k2, k3, k4, k5, k6, k7⟩ := cells8 HK8.out.x3
    have hwr := rpwrite_v sd so i0 i1 i2 i3 i4 bl _ w8 HK8.out.h3 HO.out
    unfold WritePost at hwr
    by_cases hr : rightR ⟨sd, so, i0, i1, i2, i3, i4, bl⟩ = true
    · obtain ⟨g1, g2, g3, g4⟩ := back_r hr HO.out
      have g5 := readR_back hr HO.out
      have hle := encR_len ⟨sd, so, i0, i1, i2, i3, i4, bl⟩
      have hinj := fun t hb => chunkR_inj (s := t) hr HO.out hb
      rw [show wrE ⟨sd, so, i0, i1, i2, i3, i4, bl⟩ = 0 from by rw [wrE, if_pos hr], show wrC ⟨sd, so, i0, i1, i2, i3, i4, bl⟩ = (bl.length, typR sd, encR ⟨sd, so, i0, i1, i2, i3, i4, bl⟩) from by rw [wrC, if_pos hr]; rfl] at hwr
      rw [show chunkR ⟨sd, so, i0, i1, i2, i3, i4, bl⟩ = (bl.length, typR sd, encR ⟨sd, so, i0, i1, i2, i3, i4, bl⟩) from rfl] at g1 g2 g3 g4 g5 hinj
      have hl8 : bl.length ≤ 31 := (right_iffC.1 g1).1
      have hE : (encR ⟨sd, so, i0, i1, i2, i3, i4, bl⟩).length ≤ 200 := by have := (right_iffC.1 g1).2.2; simp only at this; omega
      have hty : typR sd < 256 := g2
      generalize hEE : encR ⟨sd, so, i0, i1, i2, i3, i4, bl⟩ = E at *
      have HEE := Lib.hid hEE
      obtain ⟨ty, hTyE⟩ : ∃ ty, typR sd = ty := ⟨_, rfl⟩
      rw [hTyE] at hwr hinj g1 g2 g3 g4 g5 hty
      have HTyE := Lib.hid hTyE
      have HInj := Lib.hid hinj
      have HRt := Lib.hid hr
      have HG1 := Lib.hid g1
      have HG3 := Lib.hid g3
      have HG5 := Lib.hid g5
      have HE := Lib.hid hE
      clear g1 g2 g3 g4 g5 hle hinj hr hE hEE hTyE
      go_wp2_with fail
      refine hwr.mono ?_
      rintro r w9 ⟨v11, rfl, hv11, hb11⟩
      obtain ⟨A11, c11, rfl, _⟩ := bs_parts hv11
      have hba := hb11.alloc hb11.size (oCk bl.length ty (.slice A11 E.length c11))
      have HK10 := Lib.hid (HK8.out.after hba)
      have HV10 := Lib.hid (hv11.below (below_alloc (oCk bl.length ty (.slice A11 E.length c11))))
      have HX10 := Lib.hid (heap_alloc_new w9 (oCk bl.length ty (.slice A11 E.length c11)))
      clear hwr hv11 hb11 hba HK8 k0 k1 k2 k3 k4 k5 k6 k7
      go_upto_region 11 with fail
      rw [show w9.alloc (.cells #[.int .u8 (bl.length : Nat), .int .u8 (ty : Nat), .slice A11 E.length c11] 30) = w9.alloc (oCk bl.length ty (.slice A11 E.length c11)) from rfl]
      generalize w9.alloc (oCk bl.length ty (.slice A11 E.length c11)) = w10 at *
      generalize w9.heap.size = b11 at *
      obtain ⟨m0, m1, m2, _, _, _⟩ := cells3 HX10.out
      go_wp2_with fail
      have hrd := rpread_v bl.length ty _ E w10 HV10.out (by omega) hty (by have := HE.out; omega)
      unfold RdPostR rval at hrd
      rw [HG3.out, HG5.out] at hrd
      refine hrd.mono ?_
      rintro r w11 ⟨v13, rfl, hv13, hb13⟩
      simp only at hv13
      obtain ⟨A13, c13, rfl, _⟩ := hv13.parts
      have hba := hb13.alloc hb13.size (oRp sd so i0 i1 i2 i3 i4 (.slice A13 bl.length c13))
      have HK12 := Lib.hid (show RK2 w b3 b4 b5 b11 w11.heap.size (oRp sd so i0 i1 i2 i3 i4 (.slice A3 bl.length c3)) (oRp td tz j0 j1 j2 j3 j4 (.slice A4 bm.length c4)) (oCk n y (.slice A5 B.length c5)) (oCk bl.length ty (.slice A11 E.length c11)) (oRp sd so i0 i1 i2 i3 i4 (.slice A13 bl.length c13)) (.slice A3 bl.length c3) bl (.slice A4 bm.length c4) bm (.slice A5 B.length c5) B (.slice A11 E.length c11) E (.slice A13 bl.length c13) _ from
        ⟨HK10.out.after hba, (Fr.of hba).heap HX10.out (fun h => h), heap_alloc_new w11 _, HV10.out.below hba, hv13.below (below_alloc _)⟩)
      clear hrd hv13 hb13 hba HK10 HV10 HX10 m0 m1 m2
      go_upto_region 14 with fail
      rw [show w11.alloc (.cells #[.bool sd, .int .u32 (so : Nat), .int .u32 (i0 : Nat), .int .u32 (i1 : Nat), .int .u32 (i2 : Nat), .int .u32 (i3 : Nat), .int .u32 (i4 : Nat), .slice A13 bl.length c13] 27) = w11.alloc (oRp sd so i0 i1 i2 i3 i4 (.slice A13 bl.length c13)) from rfl]
      generalize w11.alloc (oRp sd so i0 i1 i2 i3 i4 (.slice A13 bl.length c13)) = w12 at *
      generalize w11.heap.size = b13 at *
      have HRi := Lib.hid (fun w => rpright_v sd so i0 i1 i2 i3 i4 bl (.slice A3 bl.length c3) w)
      rw [HRt.out] at HRi
      go_region_held3 (fun w' => RK2 w b3 b4 b5 b11 b13 (oRp sd so i0 i1 i2 i3 i4 (.slice A3 bl.length c3)) (oRp td tz j0 j1 j2 j3 j4 (.slice A4 bm.length c4)) (oCk n y (.slice A5 B.length c5)) (oCk bl.length ty (.slice A11 E.length c11)) (oRp sd so i0 i1 i2 i3 i4 (.slice A13 bl.length c13)) (.slice A3 bl.length c3) bl (.slice A4 bm.length c4) bm (.slice A5 B.length c5) B (.slice A11 E.length c11) E (.slice A13 bl.length c13) w' ∧ w'.cell? ⟨b3, 0, none⟩ = some (.bool sd) ∧ w'.cell? ⟨b3, 1, none⟩ = some (.int .u32 (so : Nat)) ∧ w'.cell? ⟨b3, 2, none⟩ = some (.int .u32 (i0 : Nat)) ∧ w'.cell? ⟨b3, 3, none⟩ = some (.int .u32 (i1 : Nat)) ∧ w'.cell? ⟨b3, 4, none⟩ = some (.int .u32 (i2 : Nat)) ∧ w'.cell? ⟨b3, 5, none⟩ = some (.int .u32 (i3 : Nat)) ∧ w'.cell? ⟨b3, 6, none⟩ = some (.int .u32 (i4 : Nat)) ∧ w'.cell? ⟨b3, 7, none⟩ = some (.slice A3 bl.length c3) ∧ w'.cell? ⟨b13, 0, none⟩ = some (.bool sd) ∧ w'.cell? ⟨b13, 1, none⟩ = some (.int .u32 (so : Nat)) ∧ w'.cell? ⟨b13, 2, none⟩ = some (.int .u32 (i0 : Nat)) ∧ w'.cell? ⟨b13, 3, none⟩ = some (.int .u32 (i1 : Nat)) ∧ w'.cell? ⟨b13, 4, none⟩ = some (.int .u32 (i2 : Nat)) ∧ w'.cell? ⟨b13, 5, none⟩ = some (.int .u32 (i3 : Nat)) ∧ w'.cell? ⟨b13, 6, none⟩ = some (.int .u32 (i4 : Nat)) ∧ w'.cell? ⟨b13, 7, none⟩ = some (.slice A13 bl.length c13) ∧ w'.cell? ⟨b11, 0, none⟩ = some (.int .u8 (bl.length : Nat)) ∧ w'.cell? ⟨b11, 1, none⟩ = some (.int .u8 (ty : Nat)) ∧ w'.cell? ⟨b11, 2, none⟩ = some (.slice A11 E.length c11)) (first | exact (((‹RK2 w b3 b4 b5 b11 b13 _ _ _ _ _ _ _ _ _ _ _ _ _ _ _ ∧ _›).1).after (by assumption)).cells | exact (HK12.out.drew).cells) (first
        | (go_at_call_of 9 A13; have hh := (‹RK2 w b3 b4 b5 b11 b13 _ _ _ _ _ _ _ _ _ _ _ _ _ _ _ ∧ _›).1; refine (rpown_v sd so i0 i1 i2 i3 i4 bl _ _ hh.h13 HBl.out.1).mono ?_; rintro e w13 ⟨vot, rfl, hot, hb⟩; have HOt := Lib.hid hot; (first | have HOr2 := Lib.hid (HOr.out.below hb) | skip); clear hh hot)
        | (go_at_call_of 9 A3; have hh := (‹RK2 w b3 b4 b5 b11 b13 _ _ _ _ _ _ _ _ _ _ _ _ _ _ _ ∧ _›).1; refine (rpown_v sd so i0 i1 i2 i3 i4 bl _ _ hh.k.h3 HBl.out.1).mono ?_; rintro e w13 ⟨vor, rfl, hor, hb⟩; have HOr := Lib.hid hor; (first | have HOt2 := Lib.hid (HOt.out.below hb) | skip); clear hh hor)
        | (go_at_call 15; have hh := (‹RK2 w b3 b4 b5 b11 b13 _ _ _ _ _ _ _ _ _ _ _ _ _ _ _ ∧ _›).1; (first | refine (rpsame_v (r := true) sd so i0 i1 i2 i3 i4 bl _ _ sd so i0 i1 i2 i3 i4 bl _ HOt2.out HOr.out ⟨fun _ => rfl, fun _ => rfl⟩).mono ?_ | refine (rpsame_v (r := true) sd so i0 i1 i2 i3 i4 bl _ _ sd so i0 i1 i2 i3 i4 bl _ HOt.out HOr2.out ⟨fun _ => rfl, fun _ => rfl⟩).mono ?_); rintro e w13 ⟨rfl, hb⟩; clear hh)
        | (go_at_call 16; have hh := (‹RK2 w b3 b4 b5 b11 b13 _ _ _ _ _ _ _ _ _ _ _ _ _ _ _ ∧ _›).1; refine (cright_v (r := true) bl.length ty _ E _ hh.h11 (by have := HE.out; omega) HG1.out).mono ?_; rintro e w13 ⟨rfl, hb⟩; clear hh)
        | (go_at_call 12; have hh := (‹RK2 w b3 b4 b5 b11 b13 _ _ _ _ _ _ _ _ _ _ _ _ _ _ _ ∧ _›).1; refine (HRi.out _ hh.k.h3).mono ?_; rintro e w13 ⟨rfl, hb⟩; clear hh))
      have HK13 := Lib.hid ((‹RK2 w b3 b4 b5 b11 b13 _ _ _ _ _ _ _ _ _ _ _ _ _ _ _ ∧ _›).1).k
      have HX13 := Lib.hid ((‹RK2 w b3 b4 b5 b11 b13 _ _ _ _ _ _ _ _ _ _ _ _ _ _ _ ∧ _›).1).x11
      have HV13 := Lib.hid ((‹RK2 w b3 b4 b5 b11 b13 _ _ _ _ _ _ _ _ _ _ _ _ _ _ _ ∧ _›).1).h11
      obtain ⟨k0, k1, k2, k3, k4, k5, k6, k7⟩ := cells8 HK13.out.x4
      clear HK12
      generalize hwz : w13 = wz at *
      clear hwz
      have hwr := rpwrite_v td tz j0 j1 j2 j3 j4 bm _ wz HK13.out.h4 HP.out
      unfold WritePost at hwr
      by_cases hr2 : rightR ⟨td, tz, j0, j1, j2, j3, j4, bm⟩ = true
      · have hin := HInj.out _ hr2 HP.out
        obtain ⟨g1, g2, _, _⟩ := back_r hr2 HP.out
        rw [show wrE ⟨td, tz, j0, j1, j2, j3, j4, bm⟩ = 0 from by rw [wrE, if_pos hr2], show wrC ⟨td, tz, j0, j1, j2, j3, j4, bm⟩ = (bm.length, typR td, encR ⟨td, tz, j0, j1, j2, j3, j4, bm⟩) from by rw [wrC, if_pos hr2]; rfl] at hwr
        rw [show chunkR ⟨td, tz, j0, j1, j2, j3, j4, bm⟩ = (bm.length, typR td, encR ⟨td, tz, j0, j1, j2, j3, j4, bm⟩) from rfl] at hin g1 g2
        have hm8 : bm.length ≤ 31 := (right_iffC.1 g1).1
        have hty2 : typR td < 256 := g2
        have hcon : (⟨sd, so, i0, i1, i2, i3, i4, bl⟩ : DR) = ⟨td, tz, j0, j1, j2, j3, j4, bm⟩ → (bl.length, ty, E) = (bm.length, typR td, encR ⟨td, tz, j0, j1, j2, j3, j4, bm⟩) := by
          intro h
          have h2 := congrArg chunkR h
          rw [show chunkR ⟨sd, so, i0, i1, i2, i3, i4, bl⟩ = (bl.length, ty, E) from by rw [← HEE.out, ← HTyE.out]; rfl] at h2
          exact h2
        generalize encR ⟨td, tz, j0, j1, j2, j3, j4, bm⟩ = F at *
        generalize typR td = ty2 at *
        clear g1 g2
        have HIn := Lib.hid hin
        have HCon := Lib.hid hcon
        clear hin hcon hr2
        go_wp2_with fail
        refine hwr.mono ?_
        rintro r w14 ⟨v15, rfl, hv15, hb15⟩
        obtain ⟨A15, c15, rfl, _⟩ := bs_parts hv15
        have hba := hb15.alloc hb15.size (oCk bm.length ty2 (.slice A15 F.length c15))
        have HK16 := Lib.hid (show RK3 w b3 b4 b5 b11 w14.heap.size (oRp sd so i0 i1 i2 i3 i4 (.slice A3 bl.length c3)) (oRp td tz j0 j1 j2 j3 j4 (.slice A4 bm.length c4)) (oCk n y (.slice A5 B.length c5)) (oCk bl.length ty (.slice A11 E.length c11)) (oCk bm.length ty2 (.slice A15 F.length c15)) (.slice A3 bl.length c3) bl (.slice A4 bm.length c4) bm (.slice A5 B.length c5) B (.slice A11 E.length c11) E (.slice A15 F.length c15) F _ from
          ⟨HK13.out.after hba, (Fr.of hba).heap HX13.out (fun h => h), heap_alloc_new w14 _, HV13.out.below hba, hv15.below (below_alloc _)⟩)
        clear hwr hv15 hb15 hba HK13 HX13 HV13 k0 k1 k2 k3 k4 k5 k6 k7
        go_upto_region 17 with fail
        rw [show w14.alloc (.cells #[.int .u8 (bm.length : Nat), .int .u8 (ty2 : Nat), .slice A15 F.length c15] 30) = w14.alloc (oCk bm.length ty2 (.slice A15 F.length c15)) from rfl]
        generalize w14.alloc (oCk bm.length ty2 (.slice A15 F.length c15)) = w16 at *
        generalize w14.heap.size = b15 at *
        by_cases he : (bl.length, ty, E) = (bm.length, ty2, F)
        · have HSm := Lib.hid (show decide ((bl.length, ty, E) = (bm.length, ty2, F)) = true from decide_eq_true he)
          have HRS := Lib.hid (HIn.out he)
          clear he HIn HCon
          go_region_held3 (fun w' => RK3 w b3 b4 b5 b11 b15 (oRp sd so i0 i1 i2 i3 i4 (.slice A3 bl.length c3)) (oRp td tz j0 j1 j2 j3 j4 (.slice A4 bm.length c4)) (oCk n y (.slice A5 B.length c5)) (oCk bl.length ty (.slice A11 E.length c11)) (oCk bm.length ty2 (.slice A15 F.length c15)) (.slice A3 bl.length c3) bl (.slice A4 bm.length c4) bm (.slice A5 B.length c5) B (.slice A11 E.length c11) E (.slice A15 F.length c15) F w' ∧ w'.cell? ⟨b3, 0, none⟩ = some (.bool sd) ∧ w'.cell? ⟨b3, 1, none⟩ = some (.int .u32 (so : Nat)) ∧ w'.cell? ⟨b3, 2, none⟩ = some (.int .u32 (i0 : Nat)) ∧ w'.cell? ⟨b3, 3, none⟩ = some (.int .u32 (i1 : Nat)) ∧ w'.cell? ⟨b3, 4, none⟩ = some (.int .u32 (i2 : Nat)) ∧ w'.cell? ⟨b3, 5, none⟩ = some (.int .u32 (i3 : Nat)) ∧ w'.cell? ⟨b3, 6, none⟩ = some (.int .u32 (i4 : Nat)) ∧ w'.cell? ⟨b3, 7, none⟩ = some (.slice A3 bl.length c3) ∧ w'.cell? ⟨b4, 0, none⟩ = some (.bool td) ∧ w'.cell? ⟨b4, 1, none⟩ = some (.int .u32 (tz : Nat)) ∧ w'.cell? ⟨b4, 2, none⟩ = some (.int .u32 (j0 : Nat)) ∧ w'.cell? ⟨b4, 3, none⟩ = some (.int .u32 (j1 : Nat)) ∧ w'.cell? ⟨b4, 4, none⟩ = some (.int .u32 (j2 : Nat)) ∧ w'.cell? ⟨b4, 5, none⟩ = some (.int .u32 (j3 : Nat)) ∧ w'.cell? ⟨b4, 6, none⟩ = some (.int .u32 (j4 : Nat)) ∧ w'.cell? ⟨b4, 7, none⟩ = some (.slice A4 bm.length c4) ∧ w'.cell? ⟨b11, 0, none⟩ = some (.int .u8 (bl.length : Nat)) ∧ w'.cell? ⟨b11, 1, none⟩ = some (.int .u8 (ty : Nat)) ∧ w'.cell? ⟨b11, 2, none⟩ = some (.slice A11 E.length c11) ∧ w'.cell? ⟨b15, 0, none⟩ = some (.int .u8 (bm.length : Nat)) ∧ w'.cell? ⟨b15, 1, none⟩ = some (.int .u8 (ty2 : Nat)) ∧ w'.cell? ⟨b15, 2, none⟩ = some (.slice A15 F.length c15)) (first | exact (((‹RK3 w b3 b4 b5 b11 b15 _ _ _ _ _ _ _ _ _ _ _ _ _ _ _ _ ∧ _›).1).after (by assumption)).cells | exact (HK16.out.drew).cells) (first
            | (go_at_call 14; have hh := (‹RK3 w b3 b4 b5 b11 b15 _ _ _ _ _ _ _ _ _ _ _ _ _ _ _ _ ∧ _›).1; refine (cksame_is (r := true) bl.length ty _ E bm.length ty2 _ F _ hh.h11 hh.h15 (by omega) hty (by omega) hty2 HSm.out).mono ?_; rintro e w17 ⟨rfl, hb⟩; clear hh)
            | (go_at_call_of 9 A3; have hh := (‹RK3 w b3 b4 b5 b11 b15 _ _ _ _ _ _ _ _ _ _ _ _ _ _ _ _ ∧ _›).1; refine (rpown_v sd so i0 i1 i2 i3 i4 bl _ _ hh.k.h3 HBl.out.1).mono ?_; rintro e w17 ⟨vpr, rfl, hor, hb⟩; have HPr := Lib.hid hor; (first | have HPs2 := Lib.hid (HPs.out.below hb) | skip); clear hh hor)
            | (go_at_call_of 9 A4; have hh := (‹RK3 w b3 b4 b5 b11 b15 _ _ _ _ _ _ _ _ _ _ _ _ _ _ _ _ ∧ _›).1; refine (rpown_v td tz j0 j1 j2 j3 j4 bm _ _ hh.k.h4 HBl.out.2.1).mono ?_; rintro e w17 ⟨vps, rfl, hor, hb⟩; have HPs := Lib.hid hor; (first | have HPr2 := Lib.hid (HPr.out.below hb) | skip); clear hh hor)
            | (go_at_call 15; have hh := (‹RK3 w b3 b4 b5 b11 b15 _ _ _ _ _ _ _ _ _ _ _ _ _ _ _ _ ∧ _›).1; (first | refine (rpsame_v (r := true) sd so i0 i1 i2 i3 i4 bl _ _ td tz j0 j1 j2 j3 j4 bm _ HPr2.out HPs.out ⟨fun _ => HRS.out, fun _ => rfl⟩).mono ?_ | refine (rpsame_v (r := true) sd so i0 i1 i2 i3 i4 bl _ _ td tz j0 j1 j2 j3 j4 bm _ HPr.out HPs2.out ⟨fun _ => HRS.out, fun _ => rfl⟩).mono ?_); rintro e w17 ⟨rfl, hb⟩; clear hh))
          have hh := (‹RK3 w b3 b4 b5 b11 b15 _ _ _ _ _ _ _ _ _ _ _ _ _ _ _ _ ∧ _›).1
          go_wp2_with fail
          exact HQ.out _ _ ⟨rfl, hh.k.below⟩
        · have HSm := Lib.hid (show decide ((bl.length, ty, E) = (bm.length, ty2, F)) = false from decide_eq_false he)
          have HRS := Lib.hid (show (⟨sd, so, i0, i1, i2, i3, i4, bl⟩ : DR) = ⟨td, tz, j0, j1, j2, j3, j4, bm⟩ → False from fun h => absurd (HCon.out h) he)
          clear he HIn HCon
          go_region_held3 (fun w' => RK3 w b3 b4 b5 b11 b15 (oRp sd so i0 i1 i2 i3 i4 (.slice A3 bl.length c3)) (oRp td tz j0 j1 j2 j3 j4 (.slice A4 bm.length c4)) (oCk n y (.slice A5 B.length c5)) (oCk bl.length ty (.slice A11 E.length c11)) (oCk bm.length ty2 (.slice A15 F.length c15)) (.slice A3 bl.length c3) bl (.slice A4 bm.length c4) bm (.slice A5 B.length c5) B (.slice A11 E.length c11) E (.slice A15 F.length c15) F w' ∧ w'.cell? ⟨b3, 0, none⟩ = some (.bool sd) ∧ w'.cell? ⟨b3, 1, none⟩ = some (.int .u32 (so : Nat)) ∧ w'.cell? ⟨b3, 2, none⟩ = some (.int .u32 (i0 : Nat)) ∧ w'.cell? ⟨b3, 3, none⟩ = some (.int .u32 (i1 : Nat)) ∧ w'.cell? ⟨b3, 4, none⟩ = some (.int .u32 (i2 : Nat)) ∧ w'.cell? ⟨b3, 5, none⟩ = some (.int .u32 (i3 : Nat)) ∧ w'.cell? ⟨b3, 6, none⟩ = some (.int .u32 (i4 : Nat)) ∧ w'.cell? ⟨b3, 7, none⟩ = some (.slice A3 bl.length c3) ∧ w'.cell? ⟨b4, 0, none⟩ = some (.bool td) ∧ w'.cell? ⟨b4, 1, none⟩ = some (.int .u32 (tz : Nat)) ∧ w'.cell? ⟨b4, 2, none⟩ = some (.int .u32 (j0 : Nat)) ∧ w'.cell? ⟨b4, 3, none⟩ = some (.int .u32 (j1 : Nat)) ∧ w'.cell? ⟨b4, 4, none⟩ = some (.int .u32 (j2 : Nat)) ∧ w'.cell? ⟨b4, 5, none⟩ = some (.int .u32 (j3 : Nat)) ∧ w'.cell? ⟨b4, 6, none⟩ = some (.int .u32 (j4 : Nat)) ∧ w'.cell? ⟨b4, 7, none⟩ = some (.slice A4 bm.length c4) ∧ w'.cell? ⟨b11, 0, none⟩ = some (.int .u8 (bl.length : Nat)) ∧ w'.cell? ⟨b11, 1, none⟩ = some (.int .u8 (ty : Nat)) ∧ w'.cell? ⟨b11, 2, none⟩ = some (.slice A11 E.length c11) ∧ w'.cell? ⟨b15, 0, none⟩ = some (.int .u8 (bm.length : Nat)) ∧ w'.cell? ⟨b15, 1, none⟩ = some (.int .u8 (ty2 : Nat)) ∧ w'.cell? ⟨b15, 2, none⟩ = some (.slice A15 F.length c15)) (first | exact (((‹RK3 w b3 b4 b5 b11 b15 _ _ _ _ _ _ _ _ _ _ _ _ _ _ _ _ ∧ _›).1).after (by assumption)).cells | exact (HK16.out.drew).cells) (first
            | (go_at_call 14; have hh := (‹RK3 w b3 b4 b5 b11 b15 _ _ _ _ _ _ _ _ _ _ _ _ _ _ _ _ ∧ _›).1; refine (cksame_is (r := false) bl.length ty _ E bm.length ty2 _ F _ hh.h11 hh.h15 (by omega) hty (by omega) hty2 HSm.out).mono ?_; rintro e w17 ⟨rfl, hb⟩; clear hh)
            | (go_at_call_of 9 A3; have hh := (‹RK3 w b3 b4 b5 b11 b15 _ _ _ _ _ _ _ _ _ _ _ _ _ _ _ _ ∧ _›).1; refine (rpown_v sd so i0 i1 i2 i3 i4 bl _ _ hh.k.h3 HBl.out.1).mono ?_; rintro e w17 ⟨vpr, rfl, hor, hb⟩; have HPr := Lib.hid hor; (first | have HPs2 := Lib.hid (HPs.out.below hb) | skip); clear hh hor)
            | (go_at_call_of 9 A4; have hh := (‹RK3 w b3 b4 b5 b11 b15 _ _ _ _ _ _ _ _ _ _ _ _ _ _ _ _ ∧ _›).1; refine (rpown_v td tz j0 j1 j2 j3 j4 bm _ _ hh.k.h4 HBl.out.2.1).mono ?_; rintro e w17 ⟨vps, rfl, hor, hb⟩; have HPs := Lib.hid hor; (first | have HPr2 := Lib.hid (HPr.out.below hb) | skip); clear hh hor)
            | (go_at_call 15; have hh := (‹RK3 w b3 b4 b5 b11 b15 _ _ _ _ _ _ _ _ _ _ _ _ _ _ _ _ ∧ _›).1; (first | refine (rpsame_v (r := false) sd so i0 i1 i2 i3 i4 bl _ _ td tz j0 j1 j2 j3 j4 bm _ HPr2.out HPs.out ⟨fun h => absurd h (by decide), fun h => (HRS.out h).elim⟩).mono ?_ | refine (rpsame_v (r := false) sd so i0 i1 i2 i3 i4 bl _ _ td tz j0 j1 j2 j3 j4 bm _ HPr.out HPs2.out ⟨fun h => absurd h (by decide), fun h => (HRS.out h).elim⟩).mono ?_); rintro e w17 ⟨rfl, hb⟩; clear hh))
          have hh := (‹RK3 w b3 b4 b5 b11 b15 _ _ _ _ _ _ _ _ _ _ _ _ _ _ _ _ ∧ _›).1
          go_wp2_with fail
          exact HQ.out _ _ ⟨rfl, hh.k.below⟩
      · rw [show wrE ⟨td, tz, j0, j1, j2, j3, j4, bm⟩ = 1 from by rw [wrE, if_neg hr2], show wrC ⟨td, tz, j0, j1, j2, j3, j4, bm⟩ = (0, 0, []) from by rw [wrC, if_neg hr2]] at hwr
        clear hr2
        go_wp2_with fail
        refine hwr.mono ?_
        rintro r w14 ⟨v15, rfl, hv15, hb15⟩
        obtain ⟨A15, c15, rfl⟩ := bs_sl hv15 (n := 0) rfl
        have hba := hb15.alloc hb15.size (oCk 0 0 (.slice A15 0 c15))
        have HB16 := Lib.hid (HK13.out.after hba).below
        clear hwr hv15 hb15 hba HK13 HX13 HV13 k0 k1 k2 k3 k4 k5 k6 k7
        go_wp2_with fail
        go_quiet (fail)
        go_wp2_with fail
        exact HQ.out _ _ ⟨rfl, below_drewN HB16.out _⟩
    · have hr' : rightR ⟨sd, so, i0, i1, i2, i3, i4, bl⟩ = false := by simpa using hr
      rw [show wrE ⟨sd, so, i0, i1, i2, i3, i4, bl⟩ = 1 from by rw [wrE, if_neg hr], show wrC ⟨sd, so, i0, i1, i2, i3, i4, bl⟩ = (0, 0, []) from by rw [wrC, if_neg hr]] at hwr
      have HR := Lib.hid hr'
      clear hr hr'
      go_wp2_with fail
      refine hwr.mono ?_
      rintro r w9 ⟨v11, rfl, hv11, hb11⟩
      obtain ⟨A11, c11, rfl⟩ := bs_sl hv11 (n := 0) rfl
      have hba := hb11.alloc hb11.size (oCk 0 0 (.slice A11 0 c11))
      have HK10 := Lib.hid (HK8.out.after hba)
      clear hwr hv11 hb11 hba HK8 k0 k1 k2 k3 k4 k5 k6 k7
      go_upto_region 11 with fail
      rw [show w9.alloc (.cells #[.int .u8 0, .int .u8 0, .slice A11 0 c11] 30) = w9.alloc (oCk 0 0 (.slice A11 0 c11)) from rfl]
      generalize w9.alloc (oCk 0 0 (.slice A11 0 c11)) = w10 at *
      obtain ⟨k0, k1, k2, k3, k4, k5, k6, k7⟩ := cells8 HK10.out.x3
      go_wp2_with fail
      have hri := rpright_v sd so i0 i1 i2 i3 i4 bl _ w10 HK10.out.h3
      rw [HR.out] at hri
      refine hri.mono ?_
      rintro r w11 ⟨rfl, hb⟩
      have HK11 := Lib.hid (HK10.out.after hb)
      clear hri hb HK10 k0 k1 k2 k3 k4 k5 k6 k7
      go_wp2_with fail
      exact HQ.out _ _ ⟨rfl, HK11.out.below⟩
end Go.Proofs.Ythgajlmhgbhmlaa
