/- The walk of HeadTells. -/
import Derived.Test.YtphaehponljofaaHdAw
import Derived.Test.YtphaehponljofaaHdRh
import Derived.Test.YtphaehponljofaaHdRB
namespace Go.Proofs.Ytphaehponljofaa
open Go.RowKit

theorem rhread_any (v : Value) (l : List UInt8) (w : World) (hv : BS w v l) : Calls Try.prog 11 #[v] w (ReadPost w l) := by
  by_cases h1 : 200 < l.length
  · exact rhread_long v l w hv h1
  by_cases h2 : l.length < 12
  · exact rhread_short v l w hv h2
  by_cases h3 : firstN l < 128 ∨ 191 < firstN l
  · exact rhread_form v l w hv (by omega) (by omega) h3
  · exact rhread_fine v l w hv (by omega) (by omega) h3
theorem rcontrol_is (v : Value) (l : List UInt8) (w : World) (hv : BS w v l) :
    Calls Try.prog 17 #[v] w fun e w' => e = .returned (.bool (controlB l)) ∧ Below w.heap.size w w' := by
  refine (rcontrol_any v l w hv).mono ?_
  rintro e w' ⟨rfl, n, rfl⟩
  exact ⟨rfl, below_drewN (Below.refl _ _) n⟩
structure TSt (w0 : World) (b0 b9 b11 : Nat) (o0 o9 o11 : Obj) (vx vy : Value) (X : List UInt8) (vb : Value) (l : List UInt8) (v0 : Value) (d : PD) (vq vr : Value) (dq : PD) (w : World) : Prop where
  x0 : w.heap[b0]? = some o0
  x9 : w.heap[b9]? = some o9
  x11 : w.heap[b11]? = some o11
  x : BS w vx X
  y : BS w vy X
  b : BS w vb l
  p0 : PV w v0 d
  pq : PV w vq dq
  pr : PV w vr dq
  below : Below w0.heap.size w0 w
section
variable {w0 w w' : World} {b0 b9 b11 : Nat} {o0 o9 o11 : Obj} {vx vy vb v0 vq vr : Value} {X l : List UInt8} {d dq : PD}
theorem TSt.after (h : TSt w0 b0 b9 b11 o0 o9 o11 vx vy X vb l v0 d vq vr dq w) (hb : Below w.heap.size w w') : TSt w0 b0 b9 b11 o0 o9 o11 vx vy X vb l v0 d vq vr dq w' :=
  ⟨(Fr.of hb).heap h.x0 (fun h => h), (Fr.of hb).heap h.x9 (fun h => h), (Fr.of hb).heap h.x11 (fun h => h), h.x.below hb, h.y.below hb, h.b.below hb, h.p0.below hb, h.pq.below hb, h.pr.below hb, h.below.trans (hb.mono h.below.size)⟩
theorem TSt.drew (h : TSt w0 b0 b9 b11 o0 o9 o11 vx vy X vb l v0 d vq vr dq w) : TSt w0 b0 b9 b11 o0 o9 o11 vx vy X vb l v0 d vq vr dq w.drew := h.after (below_drewN (Below.refl _ _) 1)
end
theorem TSt.cells {w0 w : World} {b0 b9 b11 : Nat} {vx vy vb v0 vq vr : Value} {X l : List UInt8} {d dq : PD} {x0 x1 x2 x3 x4 x5 x6 x7 x8 x9 y0 y1 y2 y3 y4 y5 y6 y7 y8 y9 z0 z1 z2 z3 z4 z5 z6 z7 z8 z9 : Value} {t t' : TypeId}
    (h : TSt w0 b0 b9 b11 (.cells #[x0, x1, x2, x3, x4, x5, x6, x7, x8, x9] t (0, 0)) (.cells #[y0, y1, y2, y3, y4, y5, y6, y7, y8, y9] t (0, 0)) (.cells #[z0, z1, z2, z3, z4, z5, z6, z7, z8, z9] t' (0, 0)) vx vy X vb l v0 d vq vr dq w) :
    TSt w0 b0 b9 b11 (.cells #[x0, x1, x2, x3, x4, x5, x6, x7, x8, x9] t (0, 0)) (.cells #[y0, y1, y2, y3, y4, y5, y6, y7, y8, y9] t (0, 0)) (.cells #[z0, z1, z2, z3, z4, z5, z6, z7, z8, z9] t' (0, 0)) vx vy X vb l v0 d vq vr dq w ∧ w.cell? ⟨b0, 0, none⟩ = some (x0) ∧ w.cell? ⟨b0, 1, none⟩ = some (x1) ∧ w.cell? ⟨b0, 2, none⟩ = some (x2) ∧ w.cell? ⟨b0, 3, none⟩ = some (x3) ∧ w.cell? ⟨b0, 4, none⟩ = some (x4) ∧ w.cell? ⟨b0, 5, none⟩ = some (x5) ∧ w.cell? ⟨b0, 6, none⟩ = some (x6) ∧ w.cell? ⟨b0, 7, none⟩ = some (x7) ∧ w.cell? ⟨b0, 8, none⟩ = some (x8) ∧ w.cell? ⟨b0, 9, none⟩ = some (x9) ∧ w.cell? ⟨b9, 0, none⟩ = some (y0) ∧ w.cell? ⟨b9, 1, none⟩ = some (y1) ∧ w.cell? ⟨b9, 2, none⟩ = some (y2) ∧ w.cell? ⟨b9, 3, none⟩ = some (y3) ∧ w.cell? ⟨b9, 4, none⟩ = some (y4) ∧ w.cell? ⟨b9, 5, none⟩ = some (y5) ∧ w.cell? ⟨b9, 6, none⟩ = some (y6) ∧ w.cell? ⟨b9, 7, none⟩ = some (y7) ∧ w.cell? ⟨b9, 8, none⟩ = some (y8) ∧ w.cell? ⟨b9, 9, none⟩ = some (y9) ∧ w.cell? ⟨b11, 0, none⟩ = some (z0) ∧ w.cell? ⟨b11, 1, none⟩ = some (z1) ∧ w.cell? ⟨b11, 2, none⟩ = some (z2) ∧ w.cell? ⟨b11, 3, none⟩ = some (z3) ∧ w.cell? ⟨b11, 4, none⟩ = some (z4) ∧ w.cell? ⟨b11, 5, none⟩ = some (z5) ∧ w.cell? ⟨b11, 6, none⟩ = some (z6) ∧ w.cell? ⟨b11, 7, none⟩ = some (z7) ∧ w.cell? ⟨b11, 8, none⟩ = some (z8) ∧ w.cell? ⟨b11, 9, none⟩ = some (z9) := by
  obtain ⟨a0, a1, a2, a3, a4, a5, a6, a7, a8, a9⟩ := ten_cells h.x0
  obtain ⟨e0, e1, e2, e3, e4, e5, e6, e7, e8, e9⟩ := ten_cells h.x9
  obtain ⟨f0, f1, f2, f3, f4, f5, f6, f7, f8, f9⟩ := ten_cells h.x11
  exact ⟨h, a0, a1, a2, a3, a4, a5, a6, a7, a8, a9, e0, e1, e2, e3, e4, e5, e6, e7, e8, e9, f0, f1, f2, f3, f4, f5, f6, f7, f8, f9⟩
set_option maxHeartbeats 16000000 in
theorem tells_walk (v : Value) (d : PD) (b : Value) (l : List UInt8) (w : World) (hv : PV w v d) (hw : d.Wf) (hbv : BS w b l) :
    Calls Try.prog 3 #[v, b] w fun r w' => r = .returned (.bool true) ∧ Below w.heap.size w w' := by
  have HV := Lib.hid hv
  have HW := Lib.hid hw
  have HBv := Lib.hid hbv
  obtain ⟨As, cs, Ae, ce, Ap, cp, rfl, ⟨a1, a2, a3⟩, ⟨b1, b2, b3⟩, c1, c2, c3⟩ := hv.parts
  obtain ⟨Ab, cb, rfl, hcb, hcb2, _⟩ := bs_parts hbv
  clear hv a3 b3 c3 hw hbv
  have HX := Lib.hid (heap_alloc_new w (.cells #[.bool d.m, .int .u8 (d.ty : Nat), .int .u16 (d.seq : Nat), .int .u32 (d.st : Nat), .int .u32 (d.so : Nat), .slice As d.srcs.length cs, .bool d.has, .int .u16 (d.prof : Nat), .slice Ae d.ex.length ce, .slice Ap d.pl.length cp] 29 (0, 0)))
  have HB := Lib.hid (below_alloc (w := w) (.cells #[.bool d.m, .int .u8 (d.ty : Nat), .int .u16 (d.seq : Nat), .int .u32 (d.st : Nat), .int .u32 (d.so : Nat), .slice As d.srcs.length cs, .bool d.has, .int .u16 (d.prof : Nat), .slice Ae d.ex.length ce, .slice Ap d.pl.length cp] 29 (0, 0)))
  unfold pcells at *
  refine calls_q fun Q HQ => ?_
  go_enter Try.func3, Try.ntmps3
  go_wp2_with fail
  refine (awake4_any _).mono ?_
  rintro r w1 ⟨rfl, hb⟩
  have HX1 := Lib.hid ((Fr.of hb).heap HX.out (fun h => h))
  have HB1 := Lib.hid (HB.out.trans (hb.mono HB.out.size))
  clear hb HX HB
  obtain ⟨k0, k1, k2, k3, k4, k5, k6, k7, k8, k9⟩ := ten_cells HX1.out
  go_wp2_with fail
  have hcl := hlarge_any _ d _ (HV.out.below HB1.out)
  unfold pcells at hcl
  by_cases hl : largeB d = true
  · rw [hl] at hcl
    refine hcl.mono ?_
    rintro r w2 ⟨rfl, hb⟩
    have HB2 := Lib.hid (HB1.out.trans (hb.mono HB1.out.size))
    clear hb hcl hl
    go_wp2_with fail
    exact HQ.out _ _ ⟨rfl, HB2.out⟩
  · have hl' : largeB d = false := by simpa using hl
    have HFw := Lib.hid (large_few hl')
    rw [hl'] at hcl
    refine hcl.mono ?_
    rintro r w2 ⟨rfl, hb⟩
    have HX2 := Lib.hid ((Fr.of hb).heap HX1.out (fun h => h))
    have HB2 := Lib.hid (HB1.out.trans (hb.mono HB1.out.size))
    clear hb hcl hl hl' HX1 HB1 k0 k1 k2 k3 k4 k5 k6 k7 k8 k9
    obtain ⟨k0, k1, k2, k3, k4, k5, k6, k7, k8, k9⟩ := ten_cells HX2.out
    by_cases h1000 : (1000 : Int) < (l.length : Int)
    · go_wp2_with fail
      exact HQ.out _ _ ⟨rfl, HB2.out⟩
    · go_wp2_with fail
      refine (hbytes_any _ d _ (HV.out.below HB2.out) HFw.out HW.out).mono ?_
      rintro r w3 ⟨vx, rfl, hvx, hb⟩
      have HX3 := Lib.hid ((Fr.of hb).heap HX2.out (fun h => h))
      have HB3 := Lib.hid (HB2.out.trans (hb.mono HB2.out.size))
      clear hb HX2 HB2 k0 k1 k2 k3 k4 k5 k6 k7 k8 k9
      obtain ⟨k0, k1, k2, k3, k4, k5, k6, k7, k8, k9⟩ := ten_cells HX3.out
      have hvx' := hvx.1
      have hbo := rhbytes_any _ d w3 (HV.out.below HB3.out) HFw.out HW.out
      generalize hXe : (if rightB d = true then encP d else []) = X at *
      generalize hEr : (if rightB d = true then (0 : Int) else 1) = er
      have HEr := Lib.hid hEr
      clear hEr
      obtain ⟨Ax, cx, rfl, _, _, _⟩ := bs_parts hvx'
      have HXv := Lib.hid hvx'
      have HXe := Lib.hid hXe
      clear hvx hvx' hXe hbo
      go_wp2_with fail
      refine (own_raw _ _ _ _ _ _ _ _ _ _ _ _ _ _ _ _ _).mono ?_
      rintro r w4 ⟨rfl, hb⟩
      have HX4 := Lib.hid ((Fr.of hb).heap HX3.out (fun h => h))
      have HB4 := Lib.hid (HB3.out.trans (hb.mono HB3.out.size))
      have HXv4 := Lib.hid (HXv.out.below hb)
      clear hb HX3 HB3 HXv k0 k1 k2 k3 k4 k5 k6 k7 k8 k9
      obtain ⟨k0, k1, k2, k3, k4, k5, k6, k7, k8, k9⟩ := ten_cells HX4.out
      go_wp2_with fail
      refine (rhbytes_any _ d _ (HV.out.below HB4.out) HFw.out HW.out).mono ?_
      rintro r w5 ⟨vy, rfl, hvy, hb⟩
      have HX5 := Lib.hid ((Fr.of hb).heap HX4.out (fun h => h))
      have HB5 := Lib.hid (HB4.out.trans (hb.mono HB4.out.size))
      have HXv5 := Lib.hid (HXv4.out.below hb)
      have hvy' := hvy.1
      rw [HXe.out] at hvy'
      obtain ⟨Ay, cy, rfl, _, _, _⟩ := bs_parts hvy'
      have HYv5 := Lib.hid hvy'
      rw [HEr.out]
      clear hb HX4 HB4 HXv4 hvy hvy' k0 k1 k2 k3 k4 k5 k6 k7 k8 k9
      obtain ⟨k0, k1, k2, k3, k4, k5, k6, k7, k8, k9⟩ := ten_cells HX5.out
      go_wp2_with fail
      refine (hread_any _ l _ (HBv.out.below HB5.out)).mono ?_
      rintro r w6 ⟨vq, rfl, hq, hb⟩
      have HX6 := Lib.hid ((Fr.of hb).heap HX5.out (fun h => h))
      have HB6 := Lib.hid (HB5.out.trans (hb.mono HB5.out.size))
      have HXv6 := Lib.hid (HXv5.out.below hb)
      have HYv6 := Lib.hid (HYv5.out.below hb)
      have hq := hq.pv
      generalize hdq : readP l = dq at *
      generalize hge : readE l = ge at *
      have HDq := Lib.hid hdq
      have HGe := Lib.hid hge
      clear hb HX5 HB5 HXv5 HYv5 k0 k1 k2 k3 k4 k5 k6 k7 k8 k9 hdq hge
      obtain ⟨Qs, qs, Qe, qe, Qp, qp, rfl, _, _, _⟩ := hq.parts
      unfold pcells at *
      have hqb := below_alloc (w := w6) (.cells #[.bool dq.m, .int .u8 (dq.ty : Nat), .int .u16 (dq.seq : Nat), .int .u32 (dq.st : Nat), .int .u32 (dq.so : Nat), .slice Qs dq.srcs.length qs, .bool dq.has, .int .u16 (dq.prof : Nat), .slice Qe dq.ex.length qe, .slice Qp dq.pl.length qp] 29 (0, 0))
      have HX7 := Lib.hid ((Fr.of hqb).heap HX6.out (fun h => h))
      have HY7 := Lib.hid (heap_alloc_new w6 (.cells #[.bool dq.m, .int .u8 (dq.ty : Nat), .int .u16 (dq.seq : Nat), .int .u32 (dq.st : Nat), .int .u32 (dq.so : Nat), .slice Qs dq.srcs.length qs, .bool dq.has, .int .u16 (dq.prof : Nat), .slice Qe dq.ex.length qe, .slice Qp dq.pl.length qp] 29 (0, 0)))
      have HB7 := Lib.hid (HB6.out.trans (hqb.mono HB6.out.size))
      have HXv7 := Lib.hid (HXv6.out.below hqb)
      have HYv7 := Lib.hid (HYv6.out.below hqb)
      have HQ7 := Lib.hid (hq.below hqb)
      clear hqb hq HX6 HB6 HXv6 HYv6
      obtain ⟨k0, k1, k2, k3, k4, k5, k6, k7, k8, k9⟩ := ten_cells HX7.out
      go_wp2_with fail
      refine (rhread_any _ l _ (HBv.out.below HB7.out)).mono ?_
      rintro r w8 ⟨vr, rfl, hr, hb⟩
      rw [HDq.out] at hr
      rw [HGe.out]
      have hr := hr.pv
      obtain ⟨Rs, rs, Re, re, Rp, rp, rfl, _, _, _⟩ := hr.parts
      unfold pcells at *
      have hrb := below_alloc (w := w8) (.cells #[.bool dq.m, .int .u8 (dq.ty : Nat), .int .u16 (dq.seq : Nat), .int .u32 (dq.st : Nat), .int .u32 (dq.so : Nat), .slice Rs dq.srcs.length rs, .bool dq.has, .int .u16 (dq.prof : Nat), .slice Re dq.ex.length re, .slice Rp dq.pl.length rp] 38 (0, 0))
      have hb8 := hb.trans (hrb.mono hb.size)
      have HT : Hid (TSt w w.heap.size w6.heap.size w8.heap.size (.cells #[.bool d.m, .int .u8 (d.ty : Nat), .int .u16 (d.seq : Nat), .int .u32 (d.st : Nat), .int .u32 (d.so : Nat), .slice As d.srcs.length cs, .bool d.has, .int .u16 (d.prof : Nat), .slice Ae d.ex.length ce, .slice Ap d.pl.length cp] 29 (0, 0)) (.cells #[.bool dq.m, .int .u8 (dq.ty : Nat), .int .u16 (dq.seq : Nat), .int .u32 (dq.st : Nat), .int .u32 (dq.so : Nat), .slice Qs dq.srcs.length qs, .bool dq.has, .int .u16 (dq.prof : Nat), .slice Qe dq.ex.length qe, .slice Qp dq.pl.length qp] 29 (0, 0)) (.cells #[.bool dq.m, .int .u8 (dq.ty : Nat), .int .u16 (dq.seq : Nat), .int .u32 (dq.st : Nat), .int .u32 (dq.so : Nat), .slice Rs dq.srcs.length rs, .bool dq.has, .int .u16 (dq.prof : Nat), .slice Re dq.ex.length re, .slice Rp dq.pl.length rp] 38 (0, 0)) (.slice Ax X.length cx) (.slice Ay X.length cy) X (.slice Ab l.length cb) l (.agg #[.bool d.m, .int .u8 (d.ty : Nat), .int .u16 (d.seq : Nat), .int .u32 (d.st : Nat), .int .u32 (d.so : Nat), .slice As d.srcs.length cs, .bool d.has, .int .u16 (d.prof : Nat), .slice Ae d.ex.length ce, .slice Ap d.pl.length cp]) d (.agg #[.bool dq.m, .int .u8 (dq.ty : Nat), .int .u16 (dq.seq : Nat), .int .u32 (dq.st : Nat), .int .u32 (dq.so : Nat), .slice Qs dq.srcs.length qs, .bool dq.has, .int .u16 (dq.prof : Nat), .slice Qe dq.ex.length qe, .slice Qp dq.pl.length qp]) (.agg #[.bool dq.m, .int .u8 (dq.ty : Nat), .int .u16 (dq.seq : Nat), .int .u32 (dq.st : Nat), .int .u32 (dq.so : Nat), .slice Rs dq.srcs.length rs, .bool dq.has, .int .u16 (dq.prof : Nat), .slice Re dq.ex.length re, .slice Rp dq.pl.length rp]) dq (w8.alloc (.cells #[.bool dq.m, .int .u8 (dq.ty : Nat), .int .u16 (dq.seq : Nat), .int .u32 (dq.st : Nat), .int .u32 (dq.so : Nat), .slice Rs dq.srcs.length rs, .bool dq.has, .int .u16 (dq.prof : Nat), .slice Re dq.ex.length re, .slice Rp dq.pl.length rp] 38 (0, 0)))) :=
        Lib.hid ⟨(Fr.of hb8).heap HX7.out (fun h => h), (Fr.of hb8).heap HY7.out (fun h => h), heap_alloc_new w8 _, HXv7.out.below hb8, HYv7.out.below hb8, HBv.out.below (HB7.out.trans (hb8.mono HB7.out.size)), HV.out.below (HB7.out.trans (hb8.mono HB7.out.size)), HQ7.out.below hb8, hr.below hrb, HB7.out.trans (hb8.mono HB7.out.size)⟩
      clear hb hrb hb8 hr HX7 HY7 HXv7 HYv7 HQ7 HB7 k0 k1 k2 k3 k4 k5 k6 k7 k8 k9
      go_wp2_with fail
      generalize w8.alloc (.cells #[.bool dq.m, .int .u8 (dq.ty : Nat), .int .u16 (dq.seq : Nat), .int .u32 (dq.st : Nat), .int .u32 (dq.so : Nat), .slice Rs dq.srcs.length rs, .bool dq.has, .int .u16 (dq.prof : Nat), .slice Re dq.ex.length re, .slice Rp dq.pl.length rp] 38 (0, 0)) = wz at *
      generalize hb0 : w.heap.size = b0 at *
      have HB0 := Lib.hid hb0
      clear hb0
      generalize w6.heap.size = b9 at *
      generalize w8.heap.size = b11 at *
      go_region_held3 (fun w' => TSt w b0 b9 b11 (.cells #[.bool d.m, .int .u8 (d.ty : Nat), .int .u16 (d.seq : Nat), .int .u32 (d.st : Nat), .int .u32 (d.so : Nat), .slice As d.srcs.length cs, .bool d.has, .int .u16 (d.prof : Nat), .slice Ae d.ex.length ce, .slice Ap d.pl.length cp] 29 (0, 0)) (.cells #[.bool dq.m, .int .u8 (dq.ty : Nat), .int .u16 (dq.seq : Nat), .int .u32 (dq.st : Nat), .int .u32 (dq.so : Nat), .slice Qs dq.srcs.length qs, .bool dq.has, .int .u16 (dq.prof : Nat), .slice Qe dq.ex.length qe, .slice Qp dq.pl.length qp] 29 (0, 0)) (.cells #[.bool dq.m, .int .u8 (dq.ty : Nat), .int .u16 (dq.seq : Nat), .int .u32 (dq.st : Nat), .int .u32 (dq.so : Nat), .slice Rs dq.srcs.length rs, .bool dq.has, .int .u16 (dq.prof : Nat), .slice Re dq.ex.length re, .slice Rp dq.pl.length rp] 38 (0, 0)) (.slice Ax X.length cx) (.slice Ay X.length cy) X (.slice Ab l.length cb) l (.agg #[.bool d.m, .int .u8 (d.ty : Nat), .int .u16 (d.seq : Nat), .int .u32 (d.st : Nat), .int .u32 (d.so : Nat), .slice As d.srcs.length cs, .bool d.has, .int .u16 (d.prof : Nat), .slice Ae d.ex.length ce, .slice Ap d.pl.length cp]) d (.agg #[.bool dq.m, .int .u8 (dq.ty : Nat), .int .u16 (dq.seq : Nat), .int .u32 (dq.st : Nat), .int .u32 (dq.so : Nat), .slice Qs dq.srcs.length qs, .bool dq.has, .int .u16 (dq.prof : Nat), .slice Qe dq.ex.length qe, .slice Qp dq.pl.length qp]) (.agg #[.bool dq.m, .int .u8 (dq.ty : Nat), .int .u16 (dq.seq : Nat), .int .u32 (dq.st : Nat), .int .u32 (dq.so : Nat), .slice Rs dq.srcs.length rs, .bool dq.has, .int .u16 (dq.prof : Nat), .slice Re dq.ex.length re, .slice Rp dq.pl.length rp]) dq w' ∧ w'.cell? ⟨b0, 0, none⟩ = some (.bool d.m) ∧ w'.cell? ⟨b0, 1, none⟩ = some (.int .u8 (d.ty : Nat)) ∧ w'.cell? ⟨b0, 2, none⟩ = some (.int .u16 (d.seq : Nat)) ∧ w'.cell? ⟨b0, 3, none⟩ = some (.int .u32 (d.st : Nat)) ∧ w'.cell? ⟨b0, 4, none⟩ = some (.int .u32 (d.so : Nat)) ∧ w'.cell? ⟨b0, 5, none⟩ = some (.slice As d.srcs.length cs) ∧ w'.cell? ⟨b0, 6, none⟩ = some (.bool d.has) ∧ w'.cell? ⟨b0, 7, none⟩ = some (.int .u16 (d.prof : Nat)) ∧ w'.cell? ⟨b0, 8, none⟩ = some (.slice Ae d.ex.length ce) ∧ w'.cell? ⟨b0, 9, none⟩ = some (.slice Ap d.pl.length cp) ∧ w'.cell? ⟨b9, 0, none⟩ = some (.bool dq.m) ∧ w'.cell? ⟨b9, 1, none⟩ = some (.int .u8 (dq.ty : Nat)) ∧ w'.cell? ⟨b9, 2, none⟩ = some (.int .u16 (dq.seq : Nat)) ∧ w'.cell? ⟨b9, 3, none⟩ = some (.int .u32 (dq.st : Nat)) ∧ w'.cell? ⟨b9, 4, none⟩ = some (.int .u32 (dq.so : Nat)) ∧ w'.cell? ⟨b9, 5, none⟩ = some (.slice Qs dq.srcs.length qs) ∧ w'.cell? ⟨b9, 6, none⟩ = some (.bool dq.has) ∧ w'.cell? ⟨b9, 7, none⟩ = some (.int .u16 (dq.prof : Nat)) ∧ w'.cell? ⟨b9, 8, none⟩ = some (.slice Qe dq.ex.length qe) ∧ w'.cell? ⟨b9, 9, none⟩ = some (.slice Qp dq.pl.length qp) ∧ w'.cell? ⟨b11, 0, none⟩ = some (.bool dq.m) ∧ w'.cell? ⟨b11, 1, none⟩ = some (.int .u8 (dq.ty : Nat)) ∧ w'.cell? ⟨b11, 2, none⟩ = some (.int .u16 (dq.seq : Nat)) ∧ w'.cell? ⟨b11, 3, none⟩ = some (.int .u32 (dq.st : Nat)) ∧ w'.cell? ⟨b11, 4, none⟩ = some (.int .u32 (dq.so : Nat)) ∧ w'.cell? ⟨b11, 5, none⟩ = some (.slice Rs dq.srcs.length rs) ∧ w'.cell? ⟨b11, 6, none⟩ = some (.bool dq.has) ∧ w'.cell? ⟨b11, 7, none⟩ = some (.int .u16 (dq.prof : Nat)) ∧ w'.cell? ⟨b11, 8, none⟩ = some (.slice Re dq.ex.length re) ∧ w'.cell? ⟨b11, 9, none⟩ = some (.slice Rp dq.pl.length rp)) (first | exact (((‹TSt w b0 b9 b11 _ _ _ _ _ _ _ _ _ _ _ _ _ _ ∧ _›).1).after (by assumption)).cells | exact (HT.out.drew).cells) (first
        | (go_at_call 12; have hh := (‹TSt w b0 b9 b11 _ _ _ _ _ _ _ _ _ _ _ _ _ _ ∧ _›).1; refine (right_any _ d _ hh.p0 HFw.out).mono ?_; rintro e w9 ⟨rfl, hb⟩; clear hh)
        | (go_at_call 13; have hh := (‹TSt w b0 b9 b11 _ _ _ _ _ _ _ _ _ _ _ _ _ _ ∧ _›).1; refine (rright_any _ d _ hh.p0 HFw.out).mono ?_; rintro e w9 ⟨rfl, hb⟩; clear hh)
        | (go_at_call 9; have hh := (‹TSt w b0 b9 b11 _ _ _ _ _ _ _ _ _ _ _ _ _ _ ∧ _›).1; refine (own_raw _ _ _ _ _ _ _ _ _ _ _ _ _ _ _ _ _).mono ?_; rintro e w9 ⟨rfl, hb⟩; clear hh)
        | (go_at_call 14; have hh := (‹TSt w b0 b9 b11 _ _ _ _ _ _ _ _ _ _ _ _ _ _ ∧ _›).1; refine (rsame_refl _ _ X _ hh.x hh.y).mono ?_; rintro e w9 ⟨rfl, hb⟩; clear hh)
        | (go_at_call 15; have hh := (‹TSt w b0 b9 b11 _ _ _ _ _ _ _ _ _ _ _ _ _ _ ∧ _›).1; refine (psame_refl _ _ dq _ hh.pq hh.pr).mono ?_; rintro e w9 ⟨rfl, hb⟩; clear hh)
        | (go_at_call 16; have hh := (‹TSt w b0 b9 b11 _ _ _ _ _ _ _ _ _ _ _ _ _ _ ∧ _›).1; refine (control_is (b := controlB l) _ l _ hh.b rfl).mono ?_; rintro e w9 ⟨rfl, hb⟩; clear hh)
        | (go_at_call 17; have hh := (‹TSt w b0 b9 b11 _ _ _ _ _ _ _ _ _ _ _ _ _ _ ∧ _›).1; refine (rcontrol_is _ l _ hh.b).mono ?_; rintro e w9 ⟨rfl, hb⟩; clear hh))
      have hh := (‹TSt w b0 b9 b11 _ _ _ _ _ _ _ _ _ _ _ _ _ _ ∧ _›).1
      go_wp2_with fail
      exact HQ.out _ _ ⟨rfl, by rw [← HB0.out]; exact hh.below⟩
theorem tells_law (v : Value) (d : PD) (b : Value) (l : List UInt8) (w : World) (h : PV w v d ∧ d.Wf) (hb : BS w b l) :
    Calls Try.prog 3 #[v, b] w fun r w' => r = .returned (.bool true) ∧ Below w.heap.size w w' := tells_walk v d b l w h.1 h.2 hb
end Go.Proofs.Ytphaehponljofaa
