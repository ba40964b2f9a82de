/- The walk of layer 6's awake. -/
import Derived.Test.YthomlikmjgeccaaPbBeg
import Derived.Test.YthomlikmjgeccaaBSame
namespace Go.Proofs.Ythomlikmjgeccaa
open Go.RowKit

/-- the chapter's example -/
def dAw : DD := ⟨false, true, 0, 300, true, 7, -1, false, -1⟩
theorem dAw_right : rightD dAw = true := by decide
theorem dAw_enc : encD dAw = [144, 192, 129, 44, 7] := by decide
theorem dAw_res : resD (encD dAw) = dAw ∧ resN (encD dAw) = 5 ∧ resE (encD dAw) = 0 := by
  have h := res_back (right_p dAw_right) []
  rw [List.append_nil] at h
  exact h
theorem nil_res : resD [] = DD.zero ∧ resN [] = 0 ∧ resE [] = 3 := ⟨rfl, rfl, rfl⟩
theorem read_nil (w : World) : Calls Try.prog 8 #[.slice none 0 0] w fun e w' => e = .returned (.tuple #[DD.zero.val, .int .i64 0, .int .i64 3]) ∧ Below w.heap.size w w' :=
  pread_any _ [] w (BS.nil w)
theorem beg_yes (w : World) : Calls Try.prog 7 #[.slice (some ⟨w.heap.size, 0, none⟩) 2 2] (w.alloc (.cells #[.int .u8 16, .int .u8 4] 5)) fun e w' => e = .returned (.bool true) ∧ Below w.heap.size w w' := by
  have h : BS (w.alloc (.cells #[.int .u8 16, .int .u8 4] 5)) (.slice (some ⟨w.heap.size, 0, none⟩) 2 2) [16, 4] := BS.lit w [16, 4] 5 (by decide)
  have hc := beg_any _ _ _ h
  rw [show begB [16, 4] = true from by decide] at hc
  have hb := below_alloc (w := w) (.cells #[.int .u8 16, .int .u8 4] 5)
  exact hc.mono fun e w' hp => ⟨hp.1, hb.trans (hp.2.mono hb.size)⟩
theorem beg_odd (w : World) : Calls Try.prog 7 #[.slice (some ⟨w.heap.size, 0, none⟩) 2 2] (w.alloc (.cells #[.int .u8 16, .int .u8 5] 5)) fun e w' => e = .returned (.bool false) ∧ Below w.heap.size w w' := by
  have h : BS (w.alloc (.cells #[.int .u8 16, .int .u8 5] 5)) (.slice (some ⟨w.heap.size, 0, none⟩) 2 2) [16, 5] := BS.lit w [16, 5] 5 (by decide)
  have hc := beg_any _ _ _ h
  rw [show begB [16, 5] = false from by decide] at hc
  have hb := below_alloc (w := w) (.cells #[.int .u8 16, .int .u8 5] 5)
  exact hc.mono fun e w' hp => ⟨hp.1, hb.trans (hp.2.mono hb.size)⟩
theorem beg_no (w : World) : Calls Try.prog 7 #[.slice (some ⟨w.heap.size, 0, none⟩) 2 2] (w.alloc (.cells #[.int .u8 0, .int .u8 4] 5)) fun e w' => e = .returned (.bool false) ∧ Below w.heap.size w w' := by
  have h : BS (w.alloc (.cells #[.int .u8 0, .int .u8 4] 5)) (.slice (some ⟨w.heap.size, 0, none⟩) 2 2) [0, 4] := BS.lit w [0, 4] 5 (by decide)
  have hc := beg_any _ _ _ h
  rw [show begB [0, 4] = false from by decide] at hc
  have hb := below_alloc (w := w) (.cells #[.int .u8 0, .int .u8 4] 5)
  exact hc.mono fun e w' hp => ⟨hp.1, hb.trans (hp.2.mono hb.size)⟩
theorem right_aw (w : World) : Calls Try.prog 10 #[.agg #[.bool false, .bool true, .int .u8 0, .int .i64 300, .bool true, .int .i64 7, .int .i64 (-1), .bool false, .int .i64 (-1)]] w fun e w' => e = .returned (.bool true) ∧ Below w.heap.size w w' := by
  have h := pright_any dAw w
  rw [dAw_right] at h
  exact h
theorem right_no (w : World) : Calls Try.prog 10 #[.agg #[.bool false, .bool false, .int .u8 8, .int .i64 0, .bool false, .int .i64 0, .int .i64 0, .bool false, .int .i64 0]] w fun e w' => e = .returned (.bool false) ∧ Below w.heap.size w w' := by
  have h := pright_any ⟨false, false, 8, 0, false, 0, 0, false, 0⟩ w
  rw [show rightD ⟨false, false, 8, 0, false, 0, 0, false, 0⟩ = false from by decide] at h
  exact h
/-- bytes, and two descriptions in boxes -/
structure AwP (w0 : World) (b1 b4 : Nat) (o1 o4 : Obj) (u : Value) (l : List UInt8) (w : World) : Prop where
  x1 : w.heap[b1]? = some o1
  x4 : w.heap[b4]? = some o4
  u : BS w u l
  below : Below w0.heap.size w0 w
theorem AwP.after {w0 w w' : World} {b1 b4 : Nat} {o1 o4 : Obj} {u : Value} {l : List UInt8} (h : AwP w0 b1 b4 o1 o4 u l w) (hb : Below w.heap.size w w') : AwP w0 b1 b4 o1 o4 u l w' :=
  ⟨(Fr.of hb).heap h.x1 (fun h => h), (Fr.of hb).heap h.x4 (fun h => h), h.u.below hb, h.below.trans (hb.mono h.below.size)⟩
set_option maxHeartbeats 4000000 in
theorem awake6_any (w : World) : Calls Try.prog 5 #[] w fun e w' => e = .returned (.bool true) ∧ Below w.heap.size w w' := by
  have hx1 := heap_alloc_new w (.cells #[.bool false, .bool true, .int .u8 0, .int .i64 300, .bool true, .int .i64 7, .int .i64 (-1), .bool false, .int .i64 (-1)] 23)
  have hb1 := below_alloc (w := w) (.cells #[.bool false, .bool true, .int .u8 0, .int .i64 300, .bool true, .int .i64 7, .int .i64 (-1), .bool false, .int .i64 (-1)] 23)
  have HX := Lib.hid hx1
  have HB := Lib.hid hb1
  clear hx1 hb1
  refine calls_q fun Q HQ => ?_
  go_enter Try.func5, Try.ntmps5
  go_wp2_with fail
  refine (pbytes_any dAw _).mono ?_
  rintro e w1 ⟨u, hb, h | h⟩
  · rw [dAw_right] at h; exact absurd h.1 (by decide)
  obtain ⟨_, rfl, hu⟩ := h
  have hx1 := (Fr.of hb).heap HX.out (fun h => h)
  have hb1 := HB.out.trans (hb.mono HB.out.size)
  have hu1 := hu.1
  have HX1 := Lib.hid hx1
  have HB1 := Lib.hid hb1
  have HU1 := Lib.hid hu1
  clear hx1 hb1 hu hu1 hb HX HB
  go_wp2_with fail
  have hr := pread_any u _ w1 HU1.out
  unfold PbReadPost at hr
  rw [dAw_res.1, dAw_res.2.1, dAw_res.2.2] at hr
  refine hr.mono ?_
  clear hr
  rintro e w2 ⟨rfl, hb⟩
  have hx4 := heap_alloc_new w2 (.cells #[.bool false, .bool true, .int .u8 0, .int .i64 300, .bool true, .int .i64 7, .int .i64 (-1), .bool false, .int .i64 (-1)] 23)
  have hb2 := below_alloc (w := w2) (.cells #[.bool false, .bool true, .int .u8 0, .int .i64 300, .bool true, .int .i64 7, .int .i64 (-1), .bool false, .int .i64 (-1)] 23)
  have hb3 := hb.trans (hb2.mono hb.size)
  have HA := Lib.hid (show AwP w w.heap.size w2.heap.size _ _ u (encD dAw) _ from ⟨(Fr.of hb3).heap HX1.out (fun h => h), hx4, HU1.out.below hb3, HB1.out.trans (hb3.mono HB1.out.size)⟩)
  clear hx4 hb2 hb3 hb HX1 HB1 HU1
  simp only [DD.val, DD.cs, dAw]
  go_wp2_with fail
  refine (read_nil _).mono ?_
  rintro e w3 ⟨rfl, hb⟩
  have ha := (HA.out.after hb).after (below_alloc (.cells #[.bool false, .bool false, .int .u8 0, .int .i64 0, .bool false, .int .i64 0, .int .i64 0, .bool false, .int .i64 0] 23))
  have ha2 := ha.after (below_alloc (.cells #[.int .u8 144, .int .u8 192, .int .u8 129, .int .u8 44, .int .u8 7] 5))
  have hl : BS ((w3.alloc (.cells #[.bool false, .bool false, .int .u8 0, .int .i64 0, .bool false, .int .i64 0, .int .i64 0, .bool false, .int .i64 0] 23)).alloc (.cells #[.int .u8 144, .int .u8 192, .int .u8 129, .int .u8 44, .int .u8 7] 5)) (.slice (some ⟨w3.heap.size + 1, 0, none⟩) 5 5) [144, 192, 129, 44, 7] := by
    have h := BS.lit (w3.alloc (.cells #[.bool false, .bool false, .int .u8 0, .int .i64 0, .bool false, .int .i64 0, .int .i64 0, .bool false, .int .i64 0] 23)) [144, 192, 129, 44, 7] 5 (by decide)
    rw [World.size_alloc] at h
    exact h
  clear HA
  have HA := Lib.hid ha2
  have HL := Lib.hid hl
  clear ha ha2 hl hb
  simp only [DD.val, DD.cs, DD.zero]
  go_wp2_with fail
  refine (rsame_any u _ _ _ _ HA.out.u HL.out).mono ?_
  rintro e w4 ⟨rfl, n, rfl⟩
  rw [show (encD dAw == [144, 192, 129, 44, 7]) = true from by rw [dAw_enc]; decide]
  have ha := HA.out.after (below_drewN (Below.refl _ _) n)
  generalize World.drewN _ n = w4 at *
  clear HA HL
  have HA := Lib.hid ha
  clear ha
  obtain ⟨k0, k1, k2, k3, k4, k5, k6, k7, k8⟩ := nine_cells HA.out.x1
  obtain ⟨m0, m1, m2, m3, m4, m5, m6, m7, m8⟩ := nine_cells HA.out.x4
  go_wp2_with fail
  have HB := Lib.hid HA.out.below
  clear HA k0 k1 k2 k3 k4 k5 k6 k7 k8 m0 m1 m2 m3 m4 m5 m6 m7 m8
  refine (right_aw _).mono ?_
  rintro e w5 ⟨rfl, hb⟩
  have hb2 := HB.out.trans (hb.mono HB.out.size)
  clear HB hb
  have HB := Lib.hid hb2
  clear hb2
  go_wp2_with fail
  refine (right_no _).mono ?_
  rintro e w6 ⟨rfl, hb⟩
  have hb2 := HB.out.trans (hb.mono HB.out.size)
  clear HB hb
  have HB := Lib.hid hb2
  clear hb2
  go_wp2_with fail
  refine (beg_yes _).mono ?_
  rintro e w7 ⟨rfl, hb⟩
  have hb2 := HB.out.trans (hb.mono HB.out.size)
  clear HB hb
  have HB := Lib.hid hb2
  clear hb2
  go_wp2_with fail
  refine (beg_odd _).mono ?_
  rintro e w8 ⟨rfl, hb⟩
  have hb2 := HB.out.trans (hb.mono HB.out.size)
  clear HB hb
  have HB := Lib.hid hb2
  clear hb2
  go_wp2_with fail
  refine (beg_no _).mono ?_
  rintro e w9 ⟨rfl, hb⟩
  have hb2 := HB.out.trans (hb.mono HB.out.size)
  clear HB hb
  have HB := Lib.hid hb2
  clear hb2
  go_wp2_with fail
  exact HQ.out _ _ ⟨rfl, HB.out⟩
end Go.Proofs.Ythomlikmjgeccaa
