/- The walk of layer 5's awake. -/
import Derived.Test.YtgcppknfigianaaExFi
import Derived.Test.YtgcppknfigianaaExSm
namespace Go.Proofs.Ytgcppknfigianaa
open Go.RowKit

theorem own_lit (w : World) (base : Nat) (e : TypeId) (k n : Nat) (cs : List Value) (hn : cs.length = n * k) (h : base ≤ w.heap.size) (hm : n ≤ maxLen) : (w.alloc (.cells cs.toArray e)).ownsRow base e k (.slice (some ⟨w.heap.size, 0, none⟩) n n) n cs :=
  ⟨hn, .inr ⟨w.heap.size, n, cs.toArray, rfl, h, heap_alloc_new w _, Nat.le_refl _, hm, by simpa using hn, by simp [← hn]⟩⟩
/-- the chapter's example -/
def tsA (b1 b2 : Nat) : List It := [⟨1, .slice (some ⟨b1, 0, none⟩) 1 1, [7]⟩, ⟨2, .slice (some ⟨b2, 0, none⟩) 2 2, [8, 9]⟩]
def bA : List UInt8 := [16, 7, 33, 8, 9, 0, 0, 0]
def dsA : List DI := [(1, [7]), (2, [8, 9])]
theorem tsA_ds (b1 b2 : Nat) : ds (tsA b1 b2) = dsA := rfl
theorem dsA_ex : exE dsA = 0 ∧ byV dsA = bA := by decide
theorem dsA_enc : bA = encs dsA ++ zeros 3 := by decide
theorem dsA_right : dsA.all rightI = true := by decide
structure AwS (w0 : World) (v : Value) (ts : List It) (u : Value) (m : Value) (tm : List It) (d : Value) (w : World) : Prop where
  v : ItS w v ts
  u : BS w u bA
  m : ItS w m tm
  d : BS w d [8, 9]
  below : Below w0.heap.size w0 w
theorem AwS.after {w0 w w' : World} {v u m d : Value} {ts tm : List It} (h : AwS w0 v ts u m tm d w) (hb : Below w.heap.size w w') : AwS w0 v ts u m tm d w' :=
  ⟨h.v.below hb, h.u.below hb, h.m.below hb, h.d.below hb, h.below.trans (hb.mono h.below.size)⟩
set_option maxHeartbeats 4000000 in
theorem awake5_any (w : World) : Calls Try.prog 4 #[] w fun e w' => e = .returned (.bool true) ∧ Below w.heap.size w w' := by
  refine calls_q fun Q HQ => ?_
  have hb1 : Below w.heap.size w (w.alloc (.cells #[.int .u8 7] 5)) := below_alloc _
  have hb2 := hb1.alloc hb1.size (.cells #[.int .u8 8, .int .u8 9] 5)
  have h7 := (BS.lit w [7] 5 (by decide)).below (below_alloc (.cells #[.int .u8 8, .int .u8 9] 5))
  have h89 := BS.lit (w.alloc (.cells #[.int .u8 7] 5)) [8, 9] 5 (by decide)
  rw [World.size_alloc] at h89
  have hsz : ((w.alloc (.cells #[.int .u8 7] 5)).alloc (.cells #[.int .u8 8, .int .u8 9] 5)).heap.size = w.heap.size + 1 + 1 := by rw [World.size_alloc, World.size_alloc]
  have ho := own_lit ((w.alloc (.cells #[.int .u8 7] 5)).alloc (.cells #[.int .u8 8, .int .u8 9] 5)) 0 37 2 2 (cellsI (tsA w.heap.size (w.heap.size + 1))) rfl (Nat.zero_le _) (by decide)
  have hb3 := hb2.alloc hb2.size (.cells (cellsI (tsA w.heap.size (w.heap.size + 1))).toArray 37)
  have hbn := below_alloc (w := (w.alloc (.cells #[.int .u8 7] 5)).alloc (.cells #[.int .u8 8, .int .u8 9] 5)) (.cells (cellsI (tsA w.heap.size (w.heap.size + 1))).toArray 37)
  have hi : ItS _ _ (tsA w.heap.size (w.heap.size + 1)) := own_items rfl ho (by
    intro t ht
    simp only [tsA, List.mem_cons, List.not_mem_nil, or_false] at ht
    rcases ht with rfl | rfl
    · exact ⟨by show 1 < 256; decide, h7.below hbn⟩
    · exact ⟨by show 2 < 256; decide, h89.below hbn⟩)
  rw [hsz] at hi
  have HI := Lib.hid hi
  have HB := Lib.hid hb3
  clear hb1 hb2 h7 h89 hsz ho hb3 hbn hi
  go_enter Try.func4, Try.ntmps4
  go_wp2_with fail
  have hl2 : (tsA w.heap.size (w.heap.size + 1)).length ≤ 40 := by show 2 ≤ 40; decide
  have hc := ibytes_any _ _ _ HI.out hl2
  rw [tsA_ds, dsA_ex.1, dsA_ex.2] at hc
  refine hc.mono ?_
  rintro e w1 ⟨u, rfl, hu, hb⟩
  clear hc
  have HI1 := Lib.hid (HI.out.below hb)
  have HB1 := Lib.hid (HB.out.trans (hb.mono HB.out.size))
  have HU1 := Lib.hid hu
  clear hu hb HI HB
  go_wp2_with fail
  have hu := HU1.out
  rw [dsA_enc] at hu
  refine (iread_any _ dsA 3 _ hu dsA_right (by decide)).mono ?_
  rintro e w2 ⟨m, tm, rfl, hm, hds, hb⟩
  have HI2 := Lib.hid (HI1.out.below hb)
  have HB2 := Lib.hid (HB1.out.trans (hb.mono HB1.out.size))
  have HU2 := Lib.hid (HU1.out.below hb)
  have HM2 := Lib.hid hm
  have HDs := Lib.hid hds
  clear hu hm hds hb HI1 HB1 HU1
  go_wp2_with fail
  have hf := ifind_any _ _ 2 _ HI2.out (by intro t ht; simp only [tsA, List.mem_cons, List.not_mem_nil, or_false] at ht; rcases ht with rfl | rfl <;> simp)
  rw [show findI (tsA w.heap.size (w.heap.size + 1)) 2 = some [8, 9] from rfl] at hf
  refine hf.mono ?_
  rintro e w3 ⟨d, rfl, hd, hb⟩
  have HA3 := Lib.hid (show AwS w _ (tsA w.heap.size (w.heap.size + 1)) u m tm d w3 from ⟨HI2.out.below hb, HU2.out.below hb, HM2.out.below hb, hd, HB2.out.trans (hb.mono HB2.out.size)⟩)
  clear hf hd hb HI2 HB2 HU2 HM2
  go_wp2_with fail
  have HA4 := Lib.hid (HA3.out.after (below_alloc (.cells #[.int .u8 3] 5)))
  refine (iread_bad _ _ (BS.lit w3 [3] 5 (by decide))).mono ?_
  rintro e w5 ⟨⟨z, rfl⟩, hb⟩
  have HA5 := Lib.hid (HA4.out.after hb)
  clear hb HA3 HA4
  go_wp2_with fail
  have HA6 := Lib.hid (HA5.out.after (below_alloc (.cells (c8 bA).toArray 5)))
  refine (rsame_is (r := true) _ _ bA bA _ HA6.out.u (BS.lit w5 bA 5 (by decide)) (by decide)).mono ?_
  rintro e w7 ⟨rfl, hb⟩
  have HA7 := Lib.hid (HA6.out.after hb)
  clear hb HA5 HA6
  go_wp2_with fail
  have hl3 : tm.length ≤ 40 := by have := congrArg List.length HDs.out; rw [ds_len] at this; rw [this]; decide
  refine (iown_any _ _ _ HA7.out.m hl3).mono ?_
  rintro e w8 ⟨om, rfl, hom, hb⟩
  have HA8 := Lib.hid (HA7.out.after hb)
  have HO8 := Lib.hid hom
  clear hb hom HA7
  go_wp2_with fail
  refine (iown_any _ _ _ HA8.out.v hl2).mono ?_
  rintro e w9 ⟨ol, rfl, hol, hb⟩
  have HA9 := Lib.hid (HA8.out.after hb)
  have HO9 := Lib.hid (HO8.out.below hb)
  have HL9 := Lib.hid hol
  clear hb hol HA8 HO8
  go_wp2_with fail
  have hc := isame_any _ _ _ _ _ HO9.out HL9.out
  rw [show decide (tm.map It.d = (tsA w.heap.size (w.heap.size + 1)).map It.d) = true from decide_eq_true HDs.out] at hc
  refine hc.mono ?_
  rintro e w10 ⟨rfl, hb⟩
  have HA10 := Lib.hid (HA9.out.after hb)
  clear hc hb HA9 HO9 HL9
  go_wp2_with fail
  have HA11 := Lib.hid (HA10.out.after (below_alloc (.cells #[.int .u8 8, .int .u8 9] 5)))
  refine (rsame_is (r := true) _ _ [8, 9] [8, 9] _ HA11.out.d (BS.lit w10 [8, 9] 5 (by decide)) (by decide)).mono ?_
  rintro e w12 ⟨rfl, hb⟩
  have HA12 := Lib.hid (HA11.out.after hb)
  clear hb HA10 HA11
  go_wp2_with fail
  exact HQ.out _ _ ⟨rfl, HA12.out.below⟩
end Go.Proofs.Ytgcppknfigianaa
