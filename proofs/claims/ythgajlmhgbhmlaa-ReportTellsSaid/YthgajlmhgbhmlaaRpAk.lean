/- The walk of layer 8's awake. -/
import Derived.Test.YthgajlmhgbhmlaaRpAw
namespace Go.Proofs.Ythgajlmhgbhmlaa
open Go.RowKit

theorem bs_sl {w : World} {v : Value} {l : List UInt8} {n : Nat} (h : BS w v l) (hn : l.length = n) : ∃ A c, v = .slice A n c := by
  obtain ⟨A, c, rfl, _⟩ := bs_parts h
  subst hn
  exact ⟨A, c, rfl⟩
theorem bl_sl {w : World} {v : Value} {l : List DB} {n : Nat} (h : BlS w v l) (hn : l.length = n) : ∃ A c, v = .slice A n c := by
  obtain ⟨A, c, rfl, _⟩ := h.parts
  subst hn
  exact ⟨A, c, rfl⟩
abbrev oC (a b : Int) (v : Value) : Obj := .cells #[.int .u8 a, .int .u8 b, v] 30 (0, 0)
abbrev oRA (v : Value) : Obj := .cells #[.bool false, .int .u32 5, .int .u32 0, .int .u32 0, .int .u32 0, .int .u32 0, .int .u32 0, v] 27 (0, 0)
abbrev oRB (v : Value) : Obj := .cells #[.bool true, .int .u32 1, .int .u32 2, .int .u32 0, .int .u32 0, .int .u32 0, .int .u32 0, v] 27 (0, 0)
/-- the boxes of awake -/
structure AS8 (w0 : World) (bc br bs bd bt : Nat) (vc vr vs vd vt : Value) (w : World) : Prop where
  c : w.heap[bc]? = some (oC 0 201 vc)
  r : w.heap[br]? = some (oRA vr)
  s : w.heap[bs]? = some (oRB vs)
  d : w.heap[bd]? = some (oC 1 200 vd)
  t : w.heap[bt]? = some (oRB vt)
  hc : BS w vc [0, 0, 0, 5]
  hr : BlS w vr []
  hs : BlS w vs [bB]
  hd : BS w vd lB
  ht : BlS w vt [bB]
  below : Below w0.heap.size w0 w
theorem AS8.after {w0 w w' : World} {bc br bs bd bt : Nat} {vc vr vs vd vt : Value} (h : AS8 w0 bc br bs bd bt vc vr vs vd vt w) (hb : Below w.heap.size w w') : AS8 w0 bc br bs bd bt vc vr vs vd vt w' :=
  ⟨(Fr.of hb).heap h.c (fun h => h), (Fr.of hb).heap h.r (fun h => h), (Fr.of hb).heap h.s (fun h => h), (Fr.of hb).heap h.d (fun h => h), (Fr.of hb).heap h.t (fun h => h), h.hc.below hb, h.hr.below hb, h.hs.below hb, h.hd.below hb, h.ht.below hb, h.below.trans (hb.mono h.below.size)⟩
theorem AS8.alloc {w0 w : World} {bc br bs bd bt : Nat} {vc vr vs vd vt : Value} (h : AS8 w0 bc br bs bd bt vc vr vs vd vt w) (o : Obj) : AS8 w0 bc br bs bd bt vc vr vs vd vt (w.alloc o) := h.after (below_alloc o)
theorem AS8.drew {w0 w : World} {bc br bs bd bt : Nat} {vc vr vs vd vt : Value} (h : AS8 w0 bc br bs bd bt vc vr vs vd vt w) : AS8 w0 bc br bs bd bt vc vr vs vd vt w.drew := h.after (below_drewN (Below.refl _ _) 1)
theorem AS8.cells {w0 w : World} {bc br bs bd bt : Nat} {vc vr vs vd vt : Value} (h : AS8 w0 bc br bs bd bt vc vr vs vd vt w) :
    AS8 w0 bc br bs bd bt vc vr vs vd vt w ∧ w.cell? ⟨bc, 0, none⟩ = some (.int .u8 0) ∧ w.cell? ⟨bc, 1, none⟩ = some (.int .u8 201) ∧ w.cell? ⟨bc, 2, none⟩ = some vc ∧
      w.cell? ⟨br, 0, none⟩ = some (.bool false) ∧ w.cell? ⟨br, 1, none⟩ = some (.int .u32 5) ∧ w.cell? ⟨br, 2, none⟩ = some (.int .u32 0) ∧ w.cell? ⟨br, 3, none⟩ = some (.int .u32 0) ∧ w.cell? ⟨br, 4, none⟩ = some (.int .u32 0) ∧ w.cell? ⟨br, 5, none⟩ = some (.int .u32 0) ∧ w.cell? ⟨br, 6, none⟩ = some (.int .u32 0) ∧ w.cell? ⟨br, 7, none⟩ = some vr ∧
      w.cell? ⟨bs, 0, none⟩ = some (.bool true) ∧ w.cell? ⟨bs, 1, none⟩ = some (.int .u32 1) ∧ w.cell? ⟨bs, 2, none⟩ = some (.int .u32 2) ∧ w.cell? ⟨bs, 3, none⟩ = some (.int .u32 0) ∧ w.cell? ⟨bs, 4, none⟩ = some (.int .u32 0) ∧ w.cell? ⟨bs, 5, none⟩ = some (.int .u32 0) ∧ w.cell? ⟨bs, 6, none⟩ = some (.int .u32 0) ∧ w.cell? ⟨bs, 7, none⟩ = some vs ∧
      w.cell? ⟨bd, 0, none⟩ = some (.int .u8 1) ∧ w.cell? ⟨bd, 1, none⟩ = some (.int .u8 200) ∧ w.cell? ⟨bd, 2, none⟩ = some vd ∧
      w.cell? ⟨bt, 0, none⟩ = some (.bool true) ∧ w.cell? ⟨bt, 1, none⟩ = some (.int .u32 1) ∧ w.cell? ⟨bt, 2, none⟩ = some (.int .u32 2) ∧ w.cell? ⟨bt, 3, none⟩ = some (.int .u32 0) ∧ w.cell? ⟨bt, 4, none⟩ = some (.int .u32 0) ∧ w.cell? ⟨bt, 5, none⟩ = some (.int .u32 0) ∧ w.cell? ⟨bt, 6, none⟩ = some (.int .u32 0) ∧ w.cell? ⟨bt, 7, none⟩ = some vt := by
  have c := obj_cell h.c
  have r := obj_cell h.r
  have s := obj_cell h.s
  have d := obj_cell h.d
  have t := obj_cell h.t
  exact ⟨h, c 0, c 1, c 2, r 0, r 1, r 2, r 3, r 4, r 5, r 6, r 7, s 0, s 1, s 2, s 3, s 4, s 5, s 6, s 7, d 0, d 1, d 2, t 0, t 1, t 2, t 3, t 4, t 5, t 6, t 7⟩
set_option maxHeartbeats 4000000 in
theorem awake8_any (w : World) : Calls Try.prog 6 #[] w fun e w' => e = .returned (.bool true) ∧ Below w.heap.size w w' := by
  refine calls_q fun Q HQ => ?_
  go_enter Try.func6, Try.ntmps6
  go_wp2_with fail
  refine (wA_any w).mono ?_
  rintro e w1 ⟨uc, rfl, huc, hb⟩
  obtain ⟨Ac, cc, rfl⟩ := bs_sl huc (n := 4) rfl
  have HUc := Lib.hid (huc.below (below_alloc (oC 0 201 (.slice Ac 4 cc))))
  have HXc := Lib.hid (heap_alloc_new w1 (oC 0 201 (.slice Ac 4 cc)))
  have HB1 := Lib.hid (hb.alloc hb.size (oC 0 201 (.slice Ac 4 cc)))
  clear huc hb
  go_upto_region 2 with fail
  rw [show w1.alloc (.cells #[.int .u8 0, .int .u8 201, .slice Ac 4 cc] 30) = w1.alloc (oC 0 201 (.slice Ac 4 cc)) from rfl]
  generalize w1.alloc (oC 0 201 (.slice Ac 4 cc)) = w2 at *
  generalize w1.heap.size = bc at *
  obtain ⟨k0, k1, k2, _, _, _⟩ := cells3 HXc.out
  go_wp2_with fail
  refine (rdA_any _ w2 HUc.out).mono ?_
  rintro e w3 ⟨vr, rfl, hvr, hb⟩
  obtain ⟨Ar, cr, rfl⟩ := bl_sl hvr (n := 0) rfl
  have hb2 := hb.alloc hb.size (oRA (.slice Ar 0 cr))
  have HUr := Lib.hid (hvr.below (below_alloc (oRA (.slice Ar 0 cr))))
  have HXr := Lib.hid (heap_alloc_new w3 (oRA (.slice Ar 0 cr)))
  have HUc2 := Lib.hid (HUc.out.below hb2)
  have HXc2 := Lib.hid ((Fr.of hb2).heap HXc.out (fun h => h))
  have HB2 := Lib.hid (HB1.out.trans (hb2.mono HB1.out.size))
  clear hvr hb hb2 HUc HXc HB1 k0 k1 k2
  go_upto_region 3 with fail
  rw [show w3.alloc (.cells #[.bool false, .int .u32 5, .int .u32 0, .int .u32 0, .int .u32 0, .int .u32 0, .int .u32 0, .slice Ar 0 cr] 27) = w3.alloc (oRA (.slice Ar 0 cr)) from rfl]
  generalize w3.alloc (oRA (.slice Ar 0 cr)) = w4 at *
  generalize w3.heap.size = br at *
  go_upto_region 4 with fail
  have hbl := bl_obj (w := w4.alloc (.cells #[.int .u32 3, .int .u8 0, .int .i32 (-1), .int .u32 0, .int .u32 0, .int .u32 0, .int .u32 0] 56 (0, 0))) (k := w4.heap.size) (b := bB) (t := 56) (heap_alloc_new w4 (.cells #[.int .u32 3, .int .u8 0, .int .i32 (-1), .int .u32 0, .int .u32 0, .int .u32 0, .int .u32 0] 56 (0, 0))) (rB_ok.bl bB (by simp [rB]))
  have hb1 := (below_alloc (w := w4) (.cells #[.int .u32 3, .int .u8 0, .int .i32 (-1), .int .u32 0, .int .u32 0, .int .u32 0, .int .u32 0] 56 (0, 0))).alloc (below_alloc (.cells #[.int .u32 3, .int .u8 0, .int .i32 (-1), .int .u32 0, .int .u32 0, .int .u32 0, .int .u32 0] 56 (0, 0))).size (oRB (.slice (some ⟨w4.heap.size, 0, none⟩) 1 1))
  have hxs := heap_alloc_new (w4.alloc (.cells #[.int .u32 3, .int .u8 0, .int .i32 (-1), .int .u32 0, .int .u32 0, .int .u32 0, .int .u32 0] 56 (0, 0))) (oRB (.slice (some ⟨w4.heap.size, 0, none⟩) 1 1))
  rw [World.size_alloc] at hxs
  have HUs := Lib.hid (hbl.below (below_alloc (oRB (.slice (some ⟨w4.heap.size, 0, none⟩) 1 1))))
  have HXs := Lib.hid hxs
  have HUr2 := Lib.hid (HUr.out.below hb1)
  have HXr2 := Lib.hid ((Fr.of hb1).heap HXr.out (fun h => h))
  have HUc3 := Lib.hid (HUc2.out.below hb1)
  have HXc3 := Lib.hid ((Fr.of hb1).heap HXc2.out (fun h => h))
  have HB3 := Lib.hid (HB2.out.trans (hb1.mono HB2.out.size))
  clear hbl hb1 hxs HUr HXr HUc2 HXc2 HB2
  rw [show (w4.alloc (.cells #[.int .u32 3, .int .u8 0, .int .i32 (-1), .int .u32 0, .int .u32 0, .int .u32 0, .int .u32 0] 56)).alloc (.cells #[.bool true, .int .u32 1, .int .u32 2, .int .u32 0, .int .u32 0, .int .u32 0, .int .u32 0, .slice (some ⟨w4.heap.size, 0, none⟩) 1 1] 27) = (w4.alloc (.cells #[.int .u32 3, .int .u8 0, .int .i32 (-1), .int .u32 0, .int .u32 0, .int .u32 0, .int .u32 0] 56 (0, 0))).alloc (oRB (.slice (some ⟨w4.heap.size, 0, none⟩) 1 1)) from rfl]
  generalize hw5 : (w4.alloc (.cells #[.int .u32 3, .int .u8 0, .int .i32 (-1), .int .u32 0, .int .u32 0, .int .u32 0, .int .u32 0] 56 (0, 0))).alloc (oRB (.slice (some ⟨w4.heap.size, 0, none⟩) 1 1)) = w5 at *
  clear hw5
  generalize w4.heap.size + 1 = bs at *
  generalize w4.heap.size = b4 at *
  obtain ⟨k0, k1, k2, k3, k4, k5, k6, k7⟩ := cells8 HXs.out
  go_wp2_with fail
  refine (wB_any _ w5 HUs.out).mono ?_
  rintro e w6 ⟨ud, rfl, hud, hb⟩
  obtain ⟨Ad, cd, rfl⟩ := bs_sl hud (n := 48) lB_len
  have hb2 := hb.alloc hb.size (oC 1 200 (.slice Ad 48 cd))
  have HUd := Lib.hid (hud.below (below_alloc (oC 1 200 (.slice Ad 48 cd))))
  have HXd := Lib.hid (heap_alloc_new w6 (oC 1 200 (.slice Ad 48 cd)))
  have HUs2 := Lib.hid (HUs.out.below hb2)
  have HXs2 := Lib.hid ((Fr.of hb2).heap HXs.out (fun h => h))
  have HUr3 := Lib.hid (HUr2.out.below hb2)
  have HXr3 := Lib.hid ((Fr.of hb2).heap HXr2.out (fun h => h))
  have HUc4 := Lib.hid (HUc3.out.below hb2)
  have HXc4 := Lib.hid ((Fr.of hb2).heap HXc3.out (fun h => h))
  have HB4 := Lib.hid (HB3.out.trans (hb2.mono HB3.out.size))
  clear hud hb hb2 HUs HXs HUr2 HXr2 HUc3 HXc3 HB3 k0 k1 k2 k3 k4 k5 k6 k7
  go_upto_region 5 with fail
  rw [show w6.alloc (.cells #[.int .u8 1, .int .u8 200, .slice Ad 48 cd] 30) = w6.alloc (oC 1 200 (.slice Ad 48 cd)) from rfl]
  generalize w6.alloc (oC 1 200 (.slice Ad 48 cd)) = w7 at *
  generalize w6.heap.size = bd at *
  obtain ⟨k0, k1, k2, _, _, _⟩ := cells3 HXd.out
  go_wp2_with fail
  refine (rdB_any _ w7 HUd.out).mono ?_
  rintro e w8 ⟨vt, rfl, hvt, hb⟩
  obtain ⟨At, ct, rfl⟩ := bl_sl hvt (n := 1) rfl
  have hb2 := hb.alloc hb.size (oRB (.slice At 1 ct))
  have HA := Lib.hid (show AS8 w bc br bs bd w8.heap.size (.slice Ac 4 cc) (.slice Ar 0 cr) (.slice (some ⟨b4, 0, none⟩) 1 1) (.slice Ad 48 cd) (.slice At 1 ct) _ from ⟨(Fr.of hb2).heap HXc4.out (fun h => h), (Fr.of hb2).heap HXr3.out (fun h => h), (Fr.of hb2).heap HXs2.out (fun h => h), (Fr.of hb2).heap HXd.out (fun h => h), heap_alloc_new w8 (oRB (.slice At 1 ct)), HUc4.out.below hb2, HUr3.out.below hb2, HUs2.out.below hb2, HUd.out.below hb2, hvt.below (below_alloc _), HB4.out.trans (hb2.mono HB4.out.size)⟩)
  clear hvt hb hb2 HXc4 HXr3 HXs2 HXd HUc4 HUr3 HUs2 HUd HB4 k0 k1 k2
  go_upto_region 6 with fail
  rw [show w8.alloc (.cells #[.bool true, .int .u32 1, .int .u32 2, .int .u32 0, .int .u32 0, .int .u32 0, .int .u32 0, .slice At 1 ct] 27) = w8.alloc (oRB (.slice At 1 ct)) from rfl]
  generalize w8.alloc (oRB (.slice At 1 ct)) = w9 at *
  generalize w8.heap.size = bt at *
  go_wp2_with fail
  refine (rdC_any w9).mono ?_
  rintro e w10 ⟨vi, rfl, hvi, hb⟩
  obtain ⟨Ai, ci, rfl⟩ := bl_sl hvi (n := 0) rfl
  have HA2 := Lib.hid ((HA.out.after hb).alloc (.cells #[.bool false, .int .u32 0, .int .u32 0, .int .u32 0, .int .u32 0, .int .u32 0, .int .u32 0, .slice Ai 0 ci] 27))
  clear hvi hb HA
  go_upto_region 7 with fail
  generalize w10.alloc (.cells #[.bool false, .int .u32 0, .int .u32 0, .int .u32 0, .int .u32 0, .int .u32 0, .int .u32 0, .slice Ai 0 ci] 27) = w11 at *
  generalize w10.heap.size = bi at *
  have HRt := Lib.hid (fun w => (rpright_v true 1 2 0 0 0 0 [bB] (.slice (some ⟨b4, 0, none⟩) 1 1) w))
  rw [show rightR ⟨true, 1, 2, 0, 0, 0, 0, [bB]⟩ = true from rB_right] at HRt
  go_region_held3 (fun w' => AS8 w bc br bs bd bt (.slice Ac 4 cc) (.slice Ar 0 cr) (.slice (some ⟨b4, 0, none⟩) 1 1) (.slice Ad 48 cd) (.slice At 1 ct) w' ∧ w'.cell? ⟨bc, 0, none⟩ = some (.int .u8 0) ∧ w'.cell? ⟨bc, 1, none⟩ = some (.int .u8 201) ∧ w'.cell? ⟨bc, 2, none⟩ = some (.slice Ac 4 cc) ∧ w'.cell? ⟨br, 0, none⟩ = some (.bool false) ∧ w'.cell? ⟨br, 1, none⟩ = some (.int .u32 5) ∧ w'.cell? ⟨br, 2, none⟩ = some (.int .u32 0) ∧ w'.cell? ⟨br, 3, none⟩ = some (.int .u32 0) ∧ w'.cell? ⟨br, 4, none⟩ = some (.int .u32 0) ∧ w'.cell? ⟨br, 5, none⟩ = some (.int .u32 0) ∧ w'.cell? ⟨br, 6, none⟩ = some (.int .u32 0) ∧ w'.cell? ⟨br, 7, none⟩ = some (.slice Ar 0 cr) ∧ w'.cell? ⟨bs, 0, none⟩ = some (.bool true) ∧ w'.cell? ⟨bs, 1, none⟩ = some (.int .u32 1) ∧ w'.cell? ⟨bs, 2, none⟩ = some (.int .u32 2) ∧ w'.cell? ⟨bs, 3, none⟩ = some (.int .u32 0) ∧ w'.cell? ⟨bs, 4, none⟩ = some (.int .u32 0) ∧ w'.cell? ⟨bs, 5, none⟩ = some (.int .u32 0) ∧ w'.cell? ⟨bs, 6, none⟩ = some (.int .u32 0) ∧ w'.cell? ⟨bs, 7, none⟩ = some (.slice (some ⟨b4, 0, none⟩) 1 1) ∧ w'.cell? ⟨bd, 0, none⟩ = some (.int .u8 1) ∧ w'.cell? ⟨bd, 1, none⟩ = some (.int .u8 200) ∧ w'.cell? ⟨bd, 2, none⟩ = some (.slice Ad 48 cd) ∧ w'.cell? ⟨bt, 0, none⟩ = some (.bool true) ∧ w'.cell? ⟨bt, 1, none⟩ = some (.int .u32 1) ∧ w'.cell? ⟨bt, 2, none⟩ = some (.int .u32 2) ∧ w'.cell? ⟨bt, 3, none⟩ = some (.int .u32 0) ∧ w'.cell? ⟨bt, 4, none⟩ = some (.int .u32 0) ∧ w'.cell? ⟨bt, 5, none⟩ = some (.int .u32 0) ∧ w'.cell? ⟨bt, 6, none⟩ = some (.int .u32 0) ∧ w'.cell? ⟨bt, 7, none⟩ = some (.slice At 1 ct)) (first | exact (((‹AS8 w bc br bs bd bt _ _ _ _ _ _ ∧ _›).1).after (by assumption)).cells | exact (((‹AS8 w bc br bs bd bt _ _ _ _ _ _ ∧ _›).1).alloc _).cells | exact (HA2.out.drew).cells) (first
    | (go_at_call 17; have hh := (‹AS8 w bc br bs bd bt _ _ _ _ _ _ ∧ _›).1; refine (csame_is (r := true) _ _ [⟨0, 201, .slice Ac 4 cc, [0, 0, 0, 5]⟩] [⟨0, 201, _, [0, 0, 0, 5]⟩] _ (ck_obj (by first | exact heap3_1 _ _ _ _ | exact heap3_2 _ _ _ _ | exact heap3_3 _ _ _ _) (by decide) (by decide) hh.hc) (ck_obj (by first | exact heap3_1 _ _ _ _ | exact heap3_2 _ _ _ _ | exact heap3_3 _ _ _ _) (by decide) (by decide) (bs_obj (by first | exact heap3_1 _ _ _ _ | exact heap3_2 _ _ _ _ | exact heap3_3 _ _ _ _) (by decide))) rfl).mono ?_; rintro e w12 ⟨rfl, hb⟩; clear hh)
    | (go_at_call_of 9 Ar; have hh := (‹AS8 w bc br bs bd bt _ _ _ _ _ _ ∧ _›).1; refine (rpown_v false 5 0 0 0 0 0 [] _ _ hh.hr (by decide)).mono ?_; rintro e w12 ⟨vor, rfl, hor, hb⟩; have HOr := Lib.hid hor; clear hh hor)
    | (go_at_call_of 15 vor; have hh := (‹AS8 w bc br bs bd bt _ _ _ _ _ _ ∧ _›).1; refine (rpsame_v (r := true) false 5 0 0 0 0 0 [] _ _ false 5 0 0 0 0 0 [] _ HOr.out (BlS.nil _) ⟨fun _ => rfl, fun _ => rfl⟩).mono ?_; rintro e w12 ⟨rfl, hb⟩; clear hh)
    | (go_at_call_of 9 b4; have hh := (‹AS8 w bc br bs bd bt _ _ _ _ _ _ ∧ _›).1; refine (rpown_v true 1 2 0 0 0 0 [bB] _ _ hh.hs (by decide)).mono ?_; rintro e w12 ⟨vos, rfl, hos, hb⟩; have HOs := Lib.hid hos; (first | have HOt2 := Lib.hid (HOt.out.below hb) | skip); clear hh hos)
    | (go_at_call_of 9 At; have hh := (‹AS8 w bc br bs bd bt _ _ _ _ _ _ ∧ _›).1; refine (rpown_v true 1 2 0 0 0 0 [bB] _ _ hh.ht (by decide)).mono ?_; rintro e w12 ⟨vot, rfl, hot, hb⟩; have HOt := Lib.hid hot; (first | have HOs2 := Lib.hid (HOs.out.below hb) | skip); clear hh hot)
    | (go_at_call_of 15 vos; have hh := (‹AS8 w bc br bs bd bt _ _ _ _ _ _ ∧ _›).1; (first | refine (rpsame_v (r := true) true 1 2 0 0 0 0 [bB] _ _ true 1 2 0 0 0 0 [bB] _ HOs2.out HOt.out ⟨fun _ => rfl, fun _ => rfl⟩).mono ?_ | refine (rpsame_v (r := true) true 1 2 0 0 0 0 [bB] _ _ true 1 2 0 0 0 0 [bB] _ HOs.out HOt2.out ⟨fun _ => rfl, fun _ => rfl⟩).mono ?_); rintro e w12 ⟨rfl, hb⟩; clear hh)
    | (go_at_call 12; have hh := (‹AS8 w bc br bs bd bt _ _ _ _ _ _ ∧ _›).1; refine (HRt.out _ hh.hs).mono ?_; rintro e w12 ⟨rfl, hb⟩; clear hh))
  all_goals
    have hh := (‹AS8 w bc br bs bd bt _ _ _ _ _ _ ∧ _›).1
    go_wp2_with fail
    exact HQ.out _ _ ⟨rfl, hh.below⟩
end Go.Proofs.Ythgajlmhgbhmlaa
