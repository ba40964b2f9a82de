/- The walk of the law ProbeLoose. -/
import Derived.Test.YthomlikmjgeccaaPbAw
import Derived.Test.YthomlikmjgeccaaPbFlip
import Derived.Deep.DeepCutAuto
namespace Go.Proofs.Ythomlikmjgeccaa
open Go.RowKit

/-- bytes in a row of their own, as an object -/
structure OwnB (w : World) (g cap : Nat) (l : List UInt8) : Prop where
  obj : ∃ cur, w.heap[g]? = some (.cells cur 5 (0, 0)) ∧ cur.size = cap ∧ ∀ i (h : i < l.length), cur[i]? = some (.int .u8 (l[i].toNat : Nat))
  le : l.length ≤ cap
  hi : cap ≤ maxLen
theorem OwnB.of {w : World} {base g cap : Nat} {n : Nat} {l : List UInt8} (h : w.ownsRow base 5 1 (.slice (some ⟨g, 0, none⟩) n cap) n (c8 l)) (hn : 0 < n) : OwnB w g cap l ∧ base ≤ g := by
  obtain ⟨hl, h⟩ := h
  rw [c8_len] at hl
  obtain rfl : n = l.length := by omega
  rcases h with ⟨h0, _⟩ | ⟨g1, cap1, cur, he, hg, hh, hnc, hm, hs, ht⟩
  · cases h0
  · simp only [Value.slice.injEq, Option.some.injEq, Addr.mk.injEq, true_and, and_true] at he
    obtain ⟨rfl, rfl⟩ := he
    refine ⟨⟨⟨cur, hh, by omega, fun i hi => ?_⟩, hnc, hm⟩, hg⟩
    have h1 : (c8 l)[i]? = some (.int .u8 (l[i].toNat : Nat)) := by simp [c8, List.getElem?_map, List.getElem?_eq_getElem hi]
    rw [← ht, Nat.mul_one, List.getElem?_take, if_pos hi] at h1
    simpa using h1
theorem OwnB.cell {w : World} {g cap : Nat} {l : List UInt8} (h : OwnB w g cap l) (i : Nat) (hi : i < l.length) : w.cell? ⟨g, i, none⟩ = some (.int .u8 (l[i].toNat : Nat)) := by
  obtain ⟨⟨cur, hh, hs, hc⟩, _, _⟩ := h
  rw [obj_cell hh i]; exact hc i hi
theorem OwnB.frozen {w : World} {g cap : Nat} {l : List UInt8} (h : OwnB w g cap l) (i : Nat) : w.frozen? ⟨g, i, none⟩ = false := by
  obtain ⟨⟨cur, hh, _, _⟩, _, _⟩ := h
  exact obj_frozen hh i
theorem OwnB.bs {w : World} {g cap : Nat} {l : List UInt8} (h : OwnB w g cap l) : BS w (.slice (some ⟨g, 0, none⟩) l.length cap) l := by
  refine ⟨_, _, rfl, h.le, h.hi, fun hp => ⟨g, 0, rfl, ?_, fun j hj => ?_⟩⟩
  · obtain ⟨cur, hh, _, _⟩ := h.obj
    exact obj_lt hh
  · rw [Nat.zero_add]; exact h.cell j hj
theorem OwnB.set {w : World} {g cap : Nat} {l : List UInt8} (h : OwnB w g cap l) (i x : Nat) (hx : x < 256) : OwnB (w.setCell ⟨g, i, none⟩ (.int .u8 (x : Nat))) g cap (l.set i (UInt8.ofNat x)) := by
  obtain ⟨⟨cur, hh, hs, hc⟩, h2, h3⟩ := h
  refine ⟨⟨_, obj_set hh i _, by simpa using hs, fun j hj => ?_⟩, by simpa using h2, h3⟩
  rw [List.length_set] at hj
  by_cases e : i = j
  · subst e
    rw [Array.getElem?_setIfInBounds_self, if_pos (by omega), List.getElem_set_self, u8_of hx]
  · rw [Array.getElem?_setIfInBounds_ne e, List.getElem_set_ne e]
    exact hc j hj
theorem OwnB.set_cell {w : World} {g cap : Nat} {l : List UInt8} (h : OwnB w g cap l) (i x : Nat) (hi : i < l.length) : (w.setCell ⟨g, i, none⟩ (.int .u8 (x : Nat))).cell? ⟨g, i, none⟩ = some (.int .u8 (x : Nat)) := by
  have hle := h.le
  obtain ⟨⟨cur, hh, hs, hc⟩, h2, h3⟩ := h
  rw [obj_cell (obj_set hh i _) i, Array.getElem?_setIfInBounds_self, if_pos (by omega)]
/-- bytes that came in, and their like in a row of its own -/
structure LS (w0 : World) (B : Nat) (v : Value) (l : List UInt8) (g cap : Nat) (m : List UInt8) (w : World) : Prop where
  u : BSx (fun k => k < B) w v l
  own : OwnB w g cap m
  hg : B ≤ g
  below : Below w0.heap.size w0 w
  lo : w0.heap.size ≤ B
theorem LS.after {w0 w w' : World} {B : Nat} {v : Value} {l : List UInt8} {g cap : Nat} {m : List UInt8} (h : LS w0 B v l g cap m w) (hb : Below w.heap.size w w') : LS w0 B v l g cap m w' := by
  obtain ⟨cur, h1, h2, h3⟩ := h.own.obj
  exact ⟨h.u.fr (Fr.of hb) (fun _ _ _ h => h), ⟨⟨cur, (Fr.of hb).heap h1 (fun h => h), h2, h3⟩, h.own.le, h.own.hi⟩, h.hg, h.below.trans (hb.mono h.below.size), h.lo⟩
theorem LS.set {w0 w : World} {B : Nat} {v : Value} {l : List UInt8} {g cap : Nat} {m : List UInt8} (h : LS w0 B v l g cap m w) (i x : Nat) (hx : x < 256) : LS w0 B v l g cap (m.set i (UInt8.ofNat x)) (w.setCell ⟨g, i, none⟩ (.int .u8 (x : Nat))) := by
  have hg := h.hg; have hlo := h.lo
  have hf := Fr.setCell w ⟨g, i, none⟩ (.int .u8 (x : Nat))
  exact ⟨h.u.fr hf (fun k _ hk (hx : k = g) => by omega), h.own.set i x hx, hg, h.below.trans (hf.below h.below.size (fun k (hk : k = g) => by omega)), hlo⟩
theorem OwnB.row {w : World} {base : Nat} {v : Value} {n : Nat} {l : List UInt8} (h : w.ownsRow base 5 1 v n (c8 l)) (hn : 0 < n) : ∃ g cap, v = .slice (some ⟨g, 0, none⟩) n cap ∧ OwnB w g cap l ∧ base ≤ g := by
  rcases h.2 with ⟨_, rfl⟩ | ⟨g, cap, cur, rfl, _⟩
  · omega
  · exact ⟨g, cap, rfl, OwnB.of h hn⟩
theorem loose_skip (v1 : Value) (l : List UInt8) (w : World) (hb : BS w v1 l) (hl : l.length = 0 ∨ 300 < l.length) :
    Calls Try.prog 4 #[v1] w fun e w' => e = .returned (.bool true) ∧ Below w.heap.size w w' := by
  obtain ⟨A, c, rfl, hc, hcm, hrow⟩ := bs_parts hb
  clear hb hrow
  refine calls_q fun Q HQ => ?_
  rcases hl with hl | hl
  · have hz : ((l.length : Int) == 0) = true := by simp [hl]
    go_enter Try.func4, Try.ntmps4
    go_wp2_with fail
    refine (awake6_any _).mono ?_
    rintro e w1 ⟨rfl, hb⟩
    have HB1 := Lib.hid hb
    clear hb
    go_wp2_with fail
    exact HQ.out _ _ ⟨rfl, HB1.out⟩
  · have hz : ((l.length : Int) == 0) = false := by simp only [beq_eq_false_iff_ne, ne_eq]; omega
    go_enter Try.func4, Try.ntmps4
    go_wp2_with fail
    refine (awake6_any _).mono ?_
    rintro e w1 ⟨rfl, hb⟩
    have HB1 := Lib.hid hb
    clear hb
    go_wp2_with fail
    exact HQ.out _ _ ⟨rfl, HB1.out⟩
set_option maxHeartbeats 2000000 in
theorem loose_few (v1 : Value) (l : List UInt8) (w : World) (hb : BS w v1 l) (h0 : 0 < l.length) (hl : l.length ≤ 300) :
    Calls Try.prog 4 #[v1] w fun e w' => e = .returned (.bool true) ∧ Below w.heap.size w w' := by
  obtain ⟨A, c, rfl, hc, hcm, hrow⟩ := bs_parts hb
  have HU := Lib.hid hb
  have HRow := Lib.hid hrow
  clear hb hrow
  refine calls_q fun Q HQ => ?_
  have hz : ((l.length : Int) == 0) = false := by simp only [beq_eq_false_iff_ne, ne_eq]; omega
  go_enter Try.func4, Try.ntmps4
  go_wp2_with fail
  refine (awake6_any _).mono ?_
  rintro e w1 ⟨rfl, hb⟩
  have HB1 := Lib.hid hb
  have HU1 := Lib.hid (HU.out.below hb)
  have HRl := Lib.hid (HRow.out.below (Nat.le_refl _) hb)
  clear hb HU HRow
  go_upto_region 5 with fail
  go_wp2_with (at_builtin; refine wpl_app rfl _ _ 24 rfl w1.heap.size 5 (.int .u8 0) 1 Try.underlying24 (by kernel_rfl) rfl _ 0 [] rfl (own_empty _ _ _ (Nat.le_refl _)) _ _ _ (c8 l) rfl ?c1 (c8_one _) ?c2 ?c3 ?c4 ?c5)
  case c1 => exact src_of rfl (HRl.out.below (Nat.le_refl _) (below_alloc _))
  case c2 => unfold maxLen; omega
  case c3 => omega
  case c4 => simp
  case c5 =>
    intro v6 w6 hown hg _
    have hb56 : Below w1.heap.size w1 w6 := ((Below.refl _ _).alloc (Nat.le_refl _) _).grown hg (by simp) (fun k hk => by simp [Value.ownBlock] at hk; omega)
    obtain ⟨g, cap, rfl, ho, hgb⟩ := OwnB.row hown (by omega)
    have hls : LS w w1.heap.size (.slice A l.length c) l g cap l w6 := ⟨HU1.out.x.fr (Fr.of hb56) (fun _ _ _ h => h), ho, hgb, HB1.out.trans (hb56.mono HB1.out.size), HB1.out.size⟩
    have HS := Lib.hid hls
    have hcap : l.length ≤ cap := ho.le
    clear hown hg hb56 ho hgb hls HU1 HRl HB1
    generalize w1.heap.size = B at *
    have k0 := HS.out.own.cell 0 h0
    have z0 := HS.out.own.frozen 0
    have hbit : (l.getD 0 0).toNat = l[0].toNat := by simp [h0]
    have hx0 := lt8 l[0]
    obtain ⟨x, hxx⟩ : ∃ x, l[0].toNat = x := ⟨_, rfl⟩
    rw [hxx] at k0 hbit hx0
    clear hxx
    have hx := fl1_all ⟨x, hx0⟩
    simp only at hx
    have hs1 := HS.out.set 0 (fl1 x) hx.1
    rw [show l.set 0 (UInt8.ofNat (fl1 x)) = flA l from by unfold flA; rw [hbit]] at hs1
    have hxor := hx.2.2.2.2.2.1
    have hdec := hx.2.2.2.2.2.2
    have hx1 := hx.1
    have hk1 := HS.out.own.set_cell 0 (fl1 x) h0
    have HS1 := Lib.hid hs1
    have HBit := Lib.hid hbit
    clear hx hs1 hbit
    generalize fl1 x = y at *
    have HD := Lib.hid hdec
    clear hdec
    go_upto_region 7 with fail
    clear k0 z0 hxor HS
    generalize w6.setCell ⟨g, 0, none⟩ (.int .u8 (y : Nat)) = w7 at *
    have k0 := hk1
    clear hk1
    go_cut [36] (fun s36 wx => s36 = .bool (decide (1 < l.length) && bitN x 7) ∧ wx = w7)
    case first =>
      by_cases h1 : 1 < l.length
      · go_wp2_with fail
        go_meet
        case rel => exact ⟨by rw [← HD.out]; simp [h1]; omega, rfl⟩
      · go_wp2_with fail
        go_meet
        case rel => exact ⟨by simp [h1], rfl⟩
    case rest =>
      obtain ⟨rfl, rfl⟩ := hcut
      go_upto_if 36 with fail
      clear k0 HD hx1
      go_cut [] (fun wx => LS w B (.slice A l.length c) l g cap (flL l) wx)
      case first =>
        cases hb : (decide (1 < l.length) && bitN x 7)
        · have hfl : flL l = flA l := by unfold flL; rw [HBit.out, hb]; simp
          go_wp2_with fail
          go_meet
          case rel => rw [hfl]; exact HS1.out
        · have hfl : flL l = flB (flA l) := by unfold flL; rw [HBit.out, hb]; simp
          have h1 : 1 < l.length := by simp at hb; exact hb.1
          have hla : (flA l).length = l.length := by unfold flA; simp
          clear hb HBit
          have k1 := HS1.out.own.cell 1 (by omega)
          have z1 := HS1.out.own.frozen 1
          have hg1 : ((flA l).getD 1 0).toNat = ((flA l)[1]'(by omega)).toNat := by simp [List.getD, List.getElem?_eq_getElem (show 1 < (flA l).length by omega)]
          have hx2 := lt8 ((flA l)[1]'(by omega))
          obtain ⟨x2, hxx⟩ : ∃ x, ((flA l)[1]'(by omega)).toNat = x := ⟨_, rfl⟩
          rw [hxx] at k1 hg1 hx2
          clear hxx
          have hf := fl2_all ⟨x2, hx2⟩
          simp only at hf
          have hs2 := HS1.out.set 1 (fl2 x2) hf.1
          rw [show (flA l).set 1 (UInt8.ofNat (fl2 x2)) = flL l from by rw [hfl]; unfold flB; rw [hg1]] at hs2
          have hxor := hf.2.2.2.2.2
          have HS2 := Lib.hid hs2
          clear hs2 hf hg1 hfl hla HS1
          generalize fl2 x2 = y2 at *
          go_wp2_with fail
          go_meet
          case rel => exact HS2.out
      case rest =>
        clear HBit HS1 hx0
        have HL := Lib.hid hcut
        clear hcut
        have hr := pread_any _ l wc HL.out.u.1
        unfold PbReadPost at hr
        have hfr := fl_res l h0
        have hfb := fl_beg l h0
        have hr2 := fun (w : World) (h : BS w (.slice (some ⟨g, 0, none⟩) l.length cap) (flL l)) => pread_any _ (flL l) w h
        unfold PbReadPost at hr2
        simp only [hfr.1, hfr.2.1, hfr.2.2] at hr2
        have hcl : ∀ w, LS w B (.slice A l.length c) l g cap (flL l) w → True := fun _ _ => trivial
        clear hfr hcl
        have HR := Lib.hid hr
        have HR2 := Lib.hid hr2
        have HF := Lib.hid hfb
        clear hr hr2 hfb
        generalize resD l = d at *
        generalize resN l = n at *
        generalize resE l = re at *
        obtain ⟨d0, d1, d2, d3, d4, d5, d6, d7, d8⟩ := d
        simp only [DD.val, DD.cs] at *
        go_wp2_with fail
        refine HR.out.mono ?_
        rintro e w8 ⟨rfl, hb⟩
        have hx1 := heap_alloc_new w8 (.cells #[.bool d0, .bool d1, .int .u8 (d2 : Nat), .int .i64 d3, .bool d4, .int .i64 d5, .int .i64 d6, .bool d7, .int .i64 d8] 23)
        have hl8 := (HL.out.after hb).after (below_alloc (.cells #[.bool d0, .bool d1, .int .u8 (d2 : Nat), .int .i64 d3, .bool d4, .int .i64 d5, .int .i64 d6, .bool d7, .int .i64 d8] 23))
        have HX1 := Lib.hid hx1
        clear HL hb hx1 HR
        have HL := Lib.hid hl8
        clear hl8
        go_wp2_with fail
        generalize w8.alloc (.cells #[.bool d0, .bool d1, .int .u8 (d2 : Nat), .int .i64 d3, .bool d4, .int .i64 d5, .int .i64 d6, .bool d7, .int .i64 d8] 23) = w9 at *
        generalize w8.heap.size = b1 at *
        have hbs := HL.out.own.bs
        rw [flL_len] at hbs
        refine (HR2.out _ hbs).mono ?_
        rintro e w10 ⟨rfl, hb⟩
        have hx1 := (Fr.of hb).heap HX1.out (fun h => h)
        have hx1 := (Fr.alloc w10 (.cells #[.bool d0, .bool d1, .int .u8 (d2 : Nat), .int .i64 d3, .bool d4, .int .i64 d5, .int .i64 d6, .bool d7, .int .i64 d8] 23)).heap hx1 (fun h => h)
        have hx2 := heap_alloc_new w10 (.cells #[.bool d0, .bool d1, .int .u8 (d2 : Nat), .int .i64 d3, .bool d4, .int .i64 d5, .int .i64 d6, .bool d7, .int .i64 d8] 23)
        have hl8 := (HL.out.after hb).after (below_alloc (.cells #[.bool d0, .bool d1, .int .u8 (d2 : Nat), .int .i64 d3, .bool d4, .int .i64 d5, .int .i64 d6, .bool d7, .int .i64 d8] 23))
        clear HL hb HX1 HR2 hbs
        have HL := Lib.hid hl8
        clear hl8
        go_upto_region 11 with fail
        generalize w10.alloc (.cells #[.bool d0, .bool d1, .int .u8 (d2 : Nat), .int .i64 d3, .bool d4, .int .i64 d5, .int .i64 d6, .bool d7, .int .i64 d8] 23) = w11 at *
        generalize w10.heap.size = b2 at *
        obtain ⟨k0, k1, k2, k3, k4, k5, k6, k7, k8⟩ := nine_cells hx1
        obtain ⟨m0, m1, m2, m3, m4, m5, m6, m7, m8⟩ := nine_cells hx2
        clear hx1 hx2
        go_wp2_with fail
        refine (beg_any _ l w11 HL.out.u.1).mono ?_
        rintro e w12 ⟨rfl, hb⟩
        have hl8 := HL.out.after hb
        clear HL hb k0 k1 k2 k3 k4 k5 k6 k7 k8 m0 m1 m2 m3 m4 m5 m6 m7 m8
        have HL := Lib.hid hl8
        clear hl8
        go_wp2_with fail
        have hbs := HL.out.own.bs
        rw [flL_len] at hbs
        have hc := beg_any _ (flL l) w12 hbs
        rw [HF.out] at hc
        refine hc.mono ?_
        rintro e w13 ⟨rfl, hb⟩
        have HB := Lib.hid (HL.out.below.trans (hb.mono HL.out.below.size))
        clear hc hbs hb HL
        go_wp2_with fail
        exact HQ.out _ _ ⟨rfl, HB.out⟩
theorem ploose_walk (v1 : Value) (l : List UInt8) (w : World) (hb : BS w v1 l) :
    Calls Try.prog 4 #[v1] w fun e w' => e = .returned (.bool true) ∧ Below w.heap.size w w' := by
  by_cases h : l.length = 0 ∨ 300 < l.length
  · exact loose_skip v1 l w hb h
  · exact loose_few v1 l w hb (by omega) (by omega)
end Go.Proofs.Ythomlikmjgeccaa
