/- Laid together: CmE, CmA, CmQ, BSame, BSameB, CmN, FOr. -/
import Derived.Test.YtphofpemblindaaG10
import Derived.Test.YtphofpemblindaaG09
import Derived.Test.YtphofpemblindaaG01
import Derived.Test.YtphofpemblindaaG08
/- The walk of Read. -/
namespace Go.Proofs.Ytphofpemblindaa
open Go.RowKit

/-- what Read answers -/
def RdiPost (w : World) (b : List UInt8) (e : Ending) (w' : World) : Prop :=
  ∃ (v : Value) (z : Int) (es : List DC) (its : List It), e = .returned (.tuple #[v, .int .i64 (firstE (z :: es.map errC))]) ∧ SpR b z es ∧ (∀ d ∈ es, d.1 < 256 ∧ d.2.1 < 256) ∧ ItS w' v its ∧
    dis its = (if firstE (z :: es.map errC) = 0 then es.map itemC else []) ∧ Below w.heap.size w w'
theorem spl_small {b : List UInt8} {z : Int} {es : List DC} (h : SpR b z es) (hz : z ≠ 0 → es = []) : es.length ≤ 200 ∧ ∀ d ∈ es, d.2.2.length ≤ 1000 := by
  by_cases h0 : z = 0
  · obtain ⟨h1, _, h3, h4, _⟩ := h.fine h0
    refine ⟨Nat.le_trans (encs_ge es) (by omega), fun d hd => ?_⟩
    have := (right_iffC.1 (List.all_eq_true.1 h1 d hd)).2.2
    omega
  · rw [hz h0]
    exact ⟨by decide, fun d hd => absurd hd (by simp)⟩
set_option maxRecDepth 20000 in
set_option maxHeartbeats 4000000 in
theorem cmread_any (v : Value) (b : List UInt8) (w : World) (hv : BS w v b) :
    Calls Try.prog 7 #[v] w (RdiPost w b) := by
  have HSpl := Lib.hid (csplit_x v b w hv)
  obtain ⟨A, c, rfl, _⟩ := bs_parts hv
  generalize hbn : b.length = bn at *
  clear hv hbn
  refine calls_q fun Q HQ => ?_
  unfold RdiPost at HQ
  go_enter Try.func7, Try.ntmps7
  go_wp2_with fail
  refine HSpl.out.mono ?_
  rintro e w1 ⟨u, z, cks, rfl, hck, hb, hsp, hz⟩
  obtain ⟨A1, c1, rfl, hc1, hc2, hA1⟩ := hck.parts
  obtain ⟨hs1, hs2⟩ := spl_small hsp (fun h => by rw [hz h]; rfl)
  rw [ds_len] at hs1
  have HSp := Lib.hid hsp
  have HCk := Lib.hid hck
  have HB1 := Lib.hid hb
  have HSm := Lib.hid hs2
  have HA1 := Lib.hid hA1
  have HS0 := Lib.hid (ReS.start w1 z)
  clear HSpl hck hb hsp hz hs2 hA1
  go_upto_region 3 with fail
  generalize w1.alloc (.cells #[.int .i64 z] 26) = w2 at *
  generalize Value.slice (some ⟨w1.heap.size, 0, none⟩) 1 1 = ev0 at *
  go_wp2_with fail
  go_loopw [6, 7, 22] (fun ev lv i wr => ∃ (j : Nat) (its : List It), j ≤ cks.length ∧ i = .int .i64 j ∧ ReS w1 lv ev its (z :: ((ds cks).take j).map errC) wr ∧ its.length = j ∧ dis its = ((ds cks).take j).map itemC) (fun _ _ i _ => cks.length - (intOf i).toNat)
  case atStart => exact ⟨0, [], Nat.zero_le _, rfl, HS0.out, rfl, rfl⟩
  case round =>
    obtain ⟨j, its, hj, rfl, hs, hjl, hds⟩ := hrel
    obtain ⟨A5, c5, rfl⟩ := own_slice hs.l
    obtain ⟨A6, c6, rfl⟩ := own_slice hs.e
    have hel : (z :: ((ds cks).take j).map errC).length = j + 1 := by simp [ds_len]; omega
    rw [hjl, hel] at hs ⊢
    have HS := Lib.hid hs
    have HD := Lib.hid hds
    have HJ := Lib.hid hjl
    have HE := Lib.hid hel
    clear hs hds hjl hel
    by_cases hlt : j < cks.length
    · obtain ⟨b1, o1, rfl, hbl⟩ := HA1.out (by omega)
      obtain ⟨k0, k1, k2⟩ := (HCk.out.below HS.out.below).at j hlt
      have hok := HCk.out.2 _ (List.getElem_mem hlt)
      have hbs := hok.b
      have hn := hok.n
      have hy := hok.y
      have hsm := HSm.out cks[j].d (List.mem_map.2 ⟨_, List.getElem_mem hlt, rfl⟩)
      have hst : (ds cks).take (j + 1) = (ds cks).take j ++ [cks[j].d] := by
        rw [List.take_succ_eq_append_getElem (by rw [ds_len]; exact hlt)]; simp [ds]
      have hd : cks[j].d = (cks[j].n, cks[j].y, cks[j].b) := rfl
      rw [hd] at hsm hst
      clear hd hok
      have hbl2 := Nat.lt_of_lt_of_le hbl HS.out.below.size
      have h0 : (0 : Int) ≤ (j : Int) := by omega
      have h1 : (j : Int) < (cks.length : Int) := by omega
      generalize (cks[j]'hlt).n = n at *
      generalize (cks[j]'hlt).y = y at *
      generalize (cks[j]'hlt).v = vv at *
      generalize (cks[j]'hlt).b = bb at *
      obtain ⟨A2, cc, rfl, _, _, _⟩ := bs_parts hbs
      have HG := Lib.hid (OB.of_bs hbs rfl)
      have HSt := Lib.hid hst
      have HN := Lib.hid (show n < 256 ∧ y < 256 from ⟨hn, hy⟩)
      have HSml := Lib.hid (show bb.length ≤ 1000 from hsm)
      have HBs := Lib.hid (hbs.below HS.out.below)
      clear hbs hn hy hsm hst
      have HS2 := Lib.hid (HS.out.after (below_alloc (oChk n y (.slice A2 bb.length cc))))
      have HBs2 := Lib.hid (HBs.out.below (below_alloc (oChk n y (.slice A2 bb.length cc))))
      have HX := Lib.hid (heap_alloc_new wr (oChk n y (.slice A2 bb.length cc)))
      clear HS HBs
      go_upto_region 7 with fail
      rw [show wr.alloc (.cells #[.int .u8 (n : Nat), .int .u8 (y : Nat), .slice A2 bb.length cc] 40) = wr.alloc (oChk n y (.slice A2 bb.length cc)) from rfl]
      generalize wr.alloc (oChk n y (.slice A2 bb.length cc)) = w3 at *
      generalize wr.heap.size = bc at *
      clear k0 k1 k2
      obtain ⟨k0, k1, k2, _, _, _⟩ := cells3m HX.out
      go_wp2_with fail
      refine (itemof_any w1.heap.size n y A2 cc bb w3 HBs2.out HN.out.1 HN.out.2 HSml.out HS2.out.below.size HG.out).mono ?_
      rintro e w4 ⟨t, rfl, htd, htok, htg, hb⟩
      rw [show t.row = [.int .i64 t.k, .bool t.r.sd, .int .u32 (t.r.so : Nat), .int .u32 (t.r.i0 : Nat), .int .u32 (t.r.i1 : Nat), .int .u32 (t.r.i2 : Nat), .int .u32 (t.r.i3 : Nat), .int .u32 (t.r.i4 : Nat), (.slice t.ra t.r.bl.length t.rc), .int .i64 t.m.k, .int .u32 (t.m.se : Nat), .int .u32 (t.m.me : Nat), (.slice t.aa t.m.ak.length t.ac), (.slice t.la t.m.lo.length t.lc), .int .u8 (t.c.1 : Nat), .int .u8 (t.c.2.1 : Nat), (.slice t.ca t.c.2.2.length t.cc)] from rfl]
      have hsz := HS2.out.below.size
      have HTg := Lib.hid (show ItG (fun k => some k ≠ (Value.slice A5 j c5).ownBlock ∧ some k ≠ (Value.slice A6 (j + 1) c6).ownBlock) t from htg.mono fun k hk => ⟨fun hx => by
          have := HS2.out.l.lt k hx.symm
          rcases hk with hk | hk <;> omega, fun hx => by
          have := HS2.out.e.lt k hx.symm
          rcases hk with hk | hk <;> omega⟩)
      have HTd := Lib.hid htd
      have hs3 := HS2.out.after hb
      have HS3 := Lib.hid (hs3.after (below_alloc (.cells #[.int .i64 t.k, .bool t.r.sd, .int .u32 (t.r.so : Nat), .int .u32 (t.r.i0 : Nat), .int .u32 (t.r.i1 : Nat), .int .u32 (t.r.i2 : Nat), .int .u32 (t.r.i3 : Nat), .int .u32 (t.r.i4 : Nat), (.slice t.ra t.r.bl.length t.rc), .int .i64 t.m.k, .int .u32 (t.m.se : Nat), .int .u32 (t.m.me : Nat), (.slice t.aa t.m.ak.length t.ac), (.slice t.la t.m.lo.length t.lc), .int .u8 (t.c.1 : Nat), .int .u8 (t.c.2.1 : Nat), (.slice t.ca t.c.2.2.length t.cc)] 42)))
      have HTo := Lib.hid (htok.below (below_alloc (.cells #[.int .i64 t.k, .bool t.r.sd, .int .u32 (t.r.so : Nat), .int .u32 (t.r.i0 : Nat), .int .u32 (t.r.i1 : Nat), .int .u32 (t.r.i2 : Nat), .int .u32 (t.r.i3 : Nat), .int .u32 (t.r.i4 : Nat), (.slice t.ra t.r.bl.length t.rc), .int .i64 t.m.k, .int .u32 (t.m.se : Nat), .int .u32 (t.m.me : Nat), (.slice t.aa t.m.ak.length t.ac), (.slice t.la t.m.lo.length t.lc), .int .u8 (t.c.1 : Nat), .int .u8 (t.c.2.1 : Nat), (.slice t.ca t.c.2.2.length t.cc)] 42)))
      have HR := Lib.hid (box_range (t := t) (heap_alloc_new w4 (.cells #[.int .i64 t.k, .bool t.r.sd, .int .u32 (t.r.so : Nat), .int .u32 (t.r.i0 : Nat), .int .u32 (t.r.i1 : Nat), .int .u32 (t.r.i2 : Nat), .int .u32 (t.r.i3 : Nat), .int .u32 (t.r.i4 : Nat), (.slice t.ra t.r.bl.length t.rc), .int .i64 t.m.k, .int .u32 (t.m.se : Nat), .int .u32 (t.m.me : Nat), (.slice t.aa t.m.ak.length t.ac), (.slice t.la t.m.lo.length t.lc), .int .u8 (t.c.1 : Nat), .int .u8 (t.c.2.1 : Nat), (.slice t.ca t.c.2.2.length t.cc)] 42)))
      clear htd htok htg hb hs3 hsz HS2 HBs2 HX k0 k1 k2 HG
      obtain ⟨ee, hee⟩ : ∃ ee, errC (n, y, bb) = ee := ⟨_, rfl⟩
      have HEe := Lib.hid hee
      rw [hee]
      clear hee
      go_wp2_with (first
        | (with_reducible refine wpl_new_item (t := t) ?_ ?_ ?_
           focus exact ⟨rfl, _, _, rfl, rfl, rfl⟩
           focus rfl
           generalize w4.alloc (.cells #[.int .i64 t.k, .bool t.r.sd, .int .u32 (t.r.so : Nat), .int .u32 (t.r.i0 : Nat), .int .u32 (t.r.i1 : Nat), .int .u32 (t.r.i2 : Nat), .int .u32 (t.r.i3 : Nat), .int .u32 (t.r.i4 : Nat), (.slice t.ra t.r.bl.length t.rc), .int .i64 t.m.k, .int .u32 (t.m.se : Nat), .int .u32 (t.m.me : Nat), (.slice t.aa t.m.ak.length t.ac), (.slice t.la t.m.lo.length t.lc), .int .u8 (t.c.1 : Nat), .int .u8 (t.c.2.1 : Nat), (.slice t.ca t.c.2.2.length t.cc)] 42) = w5 at *)
        | (with_reducible refine wpl_load_item ?_ HR.out ?_
           focus exact ⟨rfl, _, rfl, rfl⟩)
        | (at_builtin; refine wpl_appk rfl _ _ 22 rfl w1.heap.size 42 (.agg #[.int .i64 0, .bool false, .int .u32 0, .int .u32 0, .int .u32 0, .int .u32 0, .int .u32 0, .int .u32 0, .slice none 0 0, .int .i64 0, .int .u32 0, .int .u32 0, .slice none 0 0, .slice none 0 0, .int .u8 0, .int .u8 0, .slice none 0 0]) 17 160 Try.underlying22 (by kernel_rfl) rfl (by decide) _ j (cellsI its) rfl ?c1 _ 1 1 [.int .i64 t.k, .bool t.r.sd, .int .u32 (t.r.so : Nat), .int .u32 (t.r.i0 : Nat), .int .u32 (t.r.i1 : Nat), .int .u32 (t.r.i2 : Nat), .int .u32 (t.r.i3 : Nat), .int .u32 (t.r.i4 : Nat), (.slice t.ra t.r.bl.length t.rc), .int .i64 t.m.k, .int .u32 (t.m.se : Nat), .int .u32 (t.m.me : Nat), (.slice t.aa t.m.ak.length t.ac), (.slice t.la t.m.lo.length t.lc), .int .u8 (t.c.1 : Nat), .int .u8 (t.c.2.1 : Nat), (.slice t.ca t.c.2.2.length t.cc)] rfl rfl ?c2 ?c3 ?c4 ?c5 ?c6 ?c7))
      case c1 => exact (Fr.alloc _ _).own (by have := HS3.out.l; rw [HJ.out] at this; exact this) (fun _ _ h => h)
      case c2 => exact new_cells w5 [.int .i64 t.k, .bool t.r.sd, .int .u32 (t.r.so : Nat), .int .u32 (t.r.i0 : Nat), .int .u32 (t.r.i1 : Nat), .int .u32 (t.r.i2 : Nat), .int .u32 (t.r.i3 : Nat), .int .u32 (t.r.i4 : Nat), (.slice t.ra t.r.bl.length t.rc), .int .i64 t.m.k, .int .u32 (t.m.se : Nat), .int .u32 (t.m.me : Nat), (.slice t.aa t.m.ak.length t.ac), (.slice t.la t.m.lo.length t.lc), .int .u8 (t.c.1 : Nat), .int .u8 (t.c.2.1 : Nat), (.slice t.ca t.c.2.2.length t.cc)] 42
      case c3 => intro u hu; exact Array.all_eq_true_iff_forall_mem.1 (It.one t) u (by simpa [It.row] using hu)
      case c4 => unfold maxLen; omega
      case c5 => omega
      case c6 => rw [World.size_alloc]; have := HS3.out.below.size; omega
      case c7 =>
        intro u' w6 ho hg hk
        obtain ⟨A7, c7, rfl⟩ := own_slice ho
        have hs5 := (HS3.out.after (below_alloc (.cells #[.int .i64 t.k, .bool t.r.sd, .int .u32 (t.r.so : Nat), .int .u32 (t.r.i0 : Nat), .int .u32 (t.r.i1 : Nat), .int .u32 (t.r.i2 : Nat), .int .u32 (t.r.i3 : Nat), .int .u32 (t.r.i4 : Nat), (.slice t.ra t.r.bl.length t.rc), .int .i64 t.m.k, .int .u32 (t.m.se : Nat), .int .u32 (t.m.me : Nat), (.slice t.aa t.m.ak.length t.ac), (.slice t.la t.m.lo.length t.lc), .int .u8 (t.c.1 : Nat), .int .u8 (t.c.2.1 : Nat), (.slice t.ca t.c.2.2.length t.cc)] 42))).appI (HTo.out.below (below_alloc _)) HTg.out (by rw [HJ.out]; exact ho) hg (by rw [World.size_alloc]; exact hk)
        have HS5 := Lib.hid hs5
        clear ho hg hk hs5 HS3 HR HTo HTg
        have HOw := Lib.hid (show w6.ownsRow w1.heap.size 26 1 (.slice A6 (j + 1) c6) (j + 1) (ints .i64 (z :: List.map errC (List.take j (ds cks)))) by have := HS5.out.e; rw [HE.out] at this; exact this)
        have HSz := Lib.hid HS5.out.below.size
        go_wp2_with (at_builtin; refine wpl_app rfl _ _ 62 rfl w1.heap.size 26 (.int .i64 0) 8 Try.underlying62 (by kernel_rfl) rfl _ (j + 1) (ints .i64 (z :: List.map errC (List.take j (ds cks)))) rfl ?d1 _ 1 1 [.int .i64 ee] rfl ?d2 ?d3 ?d4 ?d5 ?d6 ?d7)
        case d1 => exact (Fr.alloc _ _).own HOw.out (fun _ _ h => h)
        case d2 => exact src_1 w6 (.int .i64 ee) 26
        case d3 => intro u hu; simp at hu; subst hu; rfl
        case d4 => unfold maxLen; omega
        case d5 => omega
        case d6 => rw [World.size_alloc]; have := HSz.out; omega
        case d7 =>
          intro u' w7 ho hg hk
          obtain ⟨A8, c8, rfl⟩ := own_slice ho
          have hs7 := (HS5.out.after (below_alloc (.cells #[.int .i64 ee] 26))).appE (ev' := .slice A8 (j + 1 + 1) c8) (z := ee) (by rw [HE.out]; rw [← List.map_take] at ho; exact ho) hg (by rw [World.size_alloc]; exact hk)
          have HS7 := Lib.hid (show ReS w1 (.slice A7 (j + 1) c7) (.slice A8 (j + 1 + 1) c8) (its ++ [t]) (z :: ((ds cks).take (j + 1)).map errC) w7 by
            rw [HSt.out, List.map_append, List.map_cons, HEe.out]; exact hs7)
          clear ho hg hk hs7 HS5 HOw
          have HD2 := Lib.hid (show dis (its ++ [t]) = ((ds cks).take (j + 1)).map itemC by
            rw [HSt.out, List.map_append, dis_app, HD.out, dis, List.map_cons (f := It.d), HTd.out]; rfl)
          go_wp2_with fail
          go_roundw
          case rel => exact ⟨j + 1, its ++ [t], by omega, by go_num, HS7.out, by rw [List.length_append, HJ.out]; rfl, HD2.out⟩
          case measure => simp [intOf]; omega
    · have : j = cks.length := by omega
      subst this
      rw [show (ds cks).take cks.length = ds cks from List.take_of_length_le (by rw [ds_len]; exact Nat.le_refl _)] at HS HD
      have HF := Lib.hid (first_any _ _ _ HS.out.errs)
      have HOk := Lib.hid (show ∀ d ∈ ds cks, d.1 < 256 ∧ d.2.1 < 256 from fun d hd => by
        obtain ⟨t, ht, rfl⟩ := List.mem_map.1 hd
        exact ⟨(HCk.out.2 t ht).n, (HCk.out.2 t ht).y⟩)
      have HIt := Lib.hid HS.out.items
      have HBl := Lib.hid HS.out.below
      clear HS HE
      go_wp2_with fail
      refine HF.out.mono ?_
      rintro e w3 ⟨rfl, hb⟩
      have HI3 := Lib.hid (HIt.out.below hb)
      have HB3 := Lib.hid (HB1.out.trans ((HBl.out.trans (hb.mono HBl.out.size)).mono HB1.out.size))
      clear hb HF
      obtain ⟨fe, hfe⟩ : ∃ fe, firstE (z :: List.map errC (ds cks)) = fe := ⟨_, rfl⟩
      have HFe := Lib.hid hfe
      rw [hfe]
      clear hfe
      by_cases h0 : fe = 0
      · subst h0
        go_wp2_with fail
        exact HQ.out _ _ ⟨_, z, ds cks, its, by rw [HFe.out]; rfl, HSp.out, HOk.out, HI3.out, by rw [HFe.out, if_pos rfl]; exact HD.out, HB3.out⟩
      · have hi : (fe != 0) = true := by simp [h0]
        have HN := Lib.hid h0
        clear h0
        go_wp2_with fail
        exact HQ.out _ _ ⟨.slice none 0 0, z, ds cks, [], by rw [HFe.out]; rfl, HSp.out, HOk.out, ItS.nil _, by rw [HFe.out, if_neg HN.out]; rfl, HB3.out⟩
end Go.Proofs.Ytphofpemblindaa
/- The walks of msgOf, Lost and Asked. -/
namespace Go.Proofs.Ytphofpemblindaa
open Go.RowKit

/-- an item's message -/
def msgI (x : DI) : DM := if x.k = 2 then x.m else DM.zero
theorem msgI_ok {x : DI} (h : x.Ok) : (msgI x).Ok := by
  unfold msgI; split
  · exact h.m
  · exact dmZero_ok
theorem askedI_eq (x : DI) : askedI x = if (msgI x).k = 1 then [(msgI x).me] else if (msgI x).k = 2 then (msgI x).ak.map Prod.fst else [] := by
  unfold askedI msgI
  by_cases h : x.k = 2
  · rw [if_pos h, if_pos h]
  · rw [if_neg h, if_neg h]; rfl
theorem lostI_eq (md : Nat) (x : DI) : lostI md x = if (msgI x).k = 3 ∧ (msgI x).me = md then (msgI x).lo.length else 0 := by
  unfold lostI msgI
  by_cases h : x.k = 2
  · rw [if_pos h]; simp [h]
  · rw [if_neg h, if_neg (fun hx => h hx.1)]; rfl
def MsgPost (G : Nat → Prop) (w : World) (m : DM) (e : Ending) (w' : World) : Prop :=
  ∃ A c A2 c2, e = .returned (.agg #[.int .i64 m.k, .int .u32 (m.se : Nat), .int .u32 (m.me : Nat), .slice A m.ak.length c, .slice A2 m.lo.length c2]) ∧ AsS w' (.slice A m.ak.length c) m.ak ∧ LoS w' (.slice A2 m.lo.length c2) m.lo ∧ OB G A m.ak.length ∧ Below w.heap.size w w'
set_option maxRecDepth 20000 in
set_option maxHeartbeats 2000000 in
theorem msgof_any (G : Nat → Prop) {t : It} {w : World} (h : t.Ok w) (hG : OB G t.aa t.m.ak.length) : Calls Try.prog 30 #[.agg #[.int .i64 t.k, .bool t.r.sd, .int .u32 (t.r.so : Nat), .int .u32 (t.r.i0 : Nat), .int .u32 (t.r.i1 : Nat), .int .u32 (t.r.i2 : Nat), .int .u32 (t.r.i3 : Nat), .int .u32 (t.r.i4 : Nat), (.slice t.ra t.r.bl.length t.rc), .int .i64 t.m.k, .int .u32 (t.m.se : Nat), .int .u32 (t.m.me : Nat), (.slice t.aa t.m.ak.length t.ac), (.slice t.la t.m.lo.length t.lc), .int .u8 (t.c.1 : Nat), .int .u8 (t.c.2.1 : Nat), (.slice t.ca t.c.2.2.length t.cc)]] w (MsgPost G w (msgI t.d)) := by
  have hb := BxI.new h
  have hb1 := hb.after (below_alloc (oMsg 0 0 0 (.slice none 0 0) (.slice none 0 0)))
  have HR := Lib.hid (show ((w.alloc (.cells #[.int .i64 t.k, .bool t.r.sd, .int .u32 (t.r.so : Nat), .int .u32 (t.r.i0 : Nat), .int .u32 (t.r.i1 : Nat), .int .u32 (t.r.i2 : Nat), .int .u32 (t.r.i3 : Nat), .int .u32 (t.r.i4 : Nat), (.slice t.ra t.r.bl.length t.rc), .int .i64 t.m.k, .int .u32 (t.m.se : Nat), .int .u32 (t.m.me : Nat), (.slice t.aa t.m.ak.length t.ac), (.slice t.la t.m.lo.length t.lc), .int .u8 (t.c.1 : Nat), .int .u8 (t.c.2.1 : Nat), (.slice t.ca t.c.2.2.length t.cc)] 42)).alloc (oMsg 0 0 0 (.slice none 0 0) (.slice none 0 0))).heap[w.heap.size + 1]? = some (oMsg 0 0 0 (.slice none 0 0) (.slice none 0 0)) by
    have := heap_alloc_new (w.alloc (.cells #[.int .i64 t.k, .bool t.r.sd, .int .u32 (t.r.so : Nat), .int .u32 (t.r.i0 : Nat), .int .u32 (t.r.i1 : Nat), .int .u32 (t.r.i2 : Nat), .int .u32 (t.r.i3 : Nat), .int .u32 (t.r.i4 : Nat), (.slice t.ra t.r.bl.length t.rc), .int .i64 t.m.k, .int .u32 (t.m.se : Nat), .int .u32 (t.m.me : Nat), (.slice t.aa t.m.ak.length t.ac), (.slice t.la t.m.lo.length t.lc), .int .u8 (t.c.1 : Nat), .int .u8 (t.c.2.1 : Nat), (.slice t.ca t.c.2.2.length t.cc)] 42)) (oMsg 0 0 0 (.slice none 0 0) (.slice none 0 0))
    rw [World.size_alloc] at this; exact this)
  have HS := Lib.hid (show BxI w w.heap.size t ((w.alloc (.cells #[.int .i64 t.k, .bool t.r.sd, .int .u32 (t.r.so : Nat), .int .u32 (t.r.i0 : Nat), .int .u32 (t.r.i1 : Nat), .int .u32 (t.r.i2 : Nat), .int .u32 (t.r.i3 : Nat), .int .u32 (t.r.i4 : Nat), (.slice t.ra t.r.bl.length t.rc), .int .i64 t.m.k, .int .u32 (t.m.se : Nat), .int .u32 (t.m.me : Nat), (.slice t.aa t.m.ak.length t.ac), (.slice t.la t.m.lo.length t.lc), .int .u8 (t.c.1 : Nat), .int .u8 (t.c.2.1 : Nat), (.slice t.ca t.c.2.2.length t.cc)] 42)).alloc (oMsg 0 0 0 (.slice none 0 0) (.slice none 0 0))) from hb1)
  have HA := Lib.hid h.a
  have HL := Lib.hid h.l
  have HG := Lib.hid hG
  clear h hb hb1 hG
  refine calls_q fun Q HQ => ?_
  unfold MsgPost at HQ
  go_enter Try.func30, Try.ntmps30
  go_upto_region 1 with fail
  rw [show (w.alloc (.cells #[.int .i64 t.k, .bool t.r.sd, .int .u32 (t.r.so : Nat), .int .u32 (t.r.i0 : Nat), .int .u32 (t.r.i1 : Nat), .int .u32 (t.r.i2 : Nat), .int .u32 (t.r.i3 : Nat), .int .u32 (t.r.i4 : Nat), (.slice t.ra t.r.bl.length t.rc), .int .i64 t.m.k, .int .u32 (t.m.se : Nat), .int .u32 (t.m.me : Nat), (.slice t.aa t.m.ak.length t.ac), (.slice t.la t.m.lo.length t.lc), .int .u8 (t.c.1 : Nat), .int .u8 (t.c.2.1 : Nat), (.slice t.ca t.c.2.2.length t.cc)] 42)).alloc (.cells #[.int .i64 0, .int .u32 0, .int .u32 0, .slice none 0 0, .slice none 0 0] 38) = (w.alloc (.cells #[.int .i64 t.k, .bool t.r.sd, .int .u32 (t.r.so : Nat), .int .u32 (t.r.i0 : Nat), .int .u32 (t.r.i1 : Nat), .int .u32 (t.r.i2 : Nat), .int .u32 (t.r.i3 : Nat), .int .u32 (t.r.i4 : Nat), (.slice t.ra t.r.bl.length t.rc), .int .i64 t.m.k, .int .u32 (t.m.se : Nat), .int .u32 (t.m.me : Nat), (.slice t.aa t.m.ak.length t.ac), (.slice t.la t.m.lo.length t.lc), .int .u8 (t.c.1 : Nat), .int .u8 (t.c.2.1 : Nat), (.slice t.ca t.c.2.2.length t.cc)] 42)).alloc (oMsg 0 0 0 (.slice none 0 0) (.slice none 0 0)) from rfl]
  generalize (w.alloc (.cells #[.int .i64 t.k, .bool t.r.sd, .int .u32 (t.r.so : Nat), .int .u32 (t.r.i0 : Nat), .int .u32 (t.r.i1 : Nat), .int .u32 (t.r.i2 : Nat), .int .u32 (t.r.i3 : Nat), .int .u32 (t.r.i4 : Nat), (.slice t.ra t.r.bl.length t.rc), .int .i64 t.m.k, .int .u32 (t.m.se : Nat), .int .u32 (t.m.me : Nat), (.slice t.aa t.m.ak.length t.ac), (.slice t.la t.m.lo.length t.lc), .int .u8 (t.c.1 : Nat), .int .u8 (t.c.2.1 : Nat), (.slice t.ca t.c.2.2.length t.cc)] 42)).alloc (oMsg 0 0 0 (.slice none 0 0) (.slice none 0 0)) = w1 at *
  generalize hrx : w.heap.size + 1 = rx at *
  generalize hbx : w.heap.size = bx at *
  obtain ⟨k0, k1, k2, k3, k4, k5, k6, k7, k8, k9, k10, k11, k12, k13, k14, k15, k16⟩ := HS.out.cells
  obtain ⟨m0, m1, m2, m3, m4⟩ := cells5m HR.out
  have z0 := obj_frozen HR.out 0
  have z1 := obj_frozen HR.out 1
  have z2 := obj_frozen HR.out 2
  have z3 := obj_frozen HR.out 3
  have z4 := obj_frozen HR.out 4
  by_cases hk : t.k = 2
  · have HM := Lib.hid (show msgI t.d = t.m by rw [msgI, if_pos (show t.d.k = 2 from hk)]; rfl)
    rw [HM.out] at HQ
    rw [hk] at k0
    clear hk
    go_wp2_with fail
    generalize hW : World.setCell _ _ _ = wf
    obtain ⟨hx, hfx⟩ := objs5m HR.out _ _ _ _ _ wf hW.symm
    clear hW k0 k1 k2 k3 k4 k5 k6 k7 k8 k9 k10 k11 k12 k13 k14 k15 k16 m0 m1 m2 m3 m4 z0 z1 z2 z3 z4
    obtain ⟨m0, m1, m2, m3, m4⟩ := cells5m hx
    refine bodyPost_ret (v := .agg #[.int .i64 t.m.k, .int .u32 (t.m.se : Nat), .int .u32 (t.m.me : Nat), .slice t.aa t.m.ak.length t.ac, .slice t.la t.m.lo.length t.lc]) (by simp [results, Try.results30, go_sem, m0, m1, m2, m3, m4]; try rfl) rfl ?_
    have hB := HS.out.below.trans (hfx.below HS.out.below.size (fun k (hk : k = rx) => by omega))
    refine HQ.out _ _ ⟨_, _, _, _, rfl, HA.out.below hB, HL.out.below hB, HG.out, ?_⟩
    rw [hbx] at hB; exact hB
  · have HM := Lib.hid (show msgI t.d = DM.zero by rw [msgI, if_neg (show ¬ t.d.k = 2 from hk)])
    rw [HM.out] at HQ
    have hi : (t.k != 2) = true := by simp [hk]
    clear hk
    go_wp2_with fail
    generalize hW : World.setCell _ _ _ = wf
    obtain ⟨hx, hfx⟩ := objs5m HR.out _ _ _ _ _ wf hW.symm
    clear hW k0 k1 k2 k3 k4 k5 k6 k7 k8 k9 k10 k11 k12 k13 k14 k15 k16 m0 m1 m2 m3 m4 z0 z1 z2 z3 z4
    obtain ⟨m0, m1, m2, m3, m4⟩ := cells5m hx
    refine bodyPost_ret (v := .agg #[.int .i64 0, .int .u32 0, .int .u32 0, .slice none 0 0, .slice none 0 0]) (by simp [results, Try.results30, go_sem, m0, m1, m2, m3, m4]; try rfl) rfl ?_
    have hB := HS.out.below.trans (hfx.below HS.out.below.size (fun k (hk : k = rx) => by omega))
    refine HQ.out _ _ ⟨none, 0, none, 0, rfl, AsS.nil _, LoS.nil _, OB.nil _ _, ?_⟩
    rw [hbx] at hB; exact hB
theorem disA (ts : List It) (j : Nat) (h : j < ts.length) : dis (ts.take (j + 1)) = dis (ts.take j) ++ [ts[j].d] := by
  rw [List.take_succ_eq_append_getElem h, dis, dis, List.map_append]; rfl
theorem lost_step (md : Nat) (ts : List It) (j : Nat) (h : j < ts.length) : lostL md (dis (ts.take (j + 1))) = lostL md (dis (ts.take j)) + lostI md ts[j].d := by
  rw [disA ts j h, lostL_app]; simp [lostL]
theorem lost_le (md : Nat) (ts : List It) (hm : ∀ t ∈ ts, t.m.lo.length ≤ 1000) : ∀ j, lostL md (dis (ts.take j)) ≤ 1000 * j := by
  intro j
  induction j with
  | zero => simp [lostL, dis]
  | succ j ih =>
    by_cases h : j < ts.length
    · have hx := hm _ (List.getElem_mem h)
      have : lostI md ts[j].d ≤ 1000 := by
        unfold lostI; split
        · exact hx
        · omega
      rw [lost_step md ts j h]; omega
    · rw [List.take_of_length_le (by omega)]
      rw [List.take_of_length_le (by omega)] at ih
      omega
set_option maxRecDepth 20000 in
set_option maxHeartbeats 2000000 in
theorem lost_any (v : Value) (ts : List It) (md : Nat) (w : World) (h : ItS w v ts) (hm : ts.length ≤ 1000) (hm2 : ∀ t ∈ ts, t.m.lo.length ≤ 1000) :
    Calls Try.prog 15 #[v, .int .u32 (md : Nat)] w fun e w' => e = .returned (.int .i64 (lostL md (dis ts) : Nat)) ∧ Below w.heap.size w w' := by
  have HT := Lib.hid h
  have HM := Lib.hid (lost_le md ts hm2)
  have HM2 := Lib.hid hm2
  obtain ⟨A, c, rfl, hc, hcm, hA⟩ := h.parts
  have HA := Lib.hid hA
  clear h hA hm2
  refine calls_q fun Q HQ => ?_
  go_enter Try.func15, Try.ntmps15
  go_wp2_with fail
  go_loopw [5, 11] (fun s i wr => ∃ j : Nat, j ≤ ts.length ∧ i = .int .i64 j ∧ s = .int .i64 (lostL md (dis (ts.take j)) : Nat) ∧ Below w.heap.size w wr) (fun _ i _ => ts.length - (intOf i).toNat)
  case atStart => exact ⟨0, Nat.zero_le _, rfl, rfl, Below.refl _ _⟩
  case round =>
    obtain ⟨j, hj, rfl, rfl, hb⟩ := hrel
    have HB := Lib.hid hb
    clear hb
    by_cases hlt : j < ts.length
    · obtain ⟨b, o, rfl, hbl⟩ := HA.out (by omega)
      have HRg := Lib.hid ((HT.out.below HB.out).range j hlt)
      have HOk := Lib.hid ((HT.out.2 _ (List.getElem_mem hlt)).below HB.out)
      have HSt := Lib.hid (lost_step md ts j hlt)
      have hle := HM.out j
      have hbl2 := Nat.lt_of_lt_of_le hbl HB.out.size
      have h0 : (0 : Int) ≤ (j : Int) := by omega
      have h1 : (j : Int) < (ts.length : Int) := by omega
      have HLe := Lib.hid (show (msgI ts[j].d).lo.length ≤ 1000 by unfold msgI; split; exact HM2.out _ (List.getElem_mem hlt); decide)
      generalize (ts[j]'hlt) = t at *
      generalize lostL md (dis (List.take j ts)) = L at *
      have HLL := Lib.hid (show L ≤ 1000000 by omega)
      rw [lostI_eq] at HSt
      clear hle
      have HB2 := Lib.hid (HB.out.alloc HB.out.size (.cells #[.int .i64 t.k, .bool t.r.sd, .int .u32 (t.r.so : Nat), .int .u32 (t.r.i0 : Nat), .int .u32 (t.r.i1 : Nat), .int .u32 (t.r.i2 : Nat), .int .u32 (t.r.i3 : Nat), .int .u32 (t.r.i4 : Nat), (.slice t.ra t.r.bl.length t.rc), .int .i64 t.m.k, .int .u32 (t.m.se : Nat), .int .u32 (t.m.me : Nat), (.slice t.aa t.m.ak.length t.ac), (.slice t.la t.m.lo.length t.lc), .int .u8 (t.c.1 : Nat), .int .u8 (t.c.2.1 : Nat), (.slice t.ca t.c.2.2.length t.cc)] 42))
      have HOk2 := Lib.hid (HOk.out.below (below_alloc (.cells #[.int .i64 t.k, .bool t.r.sd, .int .u32 (t.r.so : Nat), .int .u32 (t.r.i0 : Nat), .int .u32 (t.r.i1 : Nat), .int .u32 (t.r.i2 : Nat), .int .u32 (t.r.i3 : Nat), .int .u32 (t.r.i4 : Nat), (.slice t.ra t.r.bl.length t.rc), .int .i64 t.m.k, .int .u32 (t.m.se : Nat), .int .u32 (t.m.me : Nat), (.slice t.aa t.m.ak.length t.ac), (.slice t.la t.m.lo.length t.lc), .int .u8 (t.c.1 : Nat), .int .u8 (t.c.2.1 : Nat), (.slice t.ca t.c.2.2.length t.cc)] 42)))
      have HX := Lib.hid (box_range (t := t) (heap_alloc_new wr (.cells #[.int .i64 t.k, .bool t.r.sd, .int .u32 (t.r.so : Nat), .int .u32 (t.r.i0 : Nat), .int .u32 (t.r.i1 : Nat), .int .u32 (t.r.i2 : Nat), .int .u32 (t.r.i3 : Nat), .int .u32 (t.r.i4 : Nat), (.slice t.ra t.r.bl.length t.rc), .int .i64 t.m.k, .int .u32 (t.m.se : Nat), .int .u32 (t.m.me : Nat), (.slice t.aa t.m.ak.length t.ac), (.slice t.la t.m.lo.length t.lc), .int .u8 (t.c.1 : Nat), .int .u8 (t.c.2.1 : Nat), (.slice t.ca t.c.2.2.length t.cc)] 42)))
      go_wp2_with (first
        | (with_reducible refine wpl_load_item ?_ HRg.out ?_
           focus exact ⟨rfl, _, rfl, rfl⟩)
        | (with_reducible refine wpl_new_item (t := t) ?_ ?_ ?_
           focus exact ⟨rfl, _, _, rfl, rfl, rfl⟩
           focus rfl
           generalize wr.alloc (.cells #[.int .i64 t.k, .bool t.r.sd, .int .u32 (t.r.so : Nat), .int .u32 (t.r.i0 : Nat), .int .u32 (t.r.i1 : Nat), .int .u32 (t.r.i2 : Nat), .int .u32 (t.r.i3 : Nat), .int .u32 (t.r.i4 : Nat), (.slice t.ra t.r.bl.length t.rc), .int .i64 t.m.k, .int .u32 (t.m.se : Nat), .int .u32 (t.m.me : Nat), (.slice t.aa t.m.ak.length t.ac), (.slice t.la t.m.lo.length t.lc), .int .u8 (t.c.1 : Nat), .int .u8 (t.c.2.1 : Nat), (.slice t.ca t.c.2.2.length t.cc)] 42) = w1 at *)
        | (with_reducible refine wpl_load_item ?_ HX.out ?_
           focus exact ⟨rfl, _, rfl, rfl⟩))
      refine (msgof_any (fun _ => True) HOk2.out (fun _ _ _ => True.intro)).mono ?_
      rintro e w2 ⟨Aa, ca, Al, cl, rfl, ha, hl, _, hb⟩
      have HB3 := Lib.hid ((HB2.out.trans (hb.mono HB2.out.size)).alloc (HB2.out.trans (hb.mono HB2.out.size)).size (oMsg (msgI t.d).k (msgI t.d).se (msgI t.d).me (.slice Aa (msgI t.d).ak.length ca) (.slice Al (msgI t.d).lo.length cl)))
      have HX3 := Lib.hid (heap_alloc_new w2 (oMsg (msgI t.d).k (msgI t.d).se (msgI t.d).me (.slice Aa (msgI t.d).ak.length ca) (.slice Al (msgI t.d).lo.length cl)))
      clear ha hl hb HB HB2 HOk HOk2 HX HRg
      generalize msgI t.d = m at *
      go_upto_region 6 with fail
      rw [show w2.alloc (.cells #[.int .i64 m.k, .int .u32 (m.se : Nat), .int .u32 (m.me : Nat), .slice Aa m.ak.length ca, .slice Al m.lo.length cl] 38) = w2.alloc (oMsg m.k m.se m.me (.slice Aa m.ak.length ca) (.slice Al m.lo.length cl)) from rfl]
      generalize w2.alloc (oMsg m.k m.se m.me (.slice Aa m.ak.length ca) (.slice Al m.lo.length cl)) = w3 at *
      generalize w2.heap.size = bm at *
      obtain ⟨k0, k1, k2, k3, k4⟩ := cells5m HX3.out
      have hll := HLL.out
      have hle := HLe.out
      by_cases hk : m.k = 3
      · rw [hk] at k0
        by_cases hme : m.me = md
        · rw [if_pos ⟨hk, hme⟩] at HSt
          clear hk
          subst hme
          go_wp2_with fail
          go_roundw
          case rel => exact ⟨j + 1, by omega, by go_num, by have := HSt.out; go_num, HB3.out⟩
          case measure => simp [intOf]; omega
        · rw [if_neg (fun h => hme h.2)] at HSt
          have hi : (((m.me : Nat) : Int) == ((md : Nat) : Int)) = false := by simp; omega
          clear hk hme
          go_wp2_with fail
          go_roundw
          case rel => exact ⟨j + 1, by omega, by go_num, by rw [HSt.out]; rfl, HB3.out⟩
          case measure => simp [intOf]; omega
      · rw [if_neg (fun h => hk h.1)] at HSt
        have hi : (m.k == 3) = false := by simp [hk]
        clear hk
        go_wp2_with fail
        go_roundw
        case rel => exact ⟨j + 1, by omega, by go_num, by rw [HSt.out]; rfl, HB3.out⟩
        case measure => simp [intOf]; omega
    · have : j = ts.length := by omega
      subst this
      rw [List.take_length]
      go_wp2_with fail
      exact HQ.out _ _ ⟨rfl, HB.out⟩
end Go.Proofs.Ytphofpemblindaa
/- The walk of Asked. -/
namespace Go.Proofs.Ytphofpemblindaa
open Go.RowKit

def u32s (l : List Nat) : List Value := l.map fun n => .int .u32 (n : Nat)
theorem u32s_app (l m : List Nat) : u32s (l ++ m) = u32s l ++ u32s m := by simp [u32s]
theorem u32s_len (l : List Nat) : (u32s l).length = l.length := by simp [u32s]
theorem u32s_one (l : List Nat) : ∀ u ∈ u32s l, u.oneCell' = true := by
  intro u hu
  obtain ⟨n, _, rfl⟩ := List.mem_map.1 hu
  rfl
/-- numbers that are told one behind the other -/
structure NuS (w0 : World) (sv : Value) (L : List Nat) (w : World) : Prop where
  own : w.ownsRow w0.heap.size 29 1 sv L.length (u32s L)
  below : Below w0.heap.size w0 w
theorem NuS.after {w0 w w' : World} {sv : Value} {L : List Nat} (h : NuS w0 sv L w) (hb : Below w.heap.size w w') : NuS w0 sv L w' :=
  ⟨(Fr.of hb).own h.own (fun _ _ h => h), h.below.trans (hb.mono h.below.size)⟩
theorem NuS.app {w0 w w' : World} {sv sv' : Value} {L : List Nat} {x : Nat} (h : NuS w0 sv L w) (ho : w'.ownsRow w0.heap.size 29 1 sv' (L.length + 1) (u32s L ++ [.int .u32 (x : Nat)])) (hg : w.grownBy w' sv.ownBlock) : NuS w0 sv' (L ++ [x]) w' := by
  refine ⟨?_, h.below.trans ((Fr.grown hg).below h.below.size (fun k hx => (h.own.lt k hx.symm).1))⟩
  rw [List.length_append, u32s_app]; exact ho
theorem asked_step (ts : List It) (j : Nat) (h : j < ts.length) : askedL (dis (ts.take (j + 1))) = askedL (dis (ts.take j)) ++ askedI ts[j].d := by
  rw [disA ts j h, askedL_app]; simp [askedL]
theorem asked_le (ts : List It) (hm : ∀ t ∈ ts, t.m.ak.length ≤ 1000) : ∀ j, (askedL (dis (ts.take j))).length ≤ 1000 * j := by
  intro j
  induction j with
  | zero => simp [askedL, dis]
  | succ j ih =>
    by_cases h : j < ts.length
    · have hx := hm _ (List.getElem_mem h)
      have : (askedI ts[j].d).length ≤ 1000 := by
        unfold askedI; split
        · split
          · simp
          · split
            · rw [List.length_map]; exact hx
            · simp
        · simp
      rw [asked_step ts j h, List.length_append]; omega
    · rw [List.take_of_length_le (by omega)]
      rw [List.take_of_length_le (by omega)] at ih
      omega
theorem fst_step (l : List (Nat × Nat)) (q : Nat) (h : q < l.length) : (l.take (q + 1)).map Prod.fst = (l.take q).map Prod.fst ++ [l[q].1] := by
  rw [List.take_succ_eq_append_getElem h, List.map_append]; rfl
set_option maxRecDepth 20000 in
set_option maxHeartbeats 4000000 in
theorem asked_any (v : Value) (ts : List It) (w : World) (h : ItS w v ts) (hm : ts.length ≤ 1000) (hm2 : ∀ t ∈ ts, t.m.ak.length ≤ 1000) :
    Calls Try.prog 14 #[v] w fun e w' => ∃ u, e = .returned u ∧ SV w' u (u32s (askedL (dis ts))) ∧ Below w.heap.size w w' := by
  have HT := Lib.hid h
  have HM := Lib.hid (asked_le ts hm2)
  have HM2 := Lib.hid hm2
  obtain ⟨A, c, rfl, hc, hcm, hA⟩ := h.parts
  have HA := Lib.hid hA
  clear h hA hm2
  refine calls_q fun Q HQ => ?_
  go_enter Try.func14, Try.ntmps14
  go_wp2_with fail
  go_loopw [3, 11] (fun s i wr => ∃ j : Nat, j ≤ ts.length ∧ i = .int .i64 j ∧ NuS w s (askedL (dis (ts.take j))) wr) (fun _ i _ => ts.length - (intOf i).toNat)
  case atStart => exact ⟨0, Nat.zero_le _, rfl, ⟨World.ownsRow_nil _ _ _ _, Below.refl _ _⟩⟩
  case round =>
    obtain ⟨j, hj, rfl, hs⟩ := hrel
    have hle := HM.out j
    by_cases hlt : j < ts.length
    · obtain ⟨b, o, rfl, hbl⟩ := HA.out (by omega)
      have HRg := Lib.hid ((HT.out.below hs.below).range j hlt)
      have HOk := Lib.hid ((HT.out.2 _ (List.getElem_mem hlt)).below hs.below)
      have HSt := Lib.hid (asked_step ts j hlt)
      have HGa := Lib.hid (HT.out.2 _ (List.getElem_mem hlt)).g.a
      have hbl2 := Nat.lt_of_lt_of_le hbl hs.below.size
      have h0 : (0 : Int) ≤ (j : Int) := by omega
      have h1 : (j : Int) < (ts.length : Int) := by omega
      have HLe := Lib.hid (show (msgI ts[j].d).ak.length ≤ 1000 by unfold msgI; split; exact HM2.out _ (List.getElem_mem hlt); decide)
      generalize (ts[j]'hlt) = t at *
      generalize askedL (dis (List.take j ts)) = L at *
      obtain ⟨A5, c5, rfl⟩ := own_slice hs.own
      have HLL := Lib.hid (show L.length ≤ 1000000 by omega)
      rw [askedI_eq] at HSt
      have HB2 := Lib.hid (hs.after (below_alloc (.cells #[.int .i64 t.k, .bool t.r.sd, .int .u32 (t.r.so : Nat), .int .u32 (t.r.i0 : Nat), .int .u32 (t.r.i1 : Nat), .int .u32 (t.r.i2 : Nat), .int .u32 (t.r.i3 : Nat), .int .u32 (t.r.i4 : Nat), (.slice t.ra t.r.bl.length t.rc), .int .i64 t.m.k, .int .u32 (t.m.se : Nat), .int .u32 (t.m.me : Nat), (.slice t.aa t.m.ak.length t.ac), (.slice t.la t.m.lo.length t.lc), .int .u8 (t.c.1 : Nat), .int .u8 (t.c.2.1 : Nat), (.slice t.ca t.c.2.2.length t.cc)] 42)))
      have HOk2 := Lib.hid (HOk.out.below (below_alloc (.cells #[.int .i64 t.k, .bool t.r.sd, .int .u32 (t.r.so : Nat), .int .u32 (t.r.i0 : Nat), .int .u32 (t.r.i1 : Nat), .int .u32 (t.r.i2 : Nat), .int .u32 (t.r.i3 : Nat), .int .u32 (t.r.i4 : Nat), (.slice t.ra t.r.bl.length t.rc), .int .i64 t.m.k, .int .u32 (t.m.se : Nat), .int .u32 (t.m.me : Nat), (.slice t.aa t.m.ak.length t.ac), (.slice t.la t.m.lo.length t.lc), .int .u8 (t.c.1 : Nat), .int .u8 (t.c.2.1 : Nat), (.slice t.ca t.c.2.2.length t.cc)] 42)))
      have HX := Lib.hid (box_range (t := t) (heap_alloc_new wr (.cells #[.int .i64 t.k, .bool t.r.sd, .int .u32 (t.r.so : Nat), .int .u32 (t.r.i0 : Nat), .int .u32 (t.r.i1 : Nat), .int .u32 (t.r.i2 : Nat), .int .u32 (t.r.i3 : Nat), .int .u32 (t.r.i4 : Nat), (.slice t.ra t.r.bl.length t.rc), .int .i64 t.m.k, .int .u32 (t.m.se : Nat), .int .u32 (t.m.me : Nat), (.slice t.aa t.m.ak.length t.ac), (.slice t.la t.m.lo.length t.lc), .int .u8 (t.c.1 : Nat), .int .u8 (t.c.2.1 : Nat), (.slice t.ca t.c.2.2.length t.cc)] 42)))
      clear hle hs
      go_wp2_with (first
        | (with_reducible refine wpl_load_item ?_ HRg.out ?_
           focus exact ⟨rfl, _, rfl, rfl⟩)
        | (with_reducible refine wpl_new_item (t := t) ?_ ?_ ?_
           focus exact ⟨rfl, _, _, rfl, rfl, rfl⟩
           focus rfl
           generalize wr.alloc (.cells #[.int .i64 t.k, .bool t.r.sd, .int .u32 (t.r.so : Nat), .int .u32 (t.r.i0 : Nat), .int .u32 (t.r.i1 : Nat), .int .u32 (t.r.i2 : Nat), .int .u32 (t.r.i3 : Nat), .int .u32 (t.r.i4 : Nat), (.slice t.ra t.r.bl.length t.rc), .int .i64 t.m.k, .int .u32 (t.m.se : Nat), .int .u32 (t.m.me : Nat), (.slice t.aa t.m.ak.length t.ac), (.slice t.la t.m.lo.length t.lc), .int .u8 (t.c.1 : Nat), .int .u8 (t.c.2.1 : Nat), (.slice t.ca t.c.2.2.length t.cc)] 42) = w1 at *)
        | (with_reducible refine wpl_load_item ?_ HX.out ?_
           focus exact ⟨rfl, _, rfl, rfl⟩))
      refine (msgof_any _ HOk2.out HGa.out).mono ?_
      rintro e w2 ⟨Aa, ca, Al, cl, rfl, ha, hl, hga, hb⟩
      have HGb := Lib.hid hga
      have HB3 := Lib.hid ((HB2.out.after hb).after (below_alloc (oMsg (msgI t.d).k (msgI t.d).se (msgI t.d).me (.slice Aa (msgI t.d).ak.length ca) (.slice Al (msgI t.d).lo.length cl))))
      have HX3 := Lib.hid (heap_alloc_new w2 (oMsg (msgI t.d).k (msgI t.d).se (msgI t.d).me (.slice Aa (msgI t.d).ak.length ca) (.slice Al (msgI t.d).lo.length cl)))
      have HA3 := Lib.hid (ha.below (below_alloc (oMsg (msgI t.d).k (msgI t.d).se (msgI t.d).me (.slice Aa (msgI t.d).ak.length ca) (.slice Al (msgI t.d).lo.length cl))))
      clear ha hl hb hga HGa HB2 HOk HOk2 HX HRg
      generalize msgI t.d = m at *
      go_upto_region 6 with fail
      rw [show w2.alloc (.cells #[.int .i64 m.k, .int .u32 (m.se : Nat), .int .u32 (m.me : Nat), .slice Aa m.ak.length ca, .slice Al m.lo.length cl] 38) = w2.alloc (oMsg m.k m.se m.me (.slice Aa m.ak.length ca) (.slice Al m.lo.length cl)) from rfl]
      generalize w2.alloc (oMsg m.k m.se m.me (.slice Aa m.ak.length ca) (.slice Al m.lo.length cl)) = w3 at *
      generalize w2.heap.size = bm at *
      obtain ⟨k0, k1, k2, k3, k4⟩ := cells5m HX3.out
      have hll := HLL.out
      by_cases hk : m.k = 1
      · rw [hk] at k0
        rw [if_pos hk] at HSt
        have HOw := Lib.hid HB3.out.own
        have HSz := Lib.hid HB3.out.below.size
        clear hk
        go_wp2_with (at_builtin; refine wpl_app rfl _ _ 52 rfl w.heap.size 29 (.int .u32 0) 4 Try.underlying52 (by kernel_rfl) rfl _ L.length (u32s L) rfl ?d1 _ 1 1 [.int .u32 (m.me : Nat)] rfl ?d2 ?d3 ?d4 ?d5 ?d6 ?d7)
        case d1 => exact (Fr.alloc _ _).own HOw.out (fun _ _ h => h)
        case d2 => exact src_1 w3 (.int .u32 (m.me : Nat)) 29
        case d3 => intro u hu; simp at hu; subst hu; rfl
        case d4 => unfold maxLen; omega
        case d5 => omega
        case d6 => rw [World.size_alloc]; have := HSz.out; omega
        case d7 =>
          intro u' w4 ho hg _
          obtain ⟨A8, c8, rfl⟩ := own_slice ho
          have hs7 := (HB3.out.after (below_alloc (.cells #[.int .u32 (m.me : Nat)] 29))).app ho hg
          rw [← HSt.out] at hs7
          have HS7 := Lib.hid hs7
          clear ho hg hs7 HB3 HOw
          go_wp2_with fail
          go_roundw
          case rel => exact ⟨j + 1, by omega, by go_num, HS7.out⟩
          case measure => simp [intOf]; omega
      · have hi : (m.k == 1) = false := by simp [hk]
        rw [if_neg hk] at HSt
        by_cases hk2 : m.k = 2
        · rw [hk2] at k0
          rw [if_pos hk2] at HSt
          clear hk hk2 hi
          obtain ⟨_, _, hAe, hac1, hac2, _⟩ := HA3.out.parts
          simp only [Value.slice.injEq, true_and] at hAe
          obtain ⟨rfl, rfl⟩ := hAe
          have hml := HLe.out
          go_wp2_with fail
          go_loopw [3, 31] (fun s i wq => ∃ q : Nat, q ≤ m.ak.length ∧ i = .int .i64 q ∧ NuS w s (L ++ (m.ak.take q).map Prod.fst) wq ∧ AsS wq (.slice Aa m.ak.length ca) m.ak) (fun _ i _ => m.ak.length - (intOf i).toNat)
          case atStart => exact ⟨0, Nat.zero_le _, rfl, by simpa using HB3.out, HA3.out⟩
          case round =>
            obtain ⟨q, hq, rfl, hs, ha⟩ := hrel
            obtain ⟨A6, c6, rfl⟩ := own_slice hs.own
            by_cases hlq : q < m.ak.length
            · obtain ⟨_, _, hAe, _, _, hap⟩ := ha.parts
              simp only [Value.slice.injEq, true_and] at hAe
              obtain ⟨rfl, rfl⟩ := hAe
              obtain ⟨ba, oa, rfl, hba, hca⟩ := hap (by omega)
              obtain ⟨a0, a1⟩ := hca q hlq
              have HSq := Lib.hid (fst_step m.ak q hlq)
              have hq0 : (0 : Int) ≤ (q : Int) := by omega
              have hq1 : (q : Int) < (m.ak.length : Int) := by omega
              have hlen : (L ++ (m.ak.take q).map Prod.fst).length = L.length + q := by simp; omega
              generalize hax : (m.ak[q]'hlq).1 = ax at *
              generalize (m.ak[q]'hlq).2 = ay at *
              rw [hlen] at hs ⊢
              have HLn := Lib.hid hlen
              have HQs := Lib.hid hs
              have HQa := Lib.hid ha
              clear hs ha hlen hca hap hax
              have HS4 := Lib.hid (HQs.out.after (below_alloc (.cells #[.int .u32 (ax : Nat), .int .u8 (ay : Nat)] 57)))
              have HA4 := Lib.hid (HQa.out.below (below_alloc (.cells #[.int .u32 (ax : Nat), .int .u8 (ay : Nat)] 57)))
              have HX4 := Lib.hid (heap_alloc_new wr (.cells #[.int .u32 (ax : Nat), .int .u8 (ay : Nat)] 57))
              go_upto_region 13 with fail
              generalize wr.alloc (.cells #[.int .u32 (ax : Nat), .int .u8 (ay : Nat)] 57) = w5 at *
              generalize wr.heap.size = bq at *
              have m0 := obj_cell HX4.out 0
              simp only [List.getElem?_toArray, List.getElem?_cons_zero] at m0
              have HOw := Lib.hid (show w5.ownsRow w.heap.size 29 1 (.slice A6 (L.length + q) c6) (L.length + q) (u32s (L ++ (m.ak.take q).map Prod.fst)) by have := HS4.out.own; rw [HLn.out] at this; exact this)
              have HSz := Lib.hid HS4.out.below.size
              go_wp2_with (at_builtin; refine wpl_app rfl _ _ 52 rfl w.heap.size 29 (.int .u32 0) 4 Try.underlying52 (by kernel_rfl) rfl _ (L.length + q) (u32s (L ++ (m.ak.take q).map Prod.fst)) rfl ?e1 _ 1 1 [.int .u32 (ax : Nat)] rfl ?e2 ?e3 ?e4 ?e5 ?e6 ?e7)
              case e1 => exact (Fr.alloc _ _).own HOw.out (fun _ _ h => h)
              case e2 => exact src_1 w5 (.int .u32 (ax : Nat)) 29
              case e3 => intro u hu; simp at hu; subst hu; rfl
              case e4 => unfold maxLen; omega
              case e5 => omega
              case e6 => rw [World.size_alloc]; have := HSz.out; omega
              case e7 =>
                intro u' w6 ho hg _
                obtain ⟨A8, c8, rfl⟩ := own_slice ho
                have hs6 := (HS4.out.after (below_alloc (.cells #[.int .u32 (ax : Nat)] 29))).app (sv' := .slice A8 (L.length + q + 1) c8) (x := ax) (by rw [HLn.out]; rw [← List.map_take] at ho; exact ho) hg
                rw [List.append_assoc, ← HSq.out] at hs6
                have ha6 := RowsV.frG (G := fun k => k < w.heap.size) (Fr.grown hg) (fun k _ hk hx => by have := (HOw.out.lt k hx.symm).1; omega) (HA4.out.below (below_alloc (.cells #[.int .u32 (ax : Nat)] 29))) (by simpa using HGb.out)
                have HS6 := Lib.hid hs6
                have HA6 := Lib.hid (show AsS w6 _ m.ak from ha6)
                clear ho hg hs6 ha6
                go_wp2_with fail
                go_roundw
                case rel => exact ⟨q + 1, by omega, by go_num, HS6.out, HA6.out⟩
                case measure => simp [intOf]; omega
            · have : q = m.ak.length := by omega
              subst this
              rw [List.take_length, ← HSt.out] at hs ⊢
              have HS7 := Lib.hid hs
              clear hs ha
              go_wp2_with fail
              go_roundw
              case rel => exact ⟨j + 1, by omega, by go_num, HS7.out⟩
              case measure => simp [intOf]; omega
        · have hi2 : (m.k == 2) = false := by simp [hk2]
          rw [if_neg hk2, List.append_nil] at HSt
          clear hk hk2
          go_wp2_with fail
          go_roundw
          case rel => exact ⟨j + 1, by omega, by go_num, by rw [HSt.out]; exact HB3.out⟩
          case measure => simp [intOf]; omega
    · have : j = ts.length := by omega
      subst this
      rw [List.take_length] at hs
      obtain ⟨A5, c5, rfl⟩ := own_slice hs.own
      have HU := Lib.hid (own_sv hs.own)
      have HB := Lib.hid hs.below
      clear hs hle
      generalize (askedL (dis ts)).length = n at *
      go_wp2_with fail
      exact HQ.out _ _ ⟨_, rfl, HU.out, HB.out⟩
end Go.Proofs.Ytphofpemblindaa
/- Two lists of bytes held against each other: the walk of the document's Same. -/
namespace Go.Proofs.Ytphofpemblindaa
open Go.RowKit
/-! ### two lists of bytes held against each other -/
theorem byte_ne {x y : UInt8} (h : x ≠ y) : (((x.toNat : Nat) : Int) != ((y.toNat : Nat) : Int)) = true := by
  have : x.toNat ≠ y.toNat := fun e => h (UInt8.toNat_inj.1 e)
  simp; omega
theorem byte_eq {x y : UInt8} (h : x = y) : (((x.toNat : Nat) : Int) != ((y.toNat : Nat) : Int)) = false := by
  rw [h]; simp
theorem take_eq_step {l m : List UInt8} {j : Nat} (h1 : j < l.length) (h2 : j < m.length) (h : l.take j = m.take j) (he : l[j] = m[j]) : l.take (j + 1) = m.take (j + 1) := by
  rw [take_snoc8 l j h1, take_snoc8 m j h2, h, he]
set_option maxHeartbeats 400000 in
theorem rsame_any (v u : Value) (l m : List UInt8) (w : World) (hv : BS w v l) (hu : BS w u m) :
    Calls Try.prog 12 #[v, u] w fun e w' => e = .returned (.bool (l == m)) ∧ ∃ n, w' = w.drewN n := by
  have hlen := hv.len
  have hlen2 := hu.len
  obtain ⟨A, c, rfl, hc, hm, hr⟩ := hv
  obtain ⟨A2, c2, rfl, hc2, hm2, hr2⟩ := hu
  have HR := Lib.hid hr
  have HR2 := Lib.hid hr2
  clear hr hm hc hr2 hm2 hc2
  refine calls_q fun Q HQ => ?_
  by_cases hl : l.length = m.length
  · have hne : ((l.length : Int) != (m.length : Int)) = false := by rw [hl]; simp
    have HL := Lib.hid hl
    clear hl
    go_enter Try.func12, Try.ntmps12
    go_wp2
    go_loopw [5] (fun i wr => ∃ j d : Nat, j ≤ l.length ∧ i = .int .i64 j ∧ l.take j = m.take j ∧ wr = w.drewN d) (fun i _ => l.length - (intOf i).toNat)
    case atStart => exact ⟨0, 0, Nat.zero_le _, rfl, by simp, rfl⟩
    case round =>
      obtain ⟨j, d, hj, rfl, ht, rfl⟩ := hrel
      have HT := Lib.hid ht
      clear ht
      by_cases hlt : j < l.length
      · have hlt2 : j < m.length := by have := HL.out; omega
        obtain ⟨b, o, rfl, hb, hcell⟩ := HR.out (by omega)
        obtain ⟨b2, o2, rfl, hb2, hcell2⟩ := HR2.out (by omega)
        have hc1 := hcell j hlt
        have hc2 := hcell2 j hlt2
        clear hcell hcell2
        have hi0 : (0 : Int) ≤ (j : Int) := by omega
        have hi1 : (j : Int) < (l.length : Int) := by omega
        have hi2 : (j : Int) < (m.length : Int) := by omega
        by_cases he : l[j] = m[j]
        · have hx := byte_eq he
          have HE := Lib.hid he
          clear he
          go_wp2
          go_quiet (fail)
          go_wp2
          go_roundw
          case rel => exact ⟨j + 1, _, by omega, by go_num, take_eq_step hlt hlt2 HT.out HE.out, rfl⟩
          case measure => simp [intOf]; omega
        · have hx := byte_ne he
          have HE := Lib.hid he
          clear he
          go_wp2
          go_quiet (fail)
          go_wp2
          refine HQ.out _ _ ⟨ret_bool ?_, _, World.drewN_drewN _ _ _⟩
          symm
          simp only [beq_eq_false_iff_ne, ne_eq]
          rintro rfl
          exact HE.out rfl
      · have : j = l.length := by omega
        subst this
        go_wp2
        refine HQ.out _ _ ⟨ret_bool ?_, _, rfl⟩
        symm
        have h1 := HT.out
        have h2 := HL.out
        rw [List.take_of_length_le (Nat.le_refl _), List.take_of_length_le (by omega)] at h1
        simp [h1]
  · have hne : ((l.length : Int) != (m.length : Int)) = true := by simp; omega
    have HL := Lib.hid hl
    clear hl
    go_enter Try.func12, Try.ntmps12
    go_wp2
    refine HQ.out _ _ ⟨ret_bool ?_, 0, rfl⟩
    symm
    simp only [beq_eq_false_iff_ne, ne_eq]
    rintro rfl
    exact HL.out rfl

end Go.Proofs.Ytphofpemblindaa
/- The document's Same of bytes, its answer as a hypothesis. -/
namespace Go.Proofs.Ytphofpemblindaa
open Go.RowKit

theorem rsame_b (v u : Value) (l m : List UInt8) (w : World) (hv : BS w v l) (hu : BS w u m) :
    Calls Try.prog 12 #[v, u] w fun e w' => e = .returned (.bool (l == m)) ∧ Below w.heap.size w w' := by
  refine (rsame_any v u l m w hv hu).mono ?_
  rintro e w' ⟨rfl, n, rfl⟩
  exact ⟨rfl, below_drewN (Below.refl _ _) n⟩
theorem rsame_is {r : Bool} (v u : Value) (l m : List UInt8) (w : World) (hv : BS w v l) (hu : BS w u m) (h : (l == m) = r) :
    Calls Try.prog 12 #[v, u] w fun e w' => e = .returned (.bool r) ∧ Below w.heap.size w w' := by
  subst h; exact rsame_b v u l m w hv hu
theorem num_ne1 {x y : Nat} (h : x ≠ y) : (((x : Nat) : Int) != ((y : Nat) : Int)) = true := by simp; omega
theorem num_ne0 {x y : Nat} (h : x = y) : (((x : Nat) : Int) != ((y : Nat) : Int)) = false := by rw [h]; simp
end Go.Proofs.Ytphofpemblindaa
/- The walk of Nums. -/
namespace Go.Proofs.Ytphofpemblindaa
open Go.RowKit

theorem u32s_get (l : List Nat) (j : Nat) (h : j < l.length) (h2 : j < (u32s l).length) : (u32s l)[j] = .int .u32 (l[j] : Nat) := by simp [u32s]
theorem ntake_step {l m : List Nat} {j : Nat} (h1 : j < l.length) (h2 : j < m.length) (h : l.take j = m.take j) (he : l[j] = m[j]) : l.take (j + 1) = m.take (j + 1) := by
  rw [List.take_succ_eq_append_getElem h1, List.take_succ_eq_append_getElem h2, h, he]
theorem NuV.parts {w : World} {v : Value} {l : List Nat} (h : SV w v (u32s l)) : ∃ A c, v = .slice A l.length c ∧ l.length ≤ c ∧ c ≤ 9223372036854775807 ∧
    (0 < l.length → ∃ b o, A = some ⟨b, o, none⟩ ∧ b < w.heap.size ∧ ∀ j (h : j < l.length), w.cell? ⟨b, o + j, none⟩ = some (.int .u32 (l[j] : Nat))) := by
  obtain ⟨A, c, rfl, h1, h2, h3⟩ := h
  rw [u32s_len] at h1 ⊢
  refine ⟨A, c, rfl, h1, by unfold maxLen at h2; omega, fun hp => ?_⟩
  obtain ⟨b, o, rfl, hb, hc⟩ := h3 (by rw [u32s_len]; exact hp)
  refine ⟨b, o, rfl, hb, fun j hj => ?_⟩
  rw [hc j (by rw [u32s_len]; exact hj), u32s_get l j hj]
set_option maxHeartbeats 1000000 in
theorem nums_is {r : Bool} (v u : Value) (l m : List Nat) (w : World) (hv : SV w v (u32s l)) (hu : SV w u (u32s m)) (hr : r = true ↔ l = m) :
    Calls Try.prog 13 #[v, u] w fun e w' => e = .returned (.bool r) ∧ Below w.heap.size w w' := by
  obtain ⟨A, c, rfl, hc1, hc2, h3⟩ := NuV.parts hv
  obtain ⟨A2, c2, rfl, hc3, hc4, h4⟩ := NuV.parts hu
  have HR := Lib.hid h3
  have HR2 := Lib.hid h4
  have HRb := Lib.hid hr
  clear hv hu h3 h4 hr
  refine calls_q fun Q HQ => ?_
  by_cases hl : l.length = m.length
  · have hne : ((l.length : Int) != (m.length : Int)) = false := by rw [hl]; simp
    have HL := Lib.hid hl
    clear hl
    go_enter Try.func13, Try.ntmps13
    go_wp2_with fail
    go_loopw [5] (fun i wr => ∃ j d : Nat, j ≤ l.length ∧ i = .int .i64 j ∧ l.take j = m.take j ∧ wr = w.drewN d) (fun i _ => l.length - (intOf i).toNat)
    case atStart => exact ⟨0, 0, Nat.zero_le _, rfl, by simp, rfl⟩
    case round =>
      obtain ⟨j, d, hj, rfl, ht, rfl⟩ := hrel
      have HT := Lib.hid ht
      clear ht
      by_cases hlt : j < l.length
      · have hlt2 : j < m.length := by have := HL.out; omega
        obtain ⟨b, o, rfl, hb, hcell⟩ := HR.out (by omega)
        obtain ⟨b2, o2, rfl, hb2, hcell2⟩ := HR2.out (by omega)
        have hc1 := hcell j hlt
        have hc2 := hcell2 j hlt2
        clear hcell hcell2
        have hi0 : (0 : Int) ≤ (j : Int) := by omega
        have hi1 : (j : Int) < (l.length : Int) := by omega
        have hi2 : (j : Int) < (m.length : Int) := by omega
        by_cases he : l[j] = m[j]
        · have hx := num_ne0 he
          have HE := Lib.hid (ntake_step hlt hlt2 HT.out he)
          clear he
          generalize l[j] = x at *
          generalize m[j] = y at *
          go_wp2_with fail
          go_quiet (fail)
          go_wp2_with fail
          go_roundw
          case rel => exact ⟨j + 1, _, by omega, by go_num, HE.out, rfl⟩
          case measure => simp [intOf]; omega
        · have hx := num_ne1 he
          have HF := Lib.hid (show r = false by
            cases r
            · rfl
            · exact absurd (by have := HRb.out.1 rfl; subst this; rfl) he)
          clear he
          generalize l[j] = x at *
          generalize m[j] = y at *
          go_wp2_with fail
          go_quiet (fail)
          go_wp2_with fail
          exact HQ.out _ _ ⟨ret_bool HF.out.symm, by first | exact below_drewN (Below.refl _ _) _ | exact below_drewN (below_drewN (Below.refl _ _) _) _⟩
      · have : j = l.length := by omega
        subst this
        have HF := Lib.hid (show r = true from HRb.out.2 (by
          have h1 := HT.out
          have h2 := HL.out
          rwa [List.take_of_length_le (Nat.le_refl _), List.take_of_length_le (by omega)] at h1))
        go_wp2_with fail
        exact HQ.out _ _ ⟨ret_bool HF.out.symm, by first | exact below_drewN (Below.refl _ _) _ | exact Below.refl _ _⟩
  · have hne : ((l.length : Int) != (m.length : Int)) = true := by simp; omega
    have HF := Lib.hid (show r = false by
      cases r
      · rfl
      · exact absurd (by rw [HRb.out.1 rfl]) hl)
    clear hl
    go_enter Try.func13, Try.ntmps13
    go_wp2_with fail
    exact HQ.out _ _ ⟨ret_bool HF.out.symm, Below.refl _ _⟩
end Go.Proofs.Ytphofpemblindaa
/- A message of the document's, as an object. -/
namespace Go.Proofs.Ytphofpemblindaa
open Go.RowKit

abbrev oRef (k : Int) (se me : Nat) (va vl : Value) : Obj := .cells #[.int .i64 k, .int .u32 (se : Nat), .int .u32 (me : Nat), va, vl] 77 (0, 0)
theorem frz5m {w : World} {b : Nat} {cs : Array Value} {t : TypeId} (h : w.heap[b]? = some (.cells cs t (0, 0))) :
    w.frozen? ⟨b, 0, none⟩ = false ∧ w.frozen? ⟨b, 1, none⟩ = false ∧ w.frozen? ⟨b, 2, none⟩ = false ∧ w.frozen? ⟨b, 3, none⟩ = false ∧ w.frozen? ⟨b, 4, none⟩ = false :=
  ⟨obj_frozen h 0, obj_frozen h 1, obj_frozen h 2, obj_frozen h 3, obj_frozen h 4⟩
theorem rowA_one (a : Nat × Nat) : ∀ u ∈ rowA a, u.oneCell' = true := by
  intro u hu
  simp [rowA] at hu
  rcases hu with rfl | rfl <;> rfl
end Go.Proofs.Ytphofpemblindaa
