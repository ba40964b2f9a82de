/- Laid together: CmO, CkSm, FSm, RpSm. -/
import Derived.Test.YtphofpemblindaaG09
import Derived.Test.YtphofpemblindaaG11
import Derived.Test.YtphofpemblindaaG01
import Derived.Deep.RegionHeld3
import Derived.Test.YtphofpemblindaaG06
/- The walk of own: items as the document's. -/
namespace Go.Proofs.Ytphofpemblindaa
open Go.RowKit

/-- an object whose row grows: what lay below is as it was -/
structure Gro (T : TypeId) (k : Nat) (wp : World) (o : Obj) (sv : Value) (n : Nat) (cs : List Value) (w : World) : Prop where
  p : w.heap[wp.heap.size]? = some o
  own : w.ownsRow (wp.heap.size + 1) T k sv n cs
  below : Below wp.heap.size wp w
section
variable {T : TypeId} {k : Nat} {wp : World} {o : Obj} {sv sv' : Value} {n n' : Nat} {cs cs' : List Value} {w w' : World}
theorem Gro.after (h : Gro T k wp o sv n cs w) (hb : Below w.heap.size w w') : Gro T k wp o sv n cs w' :=
  ⟨(Fr.of hb).heap h.p (fun h => h), (Fr.of hb).own h.own (fun _ _ h => h), h.below.trans (hb.mono h.below.size)⟩
theorem Gro.app (h : Gro T k wp o sv n cs w) (ho : w'.ownsRow (wp.heap.size + 1) T k sv' n' cs') (hg : w.grownBy w' sv.ownBlock) : Gro T k wp o sv' n' cs' w' := by
  have hf := Fr.grown hg
  have hlt : ∀ j, some j = sv.ownBlock → wp.heap.size + 1 ≤ j := fun j hj => (h.own.lt j hj.symm).1
  exact ⟨hf.heap h.p (fun hx => by have := hlt _ hx; omega), ho, h.below.trans (hf.below h.below.size (fun j hj => by have := hlt j hj; omega))⟩
theorem Gro.set {cells : Array Value} {t : TypeId} (h : Gro T k wp (.cells cells t (0, 0)) sv n cs w) (i : Nat) (u : Value) : Gro T k wp (.cells (cells.setIfInBounds i u) t (0, 0)) sv n cs (w.setCell ⟨wp.heap.size, i, none⟩ u) := by
  have hf : Fr (F1 wp.heap.size) w (w.setCell ⟨wp.heap.size, i, none⟩ u) := Fr.setCell w ⟨wp.heap.size, i, none⟩ u
  exact ⟨obj_set h.p i u, hf.own h.own (fun j hj (hx : j = wp.heap.size) => by have := (h.own.lt j hj).1; omega), h.below.trans (hf.below h.below.size (fun j (hj : j = wp.heap.size) => by omega))⟩
theorem Gro.new (wp : World) (T : TypeId) (k : Nat) (cells : Array Value) (t : TypeId) : Gro T k wp (.cells cells t (0, 0)) (.slice none 0 0) 0 [] (wp.alloc (.cells cells t (0, 0))) :=
  ⟨heap_alloc_new _ _, World.ownsRow_nil _ _ _ _, below_alloc _⟩
end
abbrev oRep (r : DR) (v : Value) : Obj := .cells #[.bool r.sd, .int .u32 (r.so : Nat), .int .u32 (r.i0 : Nat), .int .u32 (r.i1 : Nat), .int .u32 (r.i2 : Nat), .int .u32 (r.i3 : Nat), .int .u32 (r.i4 : Nat), v] 74 (0, 0)
/-- the document's items, one behind the other -/
structure OuS (w0 : World) (ov : Value) (os : List It) (w : World) : Prop where
  own : w.ownsRow w0.heap.size 80 17 ov os.length (cellsI os)
  dat : ∀ t ∈ os, t.Ok w ∧ ItG (fun k => some k ≠ ov.ownBlock) t
  below : Below w0.heap.size w0 w
theorem ItG.and2 {G G' : Nat → Prop} {t : It} (h : ItG G t) (h' : ItG G' t) : ItG (fun k => G k ∧ G' k) t :=
  ⟨fun hp a ha => ⟨h.r hp a ha, h'.r hp a ha⟩, fun hp a ha => ⟨h.a hp a ha, h'.a hp a ha⟩, fun hp a ha => ⟨h.l hp a ha, h'.l hp a ha⟩, fun hp a ha => ⟨h.c hp a ha, h'.c hp a ha⟩⟩
section
variable {w0 w w' : World} {ov ov' : Value} {os : List It}
theorem OuS.after (h : OuS w0 ov os w) (hb : Below w.heap.size w w') : OuS w0 ov os w' :=
  ⟨(Fr.of hb).own h.own (fun _ _ h => h), fun t ht => ⟨(h.dat t ht).1.below hb, (h.dat t ht).2⟩, h.below.trans (hb.mono h.below.size)⟩
theorem OuS.app {t : It} (h : OuS w0 ov os w) (ht : t.Ok w) (hG : ItG (fun k => some k ≠ ov.ownBlock) t) (ho : w'.ownsRow w0.heap.size 80 17 ov' (os.length + 1) (cellsI os ++ t.row)) (hg : w.grownBy w' ov.ownBlock)
    (hk : ov'.ownBlock = ov.ownBlock ∨ ov'.ownBlock = some w.heap.size) : OuS w0 ov' (os ++ [t]) w' := by
  have hf := Fr.grown hg
  have hstep : ∀ u : It, u.Ok w → ItG (fun k => some k ≠ ov.ownBlock) u → u.Ok w' ∧ ItG (fun k => some k ≠ ov'.ownBlock) u := fun u hu hg2 => by
    refine ⟨hu.frG hg2 hf (fun k _ h1 h2 => h1 h2), (hg2.and2 hu.g).mono fun k hx => ?_⟩
    rcases hk with hk | hk
    · rw [hk]; exact hx.1
    · rw [hk]; simp only [ne_eq, Option.some.injEq]; have := hx.2; omega
  refine ⟨?_, fun u hu => ?_, h.below.trans (hf.below h.below.size (fun k hx => (h.own.lt k hx.symm).1))⟩
  · rw [cellsI_snoc, List.length_append]; exact ho
  · rcases List.mem_append.1 hu with hu | hu
    · exact hstep u (h.dat u hu).1 (h.dat u hu).2
    · rw [List.mem_singleton.1 hu]; exact hstep t ht hG
theorem OuS.items (h : OuS w0 ov os w) : ItS w ov os := own_items rfl h.own fun t ht => (h.dat t ht).1
end
theorem disO (ts : List It) (j : Nat) (h : j < ts.length) : dis (ts.take (j + 1)) = dis (ts.take j) ++ [ts[j].d] := by
  rw [List.take_succ_eq_append_getElem h, dis, dis, List.map_append]; rfl
set_option maxRecDepth 40000 in
set_option maxHeartbeats 8000000 in
theorem cmown_any (v : Value) (ts : List It) (w : World) (h : ItS w v ts) (hm : ts.length ≤ 1000) (hm2 : ∀ t ∈ ts, t.r.bl.length ≤ 1000 ∧ t.m.ak.length ≤ 1000) :
    Calls Try.prog 11 #[v] w fun e w' => ∃ u os, e = .returned u ∧ ItS w' u os ∧ dis os = dis ts ∧ Below w.heap.size w w' := by
  have HT := Lib.hid h
  have HM := Lib.hid hm2
  obtain ⟨A, c, rfl, hc, hcm, hA⟩ := h.parts
  have HA := Lib.hid hA
  clear h hA hm2
  refine calls_q fun Q HQ => ?_
  have HS0 := Lib.hid (show OuS w (.slice (some ⟨w.heap.size, 0, none⟩) 0 0) [] (w.alloc (.cells #[] 80)) from
    ⟨own_newk w w.heap.size 80 17 (Nat.le_refl _), fun _ h => absurd h (by simp), below_alloc _⟩)
  go_enter Try.func11, Try.ntmps11
  go_upto_region 2 with fail
  generalize w.alloc (.cells #[] 80) = w2 at *
  generalize Value.slice (some ⟨w.heap.size, 0, none⟩) 0 0 = ov0 at *
  go_wp2_with fail
  go_loopw [3, 15] (fun ov i wr => ∃ (j : Nat) (os : List It), j ≤ ts.length ∧ i = .int .i64 j ∧ OuS w ov os wr ∧ os.length = j ∧ dis os = dis (ts.take j)) (fun _ i _ => ts.length - (intOf i).toNat)
  case atStart => exact ⟨0, [], Nat.zero_le _, rfl, HS0.out, rfl, rfl⟩
  case round =>
    obtain ⟨j, os, hj, rfl, hs, hjl, hds⟩ := hrel
    obtain ⟨A5, c5, rfl⟩ := own_slice hs.own
    rw [hjl] at hs ⊢
    have HS := Lib.hid hs
    have HD := Lib.hid hds
    have HJ := Lib.hid hjl
    clear hs hds hjl
    by_cases hlt : j < ts.length
    · obtain ⟨b, o, rfl, hbl⟩ := HA.out (by omega)
      have HRg := Lib.hid ((HT.out.below HS.out.below).range j hlt)
      have hok := HT.out.2 _ (List.getElem_mem hlt)
      have HG := Lib.hid hok.g
      have HOk := Lib.hid (hok.below HS.out.below)
      have HMt := Lib.hid (HM.out _ (List.getElem_mem hlt))
      have HDs := Lib.hid (disO ts j hlt)
      have hbl2 := Nat.lt_of_lt_of_le hbl HS.out.below.size
      have h0 : (0 : Int) ≤ (j : Int) := by omega
      have h1 : (j : Int) < (ts.length : Int) := by omega
      clear hok
      generalize (ts[j]'hlt) = t at *
      have HS2 := Lib.hid (HS.out.after (below_alloc (.cells #[.int .i64 t.k, .bool t.r.sd, .int .u32 (t.r.so : Nat), .int .u32 (t.r.i0 : Nat), .int .u32 (t.r.i1 : Nat), .int .u32 (t.r.i2 : Nat), .int .u32 (t.r.i3 : Nat), .int .u32 (t.r.i4 : Nat), (.slice t.ra t.r.bl.length t.rc), .int .i64 t.m.k, .int .u32 (t.m.se : Nat), .int .u32 (t.m.me : Nat), (.slice t.aa t.m.ak.length t.ac), (.slice t.la t.m.lo.length t.lc), .int .u8 (t.c.1 : Nat), .int .u8 (t.c.2.1 : Nat), (.slice t.ca t.c.2.2.length t.cc)] 42)))
      have HOk2 := Lib.hid (HOk.out.below (below_alloc (.cells #[.int .i64 t.k, .bool t.r.sd, .int .u32 (t.r.so : Nat), .int .u32 (t.r.i0 : Nat), .int .u32 (t.r.i1 : Nat), .int .u32 (t.r.i2 : Nat), .int .u32 (t.r.i3 : Nat), .int .u32 (t.r.i4 : Nat), (.slice t.ra t.r.bl.length t.rc), .int .i64 t.m.k, .int .u32 (t.m.se : Nat), .int .u32 (t.m.me : Nat), (.slice t.aa t.m.ak.length t.ac), (.slice t.la t.m.lo.length t.lc), .int .u8 (t.c.1 : Nat), .int .u8 (t.c.2.1 : Nat), (.slice t.ca t.c.2.2.length t.cc)] 42)))
      have HX := Lib.hid (heap_alloc_new wr (.cells #[.int .i64 t.k, .bool t.r.sd, .int .u32 (t.r.so : Nat), .int .u32 (t.r.i0 : Nat), .int .u32 (t.r.i1 : Nat), .int .u32 (t.r.i2 : Nat), .int .u32 (t.r.i3 : Nat), .int .u32 (t.r.i4 : Nat), (.slice t.ra t.r.bl.length t.rc), .int .i64 t.m.k, .int .u32 (t.m.se : Nat), .int .u32 (t.m.me : Nat), (.slice t.aa t.m.ak.length t.ac), (.slice t.la t.m.lo.length t.lc), .int .u8 (t.c.1 : Nat), .int .u8 (t.c.2.1 : Nat), (.slice t.ca t.c.2.2.length t.cc)] 42))
      have HWr := Lib.hid HS.out.below.size
      clear HS HOk
      go_upto_region 5 with (first
        | (with_reducible refine wpl_load_item ?_ HRg.out ?_
           focus exact ⟨rfl, _, rfl, rfl⟩)
        | (with_reducible refine wpl_new_item (t := t) ?_ ?_ ?_
           focus exact ⟨rfl, _, _, rfl, rfl, rfl⟩
           focus rfl
           generalize wr.alloc (.cells #[.int .i64 t.k, .bool t.r.sd, .int .u32 (t.r.so : Nat), .int .u32 (t.r.i0 : Nat), .int .u32 (t.r.i1 : Nat), .int .u32 (t.r.i2 : Nat), .int .u32 (t.r.i3 : Nat), .int .u32 (t.r.i4 : Nat), (.slice t.ra t.r.bl.length t.rc), .int .i64 t.m.k, .int .u32 (t.m.se : Nat), .int .u32 (t.m.me : Nat), (.slice t.aa t.m.ak.length t.ac), (.slice t.la t.m.lo.length t.lc), .int .u8 (t.c.1 : Nat), .int .u8 (t.c.2.1 : Nat), (.slice t.ca t.c.2.2.length t.cc)] 42) = w1 at *))
      have HBx := Lib.hid (show wr.heap.size < w1.heap.size from obj_lt HX.out)
      have HW0 := Lib.hid (show w.heap.size ≤ wr.heap.size from HWr.out)
      generalize wr.heap.size = bx at *
      obtain ⟨k0, k1, k2, k3, k4, k5, k6, k7, k8, k9, k10, k11, k12, k13, k14, k15, k16⟩ := cells17 HX.out
      go_upto_region 6 with fail
      rw [show w1.alloc (.cells #[.bool t.r.sd, .int .u32 (t.r.so : Nat), .int .u32 (t.r.i0 : Nat), .int .u32 (t.r.i1 : Nat), .int .u32 (t.r.i2 : Nat), .int .u32 (t.r.i3 : Nat), .int .u32 (t.r.i4 : Nat), .slice none 0 0] 74) = w1.alloc (oRep t.r (.slice none 0 0)) from rfl]
      have HGr := Lib.hid (Gro.new w1 87 7 #[.bool t.r.sd, .int .u32 (t.r.so : Nat), .int .u32 (t.r.i0 : Nat), .int .u32 (t.r.i1 : Nat), .int .u32 (t.r.i2 : Nat), .int .u32 (t.r.i3 : Nat), .int .u32 (t.r.i4 : Nat), .slice none 0 0] 74)
      have k8b := obj_cell ((Fr.alloc w1 (oRep t.r (.slice none 0 0))).heap HX.out (fun h => h)) 8
      simp only [List.getElem?_toArray, List.getElem?_cons_succ, List.getElem?_cons_zero] at k8b
      clear k0 k1 k2 k3 k4 k5 k6 k7 k8 k9 k10 k11 k12 k13 k14 k15 k16
      generalize w1.alloc (oRep t.r (.slice none 0 0)) = w4 at *
      generalize hb1 : w1.heap.size = br at *
      go_wp2_with fail
      clear k8b
      have hblm := HMt.out.1
      go_loopw [33] (fun i wq => ∃ (q : Nat) (sv : Value), q ≤ t.r.bl.length ∧ i = .int .i64 q ∧ Gro 87 7 w1 (oRep t.r sv) sv q (cellsB (t.r.bl.take q)) wq) (fun i _ => t.r.bl.length - (intOf i).toNat)
      case atStart => exact ⟨0, .slice none 0 0, Nat.zero_le _, rfl, HGr.out⟩
      case round =>
        obtain ⟨q, sv, hq, rfl, hs⟩ := hrel
        obtain ⟨A6, c6, rfl⟩ := own_slice hs.own
        have HSt := Lib.hid hs
        clear hs
        by_cases hlq : q < t.r.bl.length
        · have hbsl := HOk2.out.b.below HSt.out.below
          obtain ⟨_, _, hAe, _, _, hap⟩ := hbsl.parts
          simp only [Value.slice.injEq, true_and] at hAe
          obtain ⟨hA1, hA2⟩ := hAe
          obtain ⟨ba, oa, hra, hba⟩ := hap (by omega)
          rw [← hA1] at hra
          rw [hra] at hbsl ⊢
          obtain ⟨a0, a1, a2, a3, a4, a5, a6⟩ := hbsl.at q hlq
          have hq0 : (0 : Int) ≤ (q : Int) := by omega
          have hq1 : (q : Int) < (t.r.bl.length : Int) := by omega
          have HTk := Lib.hid (show cellsB (t.r.bl.take (q + 1)) = cellsB (t.r.bl.take q) ++ (t.r.bl[q]).row by rw [List.take_succ_eq_append_getElem hlq, cellsB_snoc])
          clear hap hbsl hA1 hA2
          generalize (t.r.bl[q]'hlq) = bj at *
          obtain ⟨s, p, m, h, jj, la, d⟩ := bj
          have HA0 := Lib.hid (HSt.out.after (below_alloc (.cells #[.int .u32 (s : Nat), .int .u8 (p : Nat), .int .i32 m, .int .u32 (h : Nat), .int .u32 (jj : Nat), .int .u32 (la : Nat), .int .u32 (d : Nat)] 86)))
          have HA1 := Lib.hid (HA0.out.after (below_alloc (.cells #[.int .u32 (s : Nat), .int .u8 (p : Nat), .int .i32 m, .int .u32 (h : Nat), .int .u32 (jj : Nat), .int .u32 (la : Nat), .int .u32 (d : Nat)] 87)))
          have k7 := obj_cell HA0.out.p 7
          simp only [List.getElem?_toArray, List.getElem?_cons_succ, List.getElem?_cons_zero, hb1] at k7
          have HOw := Lib.hid HA1.out.own
          rw [hb1] at HOw
          have HSz := Lib.hid (show br < wr.heap.size by rw [← hb1]; exact obj_lt HSt.out.p)
          clear HSt
          go_wp2_with (at_builtin; refine wpl_appk rfl _ _ 72 rfl (br + 1) 87 (.agg #[.int .u32 0, .int .u8 0, .int .i32 0, .int .u32 0, .int .u32 0, .int .u32 0, .int .u32 0]) 7 28 Try.underlying72 (by kernel_rfl) rfl (by decide) _ q _ rfl HOw.out _ 1 1 (DB.row ⟨s, p, m, h, jj, la, d⟩) rfl rfl ?c2 (rows_one _) ?c4 ?c5 ?c6 ?c7)
          case c2 => exact fun _ _ h => h
          case c4 => unfold maxLen; omega
          case c5 => omega
          case c6 => have := HSz.out; omega
          case c7 =>
            intro v' w5 ho hg _
            obtain ⟨A7, c7, rfl⟩ := own_slice ho
            rw [← hb1] at ho
            have HP7 := Lib.hid (HA1.out.app ho hg)
            have k7b := obj_cell HP7.out.p 7
            simp only [List.getElem?_toArray, List.getElem?_cons_succ, List.getElem?_cons_zero, hb1] at k7b
            have z7 := obj_frozen HP7.out.p 7
            rw [hb1] at z7
            clear ho hg
            have hn7 := HP7.out.set 7 (.slice A7 (q + 1) c7)
            rw [← HTk.out, hb1] at hn7
            have HN7 := Lib.hid (show Gro 87 7 w1 (oRep t.r (.slice A7 (q + 1) c7)) (.slice A7 (q + 1) c7) (q + 1) (cellsB (t.r.bl.take (q + 1))) _ from hn7)
            clear hn7
            go_wp2_with fail
            go_roundw
            case rel => first | exact ⟨q + 1, .slice A7 (q + 1) c7, by omega, by go_num, HN7.out⟩ | exact ⟨q + 1, by omega, .slice A7 (q + 1) c7, by go_num, HN7.out⟩ | exact ⟨q + 1, by omega, by go_num, .slice A7 (q + 1) c7, HN7.out⟩
            case measure => simp [intOf]; omega
        · have : q = t.r.bl.length := by omega
          subst this
          have hs := HSt.out
          rw [List.take_length] at hs
          have HG1 := Lib.hid hs
          have HBl := Lib.hid (own_blocks rfl hs.own HOk2.out.b.2)
          have HX5 := Lib.hid (((Fr.of (hs.below.mono (Nat.le_refl _))).heap HX.out (fun h => h)))
          have HBr := Lib.hid (show br < wr.heap.size by rw [← hb1]; exact obj_lt hs.p)
          have HOk5 := Lib.hid (HOk2.out.below hs.below)
          have HS5 := Lib.hid (HS2.out.after hs.below)
          clear hs HSt HGr
          obtain ⟨k0, k1, k2, k3, k4, k5, k6, k7, k8, k9, k10, k11, k12, k13, k14, k15, k16⟩ := cells17 HX5.out
          go_upto_region 12 with fail
          rw [show wr.alloc (.cells #[.int .i64 t.m.k, .int .u32 (t.m.se : Nat), .int .u32 (t.m.me : Nat), .slice none 0 0, .slice t.la t.m.lo.length t.lc] 77) = wr.alloc (oRef t.m.k t.m.se t.m.me (.slice none 0 0) (.slice t.la t.m.lo.length t.lc)) from rfl]
          have HGr := Lib.hid (Gro.new wr 88 2 #[.int .i64 t.m.k, .int .u32 (t.m.se : Nat), .int .u32 (t.m.me : Nat), .slice none 0 0, .slice t.la t.m.lo.length t.lc] 77)
          have k12b := obj_cell ((Fr.alloc wr (oRef t.m.k t.m.se t.m.me (.slice none 0 0) (.slice t.la t.m.lo.length t.lc))).heap HX5.out (fun h => h)) 12
          simp only [List.getElem?_toArray, List.getElem?_cons_succ, List.getElem?_cons_zero] at k12b
          clear k0 k1 k2 k3 k4 k5 k6 k7 k8 k9 k10 k11 k12 k13 k14 k15 k16
          generalize wr.alloc (oRef t.m.k t.m.se t.m.me (.slice none 0 0) (.slice t.la t.m.lo.length t.lc)) = w6 at *
          generalize hb2 : wr.heap.size = bm at *
          go_wp2_with fail
          clear k12b
          have hakm := HMt.out.2
          generalize wr = wp at *
          go_loopw [61] (fun i wq => ∃ (q : Nat) (sv : Value), q ≤ t.m.ak.length ∧ i = .int .i64 q ∧ Gro 88 2 wp (oRef t.m.k t.m.se t.m.me sv (.slice t.la t.m.lo.length t.lc)) sv q (cellsA (t.m.ak.take q)) wq) (fun i _ => t.m.ak.length - (intOf i).toNat)
          case atStart => exact ⟨0, .slice none 0 0, Nat.zero_le _, rfl, HGr.out⟩
          case round =>
            obtain ⟨q, sv, hq, rfl, hs⟩ := hrel
            obtain ⟨A9, c9, rfl⟩ := own_slice hs.own
            have HSt := Lib.hid hs
            clear hs
            by_cases hlq : q < t.m.ak.length
            · have hbsl := HOk5.out.a.below HSt.out.below
              obtain ⟨_, _, hAe, _, _, hap⟩ := hbsl.parts
              simp only [Value.slice.injEq, true_and] at hAe
              obtain ⟨hA1, hA2⟩ := hAe
              obtain ⟨ba, oa, hra, hba, hcell⟩ := hap (by omega)
              obtain ⟨a0, a1⟩ := hcell q hlq
              rw [← hA1] at hra
              rw [hra]
              have hq0 : (0 : Int) ≤ (q : Int) := by omega
              have hq1 : (q : Int) < (t.m.ak.length : Int) := by omega
              have HTk := Lib.hid (show cellsA (t.m.ak.take (q + 1)) = cellsA (t.m.ak.take q) ++ rowA t.m.ak[q] by rw [List.take_succ_eq_append_getElem hlq, cellsA_snoc])
              clear hap hbsl hA1 hA2 hcell
              generalize (t.m.ak[q]'hlq) = bj at *
              obtain ⟨s, p⟩ := bj
              simp only at a0 a1
              have HA0 := Lib.hid (HSt.out.after (below_alloc (.cells #[.int .u32 (s : Nat), .int .u8 (p : Nat)] 57)))
              have HA1 := Lib.hid (HA0.out.after (below_alloc (.cells #[.int .u32 (s : Nat), .int .u8 (p : Nat)] 88)))
              have k3 := obj_cell HA0.out.p 3
              simp only [List.getElem?_toArray, List.getElem?_cons_succ, List.getElem?_cons_zero, hb2] at k3
              have HOw := Lib.hid HA1.out.own
              rw [hb2] at HOw
              have HSz := Lib.hid (show bm < wr.heap.size by rw [← hb2]; exact obj_lt HSt.out.p)
              clear HSt
              go_wp2_with (at_builtin; refine wpl_appk rfl _ _ 75 rfl (bm + 1) 88 (.agg #[.int .u32 0, .int .u8 0]) 2 8 Try.underlying75 (by kernel_rfl) rfl (by decide) _ q _ rfl HOw.out _ 1 1 (rowA (s, p)) rfl rfl ?e2 (rowA_one _) ?e4 ?e5 ?e6 ?e7)
              case e2 =>
                have h := new_cells (wr.alloc (.cells #[.int .u32 (s : Nat), .int .u8 (p : Nat)] 57)) [.int .u32 (s : Nat), .int .u8 (p : Nat)] 88
                rw [World.size_alloc] at h
                exact h
              case e4 => unfold maxLen; omega
              case e5 => omega
              case e6 => first | (have := HSz.out; omega) | (rw [World.size_alloc, World.size_alloc]; have := HSz.out; omega)
              case e7 =>
                intro v' w7 ho hg _
                obtain ⟨A7, c7, rfl⟩ := own_slice ho
                rw [← hb2] at ho
                have HP7 := Lib.hid (HA1.out.app ho hg)
                have k3b := obj_cell HP7.out.p 3
                simp only [List.getElem?_toArray, List.getElem?_cons_succ, List.getElem?_cons_zero, hb2] at k3b
                have z3 := obj_frozen HP7.out.p 3
                rw [hb2] at z3
                clear ho hg
                have hn7 := HP7.out.set 3 (.slice A7 (q + 1) c7)
                rw [← HTk.out, hb2] at hn7
                have HN7 := Lib.hid (show Gro 88 2 wp (oRef t.m.k t.m.se t.m.me (.slice A7 (q + 1) c7) (.slice t.la t.m.lo.length t.lc)) (.slice A7 (q + 1) c7) (q + 1) (cellsA (t.m.ak.take (q + 1))) _ from hn7)
                clear hn7
                go_wp2_with fail
                go_roundw
                case rel => first | exact ⟨q + 1, .slice A7 (q + 1) c7, by omega, by go_num, HN7.out⟩ | exact ⟨q + 1, by omega, .slice A7 (q + 1) c7, by go_num, HN7.out⟩ | exact ⟨q + 1, by omega, by go_num, .slice A7 (q + 1) c7, HN7.out⟩
                case measure => simp [intOf]; omega
            · have : q = t.m.ak.length := by omega
              subst this
              have hs := HSt.out
              rw [List.take_length] at hs
              have hbw := hs.below
              have HP1 := Lib.hid ((Fr.of hbw).heap HG1.out.p (fun h => h))
              have HP2 := Lib.hid hs.p
              rw [hb1] at HP1
              rw [hb2] at HP2
              have HBl8 := Lib.hid (HBl.out.below hbw)
              have HAs8 := Lib.hid (own_asks rfl hs.own)
              have HX8 := Lib.hid ((Fr.of hbw).heap HX5.out (fun h => h))
              have HOk8 := Lib.hid (HOk5.out.below hbw)
              have HS8 := Lib.hid (HS5.out.after hbw)
              have hsz := HS2.out.below.size
              have hlts : w.heap.size ≤ bx ∧ bx < br ∧ br < bm := ⟨by have := HBx.out; have := HW0.out; omega, HBx.out, HBr.out⟩
              have HTn := Lib.hid (show ItG (fun k => some k ≠ (Value.slice A5 j c5).ownBlock) (⟨t.k, t.r, A6, c6, t.m, A9, c9, t.la, t.lc, t.c, t.ca, t.cc⟩ : It) from by
                have hlt5 : ∀ k, some k = (Value.slice A5 j c5).ownBlock → w.heap.size ≤ k ∧ k < br := fun k hk => by have := HS2.out.own.lt k hk.symm; rw [hb1] at this; exact this
                refine ⟨?_, ?_, HG.out.l.mono fun k hk hx => ?_, HG.out.c.mono fun k hk hx => ?_⟩
                · intro hp a ha hx
                  have h1 := (HG1.out.own.lt a.block (by rw [ownB, show A6 = some a from ha]; rfl)).1
                  have h2 := (hlt5 _ hx).2
                  rw [hb1] at h1; omega
                · intro hp a ha hx
                  have h1 := (hs.own.lt a.block (by rw [ownB, show A9 = some a from ha]; rfl)).1
                  have h2 := (hlt5 _ hx).2
                  rw [hb2] at h1; omega
                · have h2 := (hlt5 _ hx).1; omega
                · have h2 := (hlt5 _ hx).1; omega)
              have HTo := Lib.hid (show (⟨t.k, t.r, A6, c6, t.m, A9, c9, t.la, t.lc, t.c, t.ca, t.cc⟩ : It).Ok wr from ⟨HBl8.out, HAs8.out, HOk8.out.l, HOk8.out.c, HOk8.out.ok⟩)
              have HSz := Lib.hid HS8.out.below.size
              clear hs hbw HSt HGr HG1 HS5 HS2 HOk5 HOk2 HX5 HX HBl HBl8 HAs8 HOk8 hsz hlts
              obtain ⟨k0, k1, k2, k3, k4, k5, k6, k7, k8, k9, k10, k11, k12, k13, k14, k15, k16⟩ := cells17 HX8.out
              obtain ⟨p0, p1, p2, p3, p4, p5, p6, p7⟩ := cells8 HP1.out
              obtain ⟨n0, n1, n2, n3, n4⟩ := cells5m HP2.out
              go_wp2_with (at_builtin; refine wpl_appk rfl _ _ 47 rfl w.heap.size 80 (.agg #[.int .i64 0, .bool false, .int .u32 0, .int .u32 0, .int .u32 0, .int .u32 0, .int .u32 0, .int .u32 0, .slice none 0 0, .int .i64 0, .int .u32 0, .int .u32 0, .slice none 0 0, .slice none 0 0, .int .u8 0, .int .u8 0, .slice none 0 0]) 17 160 Try.underlying47 (by kernel_rfl) rfl (by decide) _ j (cellsI os) rfl ?f1 _ 1 1 [.int .i64 t.k, .bool t.r.sd, .int .u32 (t.r.so : Nat), .int .u32 (t.r.i0 : Nat), .int .u32 (t.r.i1 : Nat), .int .u32 (t.r.i2 : Nat), .int .u32 (t.r.i3 : Nat), .int .u32 (t.r.i4 : Nat), (.slice A6 t.r.bl.length c6), .int .i64 t.m.k, .int .u32 (t.m.se : Nat), .int .u32 (t.m.me : Nat), (.slice A9 t.m.ak.length c9), (.slice t.la t.m.lo.length t.lc), .int .u8 (t.c.1 : Nat), .int .u8 (t.c.2.1 : Nat), (.slice t.ca t.c.2.2.length t.cc)] rfl rfl ?f2 ?f3 ?f4 ?f5 ?f6 ?f7)
              case f1 => exact (Fr.alloc _ _).own (by have := HS8.out.own; rw [HJ.out] at this; exact this) (fun _ _ h => h)
              case f2 => exact new_cells wr [.int .i64 t.k, .bool t.r.sd, .int .u32 (t.r.so : Nat), .int .u32 (t.r.i0 : Nat), .int .u32 (t.r.i1 : Nat), .int .u32 (t.r.i2 : Nat), .int .u32 (t.r.i3 : Nat), .int .u32 (t.r.i4 : Nat), (.slice A6 t.r.bl.length c6), .int .i64 t.m.k, .int .u32 (t.m.se : Nat), .int .u32 (t.m.me : Nat), (.slice A9 t.m.ak.length c9), (.slice t.la t.m.lo.length t.lc), .int .u8 (t.c.1 : Nat), .int .u8 (t.c.2.1 : Nat), (.slice t.ca t.c.2.2.length t.cc)] 80
              case f3 => intro u hu; exact Array.all_eq_true_iff_forall_mem.1 (It.one (⟨t.k, t.r, A6, c6, t.m, A9, c9, t.la, t.lc, t.c, t.ca, t.cc⟩ : It)) u (by simpa [It.row] using hu)
              case f4 => unfold maxLen; omega
              case f5 => omega
              case f6 => rw [World.size_alloc]; have := HSz.out; omega
              case f7 =>
                intro v' w9 ho hg hk
                obtain ⟨A10, c10, rfl⟩ := own_slice ho
                have hs9 := (HS8.out.after (below_alloc (.cells #[.int .i64 t.k, .bool t.r.sd, .int .u32 (t.r.so : Nat), .int .u32 (t.r.i0 : Nat), .int .u32 (t.r.i1 : Nat), .int .u32 (t.r.i2 : Nat), .int .u32 (t.r.i3 : Nat), .int .u32 (t.r.i4 : Nat), (.slice A6 t.r.bl.length c6), .int .i64 t.m.k, .int .u32 (t.m.se : Nat), .int .u32 (t.m.me : Nat), (.slice A9 t.m.ak.length c9), (.slice t.la t.m.lo.length t.lc), .int .u8 (t.c.1 : Nat), .int .u8 (t.c.2.1 : Nat), (.slice t.ca t.c.2.2.length t.cc)] 80))).app (HTo.out.below (below_alloc _)) HTn.out (by rw [HJ.out]; exact ho) hg (by rw [World.size_alloc]; exact hk)
                have HS9 := Lib.hid hs9
                have HDn := Lib.hid (show dis (os ++ [(⟨t.k, t.r, A6, c6, t.m, A9, c9, t.la, t.lc, t.c, t.ca, t.cc⟩ : It)]) = dis (ts.take (j + 1)) by rw [HDs.out, dis_app, HD.out]; rfl)
                clear ho hg hk hs9 k0 k1 k2 k3 k4 k5 k6 k7 k8 k9 k10 k11 k12 k13 k14 k15 k16 p0 p1 p2 p3 p4 p5 p6 p7 n0 n1 n2 n3 n4
                go_wp2_with fail
                go_roundw
                case rel => exact ⟨j + 1, os ++ [(⟨t.k, t.r, A6, c6, t.m, A9, c9, t.la, t.lc, t.c, t.ca, t.cc⟩ : It)], by omega, by go_num, HS9.out, by rw [List.length_append, HJ.out]; rfl, HDn.out⟩
                case measure => simp [intOf]; omega
    · have : j = ts.length := by omega
      subst this
      rw [List.take_length] at HD
      have HI := Lib.hid HS.out.items
      have HB := Lib.hid HS.out.below
      clear HS
      go_wp2_with fail
      exact HQ.out _ _ ⟨_, os, rfl, HI.out, HD.out, HB.out⟩
end Go.Proofs.Ytphofpemblindaa
/- The walk of the document's Same: chunks held against each other. -/
namespace Go.Proofs.Ytphofpemblindaa
open Go.RowKit

/-- two rows of chunks that stay -/
structure SmS (w0 : World) (v : Value) (ts : List Ck) (u : Value) (us : List Ck) (w : World) : Prop where
  v : CkS w v ts
  u : CkS w u us
  below : Below w0.heap.size w0 w
theorem SmS.after {w0 w w' : World} {v u : Value} {ts us : List Ck} (h : SmS w0 v ts u us w) (hb : Below w.heap.size w w') : SmS w0 v ts u us w' :=
  ⟨h.v.below hb, h.u.below hb, h.below.trans (hb.mono h.below.size)⟩
theorem SmS.drew {w0 w : World} {v u : Value} {ts us : List Ck} (h : SmS w0 v ts u us w) : SmS w0 v ts u us w.drew := h.after (below_drewN (Below.refl _ _) 1)
/-- .. and the cells of the j-th ones -/
abbrev SmC (w0 : World) (b o n c : Nat) (ts : List Ck) (b2 o2 n2 c2 : Nat) (us : List Ck) (j : Nat) (x0 x1 : Int) (a : Value) (y0 y1 : Int) (d : Value) (w : World) : Prop :=
  SmS w0 (.slice (some ⟨b, o, none⟩) n c) ts (.slice (some ⟨b2, o2, none⟩) n2 c2) us w ∧
  w.cell? ⟨b, o + j * 3, none⟩ = some (.int .u8 x0) ∧ w.cell? ⟨b, o + j * 3 + 1, none⟩ = some (.int .u8 x1) ∧ w.cell? ⟨b, o + j * 3 + 2, none⟩ = some a ∧
  w.cell? ⟨b2, o2 + j * 3, none⟩ = some (.int .u8 y0) ∧ w.cell? ⟨b2, o2 + j * 3 + 1, none⟩ = some (.int .u8 y1) ∧ w.cell? ⟨b2, o2 + j * 3 + 2, none⟩ = some d
theorem SmS.cells {w0 w : World} {b o n c : Nat} {ts : List Ck} {b2 o2 n2 c2 : Nat} {us : List Ck} (h : SmS w0 (.slice (some ⟨b, o, none⟩) n c) ts (.slice (some ⟨b2, o2, none⟩) n2 c2) us w) (j : Nat) (h1 : j < ts.length) (h2 : j < us.length) :
    SmC w0 b o n c ts b2 o2 n2 c2 us j (ts[j].n : Nat) (ts[j].y : Nat) ts[j].v (us[j].n : Nat) (us[j].y : Nat) us[j].v w := by
  obtain ⟨c0, c1, c2⟩ := h.v.at j h1
  obtain ⟨d0, d1, d2⟩ := h.u.at j h2
  exact ⟨h, c0, c1, c2, d0, d1, d2⟩
theorem dtake_step {ts us : List Ck} {j : Nat} (h1 : j < ts.length) (h2 : j < us.length) (h : ds (ts.take j) = ds (us.take j)) (he : ts[j].d = us[j].d) : ds (ts.take (j + 1)) = ds (us.take (j + 1)) := by
  rw [ds_snoc ts j h1, ds_snoc us j h2, h, he]
theorem d_ne {ts us : List Ck} {j : Nat} (h1 : j < ts.length) (h2 : j < us.length) (he : ts[j].d ≠ us[j].d) : decide (ds ts = ds us) = false := by
  rw [decide_eq_false_iff_not]
  intro h
  apply he
  have e1 : (ds ts)[j]? = some ts[j].d := by simp [ds, h1]
  have e2 : (ds us)[j]? = some us[j].d := by simp [ds, h2]
  rw [h, e2] at e1
  exact (Option.some.inj e1).symm
set_option maxHeartbeats 1000000 in
theorem csame_any (v u : Value) (ts us : List Ck) (w : World) (hv : CkS w v ts) (hu : CkS w u us) :
    Calls Try.prog 29 #[v, u] w fun e w' => e = .returned (.bool (decide (ds ts = ds us))) ∧ Below w.heap.size w w' := by
  have HS := Lib.hid (show SmS w v ts u us w from ⟨hv, hu, Below.refl _ _⟩)
  obtain ⟨A, c, rfl, hc, hcm, hA⟩ := hv.parts
  obtain ⟨A2, c2, rfl, hc2, hcm2, hA2⟩ := hu.parts
  have HA := Lib.hid hA
  have HA2 := Lib.hid hA2
  clear hv hu hA hA2
  refine calls_q fun Q HQ => ?_
  by_cases hl : ts.length = us.length
  · have hne : ((ts.length : Int) != (us.length : Int)) = false := by rw [hl]; simp
    have HL := Lib.hid hl
    clear hl
    go_enter Try.func29, Try.ntmps29
    go_wp2_with fail
    go_loopw [5] (fun i wr => ∃ j : Nat, j ≤ ts.length ∧ i = .int .i64 j ∧ ds (ts.take j) = ds (us.take j) ∧ SmS w (.slice A ts.length c) ts (.slice A2 us.length c2) us wr) (fun i _ => ts.length - (intOf i).toNat)
    case atStart => exact ⟨0, Nat.zero_le _, rfl, by simp [ds], HS.out⟩
    case round =>
      obtain ⟨j, hj, rfl, ht, hs⟩ := hrel
      have HT := Lib.hid ht
      have HSr := Lib.hid hs
      clear ht hs
      by_cases hlt : j < ts.length
      · have hlt2 : j < us.length := by have := HL.out; omega
        obtain ⟨b, o, rfl, _⟩ := HA.out (by omega)
        obtain ⟨b2, o2, rfl, _⟩ := HA2.out (by omega)
        have HB1 := Lib.hid ((HSr.out.v.2 _ (List.getElem_mem hlt)).b)
        have HB2 := Lib.hid ((HSr.out.u.2 _ (List.getElem_mem hlt2)).b)
        have hcl := HSr.out.cells j hlt hlt2
        have HC := Lib.hid (fun w' (h : SmS w (.slice (some ⟨b, o, none⟩) ts.length c) ts (.slice (some ⟨b2, o2, none⟩) us.length c2) us w') => h.cells j hlt hlt2)
        have hi0 : (0 : Int) ≤ (j : Int) := by omega
        have hi1 : (j : Int) < (ts.length : Int) := by omega
        have hi2 : (j : Int) < (us.length : Int) := by omega
        have HE := Lib.hid (dtake_step hlt hlt2 HT.out)
        have HN := Lib.hid (d_ne hlt hlt2)
        have HV1 := Lib.hid (fun w' (h : SmS w (.slice (some ⟨b, o, none⟩) ts.length c) ts (.slice (some ⟨b2, o2, none⟩) us.length c2) us w') => (h.v.2 _ (List.getElem_mem hlt)).b)
        have HV2 := Lib.hid (fun w' (h : SmS w (.slice (some ⟨b, o, none⟩) ts.length c) ts (.slice (some ⟨b2, o2, none⟩) us.length c2) us w') => (h.u.2 _ (List.getElem_mem hlt2)).b)
        simp only [Ck.d, ne_eq, Prod.mk.injEq] at HE HN
        obtain ⟨X1, z1, hv1, _, hcy1, _⟩ := bs_parts HB1.out
        obtain ⟨X2, z2, hv2, _, hcy2, _⟩ := bs_parts HB2.out
        rw [hv1, hv2] at hcl
        rw [hv1] at HC HV1
        rw [hv2] at HC HV2
        clear HB1 HB2 hv1 hv2
        generalize (ts[j]'hlt).n = n1 at *
        generalize (us[j]'hlt2).n = n2 at *
        generalize (ts[j]'hlt).y = y1 at *
        generalize (us[j]'hlt2).y = y2 at *
        generalize (ts[j]'hlt).b = l1 at *
        generalize (us[j]'hlt2).b = l2 at *
        obtain ⟨_, c0, c1, c3, d0, d1, d3⟩ := hcl
        clear c0 c1 c3 d0 d1 d3
        by_cases hn : n1 = n2
        · have hx := num_ne0 hn
          by_cases hy : y1 = y2
          · have hxy := num_ne0 hy
            by_cases hl12 : l1 = l2
            · have HX := Lib.hid (show (l1 == l2) = true by simp [hl12])
              have HY := Lib.hid (HE.out ⟨hn, hy, hl12⟩)
              clear hn hy hl12
              go_wp2_with fail
              go_region_held3 (fun w' => SmS w (.slice (some ⟨b, o, none⟩) ts.length c) ts (.slice (some ⟨b2, o2, none⟩) us.length c2) us w' ∧ w'.cell? ⟨b, o + j * 3, none⟩ = some (.int .u8 (n1 : Nat)) ∧ w'.cell? ⟨b, o + j * 3 + 1, none⟩ = some (.int .u8 (y1 : Nat)) ∧ w'.cell? ⟨b, o + j * 3 + 2, none⟩ = some (.slice X1 l1.length z1) ∧ w'.cell? ⟨b2, o2 + j * 3, none⟩ = some (.int .u8 (n2 : Nat)) ∧ w'.cell? ⟨b2, o2 + j * 3 + 1, none⟩ = some (.int .u8 (y2 : Nat)) ∧ w'.cell? ⟨b2, o2 + j * 3 + 2, none⟩ = some (.slice X2 l2.length z2)) (first | exact HC.out _ ((‹SmS _ _ _ _ _ _ ∧ _›).1.after (by assumption)) | exact HC.out _ HSr.out.drew) (first | (go_at_call 12; have hh := (‹SmS _ _ _ _ _ _ ∧ _›).1; refine (rsame_is _ _ l1 l2 _ (HV1.out _ hh) (HV2.out _ hh) HX.out).mono ?_; rintro e w9 ⟨rfl, hb⟩; clear hh))
              have hh := (‹SmS _ _ _ _ _ _ ∧ _›).1
              go_wp2_with fail
              go_roundw
              case rel => exact ⟨j + 1, by omega, by go_num, HY.out, hh⟩
              case measure => simp [intOf]; omega
            · have HX := Lib.hid (show (l1 == l2) = false by simp [hl12])
              have HY := Lib.hid (HN.out (fun h => hl12 h.2.2))
              clear hn hy hl12
              go_wp2_with fail
              go_region_held3 (fun w' => SmS w (.slice (some ⟨b, o, none⟩) ts.length c) ts (.slice (some ⟨b2, o2, none⟩) us.length c2) us w' ∧ w'.cell? ⟨b, o + j * 3, none⟩ = some (.int .u8 (n1 : Nat)) ∧ w'.cell? ⟨b, o + j * 3 + 1, none⟩ = some (.int .u8 (y1 : Nat)) ∧ w'.cell? ⟨b, o + j * 3 + 2, none⟩ = some (.slice X1 l1.length z1) ∧ w'.cell? ⟨b2, o2 + j * 3, none⟩ = some (.int .u8 (n2 : Nat)) ∧ w'.cell? ⟨b2, o2 + j * 3 + 1, none⟩ = some (.int .u8 (y2 : Nat)) ∧ w'.cell? ⟨b2, o2 + j * 3 + 2, none⟩ = some (.slice X2 l2.length z2)) (first | exact HC.out _ ((‹SmS _ _ _ _ _ _ ∧ _›).1.after (by assumption)) | exact HC.out _ HSr.out.drew) (first | (go_at_call 12; have hh := (‹SmS _ _ _ _ _ _ ∧ _›).1; refine (rsame_is _ _ l1 l2 _ (HV1.out _ hh) (HV2.out _ hh) HX.out).mono ?_; rintro e w9 ⟨rfl, hb⟩; clear hh))
              have hh := (‹SmS _ _ _ _ _ _ ∧ _›).1
              go_wp2_with fail
              exact HQ.out _ _ ⟨ret_bool HY.out.symm, hh.below⟩
          · have hxy := num_ne1 hy
            have HY := Lib.hid (HN.out (fun h => hy h.2.1))
            clear hn hy
            go_wp2_with fail
            obtain ⟨_, c0, c1, c3, d0, d1, d3⟩ := HC.out _ HSr.out
            go_quiet (fail)
            go_wp2_with fail
            exact HQ.out _ _ ⟨ret_bool HY.out.symm, (HSr.out.after (below_drewN (Below.refl _ _) _)).below⟩
        · have hx := num_ne1 hn
          have HY := Lib.hid (HN.out (fun h => hn h.1))
          clear hn
          go_wp2_with fail
          obtain ⟨_, c0, c1, c3, d0, d1, d3⟩ := HC.out _ HSr.out
          go_quiet (fail)
          go_wp2_with fail
          exact HQ.out _ _ ⟨ret_bool HY.out.symm, (HSr.out.after (below_drewN (Below.refl _ _) _)).below⟩
      · have : j = ts.length := by omega
        subst this
        go_wp2_with fail
        refine HQ.out _ _ ⟨ret_bool ?_, HSr.out.below⟩
        symm
        have h1 := HT.out
        have h2 := HL.out
        rw [List.take_of_length_le (Nat.le_refl _), List.take_of_length_le (by omega)] at h1
        rw [decide_eq_true_eq]; exact h1
  · have hne : ((ts.length : Int) != (us.length : Int)) = true := by simp; omega
    have HL := Lib.hid hl
    clear hl
    go_enter Try.func29, Try.ntmps29
    go_wp2_with fail
    refine HQ.out _ _ ⟨ret_bool ?_, Below.refl _ _⟩
    symm
    rw [decide_eq_false_iff_not]
    intro h
    have := congrArg List.length h
    rw [ds_len, ds_len] at this
    exact HL.out this
theorem csame_is {r : Bool} (v u : Value) (ts us : List Ck) (w : World) (hv : CkS w v ts) (hu : CkS w u us) (hr : decide (ds ts = ds us) = r) :
    Calls Try.prog 29 #[v, u] w fun e w' => e = .returned (.bool r) ∧ Below w.heap.size w w' := by
  subst hr; exact csame_any v u ts us w hv hu
end Go.Proofs.Ytphofpemblindaa
/- The walk of the document's Same: messages held against each other. -/
namespace Go.Proofs.Ytphofpemblindaa
open Go.RowKit

theorem taken_step {α : Type} {l m : List α} {j : Nat} (h1 : j < l.length) (h2 : j < m.length) (h : l.take j = m.take j) (he : l[j] = m[j]) : l.take (j + 1) = m.take (j + 1) := by
  rw [List.take_succ_eq_append_getElem h1, List.take_succ_eq_append_getElem h2, h, he]
theorem taken_all {α : Type} {l m : List α} (hl : l.length = m.length) (h : l.take l.length = m.take l.length) : l = m := by
  rwa [List.take_of_length_le (Nat.le_refl _), List.take_of_length_le (by omega)] at h
set_option maxRecDepth 20000 in
set_option maxHeartbeats 4000000 in
theorem fsame_is {r : Bool} (k : Int) (se me : Nat) (va vl : Value) (ak : List (Nat × Nat)) (lo : List Int) (k' : Int) (se' me' : Nat) (ua ul : Value) (bk : List (Nat × Nat)) (mo : List Int) (w : World)
    (ha : AsS w va ak) (hl : LoS w vl lo) (hb : AsS w ua bk) (hm : LoS w ul mo) (h : r = true ↔ (⟨k, se, me, ak, lo⟩ : DM) = ⟨k', se', me', bk, mo⟩) :
    Calls Try.prog 28 #[.agg #[.int .i64 k, .int .u32 (se : Nat), .int .u32 (me : Nat), va, vl], .agg #[.int .i64 k', .int .u32 (se' : Nat), .int .u32 (me' : Nat), ua, ul]] w
      fun e w' => e = .returned (.bool r) ∧ Below w.heap.size w w' := by
  obtain ⟨A, c, rfl, y1, y2, y3⟩ := ha.parts
  obtain ⟨B, e, rfl, _, _⟩ := hl.parts
  obtain ⟨A2, c2, rfl, y4, y5, y6⟩ := hb.parts
  obtain ⟨B2, e2, rfl, _, _⟩ := hm.parts
  have HA := Lib.hid ha
  have HL := Lib.hid hl
  have HB := Lib.hid hb
  have HM := Lib.hid hm
  clear ha hl hb hm y1 y2 y3 y4 y5 y6
  simp only [DM.mk.injEq] at h
  refine calls_q fun Q HQ => ?_
  by_cases hx : k = k' ∧ se = se' ∧ me = me' ∧ ak.length = bk.length ∧ lo.length = mo.length
  · obtain ⟨rfl, rfl, rfl, hla, hlb⟩ := hx
    have hli : ((ak.length : Int) != (bk.length : Int)) = false := by rw [hla]; simp
    have hlj : ((lo.length : Int) != (mo.length : Int)) = false := by rw [hlb]; simp
    have HLa := Lib.hid hla
    have HLb := Lib.hid hlb
    have HR := Lib.hid (show r = true ↔ ak = bk ∧ lo = mo by simpa using h)
    clear hla hlb h
    have hx1 := (Fr.alloc (w.alloc (oRef k se me (.slice A ak.length c) (.slice B lo.length e))) (oRef k se me (.slice A2 bk.length c2) (.slice B2 mo.length e2))).heap (heap_alloc_new w (oRef k se me (.slice A ak.length c) (.slice B lo.length e))) (fun h => h)
    have hx2 := heap_alloc_new (w.alloc (oRef k se me (.slice A ak.length c) (.slice B lo.length e))) (oRef k se me (.slice A2 bk.length c2) (.slice B2 mo.length e2))
    rw [World.size_alloc] at hx2
    have hbl := (below_alloc (w := w) (oRef k se me (.slice A ak.length c) (.slice B lo.length e))).alloc (below_alloc (oRef k se me (.slice A ak.length c) (.slice B lo.length e))).size (oRef k se me (.slice A2 bk.length c2) (.slice B2 mo.length e2))
    have HBl := Lib.hid hbl
    have HX1 := Lib.hid hx1
    have HX2 := Lib.hid hx2
    clear hx1 hx2 hbl
    go_enter Try.func28, Try.ntmps28
    go_wp2_with fail
    rw [show (w.alloc (.cells #[.int .i64 k, .int .u32 (se : Nat), .int .u32 (me : Nat), .slice A ak.length c, .slice B lo.length e] 77)).alloc (.cells #[.int .i64 k, .int .u32 (se : Nat), .int .u32 (me : Nat), .slice A2 bk.length c2, .slice B2 mo.length e2] 77) = (w.alloc (oRef k se me (.slice A ak.length c) (.slice B lo.length e))).alloc (oRef k se me (.slice A2 bk.length c2) (.slice B2 mo.length e2)) from rfl]
    generalize (w.alloc (oRef k se me (.slice A ak.length c) (.slice B lo.length e))).alloc (oRef k se me (.slice A2 bk.length c2) (.slice B2 mo.length e2)) = wl at *
    generalize w.heap.size + 1 = by_ at *
    generalize hbx : w.heap.size = bx at HX1 HX2 ⊢
    have HBx := Lib.hid hbx
    clear hbx
    obtain ⟨_, _, _, kx, mx⟩ := cells5m HX1.out
    obtain ⟨_, _, _, ky, my⟩ := cells5m HX2.out
    go_loopw [5] (fun i wr => ∃ j d : Nat, j ≤ ak.length ∧ i = .int .i64 j ∧ ak.take j = bk.take j ∧ wr = wl.drewN d) (fun i _ => ak.length - (intOf i).toNat)
    case atStart => exact ⟨0, 0, Nat.zero_le _, rfl, by simp, rfl⟩
    case round =>
      obtain ⟨j, d, hj, rfl, hst, rfl⟩ := hrel
      have HSt := Lib.hid hst
      clear hst
      by_cases hlt : j < ak.length
      · have hlt2 : j < bk.length := by have := HLa.out; omega
        obtain ⟨_, _, he, _, _, hp⟩ := (HA.out.below HBl.out).parts
        simp only [Value.slice.injEq, true_and] at he
        obtain ⟨rfl, rfl⟩ := he
        obtain ⟨b, o, rfl, g1, hcell⟩ := hp (by omega)
        obtain ⟨c0, c1⟩ := hcell j hlt
        obtain ⟨_, _, he, _, _, hp2⟩ := (HB.out.below HBl.out).parts
        simp only [Value.slice.injEq, true_and] at he
        obtain ⟨rfl, rfl⟩ := he
        obtain ⟨b2, o2, rfl, g2, hcell2⟩ := hp2 (by omega)
        obtain ⟨d0, d1⟩ := hcell2 j hlt2
        have h0 : (0 : Int) ≤ (j : Int) := by omega
        have h1 : (j : Int) < (ak.length : Int) := by omega
        have h2 : (j : Int) < (bk.length : Int) := by omega
        have HStep := Lib.hid (fun e => taken_step hlt hlt2 HSt.out e)
        have HNe := Lib.hid (fun (hn : ak[j] ≠ bk[j]) => (by
          have : ¬ ak = bk := fun e => hn (by subst e; rfl)
          cases r
          · rfl
          · exact absurd (HR.out.1 rfl).1 this : r = false))
        clear hcell hcell2 hp hp2
        generalize ak[j] = x at *
        generalize bk[j] = y at *
        obtain ⟨s, p⟩ := x
        obtain ⟨s2, p2⟩ := y
        simp only at c0 c1 d0 d1
        by_cases he : s = s2 ∧ p = p2
        · obtain ⟨rfl, rfl⟩ := he
          have HSt2 := Lib.hid (HStep.out rfl)
          clear HStep HNe
          go_wp2_with fail
          go_quiet (fail)
          go_wp2_with fail
          go_roundw
          case rel => exact ⟨j + 1, _, by omega, by go_num, HSt2.out, rfl⟩
          case measure => simp [intOf]; omega
        · have hr := HNe.out (by simp only [ne_eq, Prod.mk.injEq]; exact he)
          subst hr
          clear HStep HNe HR
          rcases (show (¬ ((s : Nat) : Int) = ((s2 : Nat) : Int)) ∨ (s = s2 ∧ ¬ ((p : Nat) : Int) = ((p2 : Nat) : Int)) by
            by_cases e0 : s = s2
            · exact .inr ⟨e0, fun h => he ⟨e0, by omega⟩⟩
            · exact .inl (by omega)) with hn | ⟨rfl, hn⟩
          all_goals
            clear he
            go_wp2_with fail
            go_quiet (fail)
            go_wp2_with fail
            exact HQ.out _ _ ⟨rfl, by first | exact HBl.out | exact below_drewN HBl.out _ | exact below_drewN (below_drewN HBl.out _) _⟩
      · have : j = ak.length := by omega
        subst this
        have HEq := Lib.hid (taken_all HLa.out HSt.out)
        go_wp2_with fail
        generalize hwd : wl.drewN d = wd at *
        have HBd := Lib.hid (show Below w.heap.size w wd by rw [← hwd]; exact below_drewN HBl.out _)
        have mx2 : wd.cell? ⟨bx, 4, none⟩ = some (.slice B lo.length e) := by rw [← hwd]; exact mx
        have my2 : wd.cell? ⟨by_, 4, none⟩ = some (.slice B2 mo.length e2) := by rw [← hwd]; exact my
        clear hwd kx ky mx my HX1 HX2 HSt hj
        go_loopw [6] (fun i wr => ∃ j d : Nat, j ≤ lo.length ∧ i = .int .i64 j ∧ lo.take j = mo.take j ∧ wr = wd.drewN d) (fun i _ => lo.length - (intOf i).toNat)
        case atStart => exact ⟨0, 0, Nat.zero_le _, rfl, by simp, rfl⟩
        case round =>
          obtain ⟨j, d2, hj, rfl, hst, rfl⟩ := hrel
          have HSt := Lib.hid hst
          clear hst
          by_cases hlt : j < lo.length
          · have hlt2 : j < mo.length := by have := HLb.out; omega
            obtain ⟨_, _, he, _, _, hp⟩ := LoG.parts (SV.x (HL.out.below HBd.out))
            simp only [Value.slice.injEq, true_and] at he
            obtain ⟨rfl, rfl⟩ := he
            obtain ⟨b, o, rfl, g1, _, hcell⟩ := hp (by omega)
            have c0 := hcell j hlt
            obtain ⟨_, _, he, _, _, hp2⟩ := LoG.parts (SV.x (HM.out.below HBd.out))
            simp only [Value.slice.injEq, true_and] at he
            obtain ⟨rfl, rfl⟩ := he
            obtain ⟨b2, o2, rfl, g2, _, hcell2⟩ := hp2 (by omega)
            have d0 := hcell2 j hlt2
            have h0 : (0 : Int) ≤ (j : Int) := by omega
            have h1 : (j : Int) < (lo.length : Int) := by omega
            have h2 : (j : Int) < (mo.length : Int) := by omega
            have HStep := Lib.hid (fun e => taken_step hlt hlt2 HSt.out e)
            have HNe := Lib.hid (fun (hn : lo[j] ≠ mo[j]) => (by
              have : ¬ lo = mo := fun e => hn (by subst e; rfl)
              cases r
              · rfl
              · exact absurd (HR.out.1 rfl).2 this : r = false))
            clear hcell hcell2 hp hp2
            generalize lo[j] = x at *
            generalize mo[j] = y at *
            by_cases he : x = y
            · obtain rfl := he
              have HSt2 := Lib.hid (HStep.out rfl)
              clear HStep HNe
              go_wp2_with fail
              go_quiet (fail)
              go_wp2_with fail
              go_roundw
              case rel => exact ⟨j + 1, _, by omega, by go_num, HSt2.out, rfl⟩
              case measure => simp [intOf]; omega
            · have hr := HNe.out he
              subst hr
              have hxn : (x != y) = true := by simp [he]
              clear HStep HNe HR he
              go_wp2_with fail
              go_quiet (fail)
              go_wp2_with fail
              exact HQ.out _ _ ⟨rfl, by first | exact HBd.out | exact below_drewN HBd.out _ | exact below_drewN (below_drewN HBd.out _) _⟩
          · have : j = lo.length := by omega
            subst this
            have hr : r = true := HR.out.2 ⟨HEq.out, taken_all HLb.out HSt.out⟩
            subst hr
            clear HR
            go_wp2_with fail
            exact HQ.out _ _ ⟨rfl, by first | exact HBd.out | exact below_drewN HBd.out _ | exact below_drewN (below_drewN HBd.out _) _⟩
  · have hr : r = false := by
      cases r
      · rfl
      · obtain ⟨e0, e1, e2, e3, e4⟩ := h.1 rfl
        exact absurd ⟨e0, e1, e2, by rw [e3], by rw [e4]⟩ hx
    subst hr
    clear h HA HL HB HM
    generalize ak.length = na at *
    generalize lo.length = nl at *
    generalize bk.length = nb at *
    generalize mo.length = nm at *
    rcases (show ¬ k = k' ∨ (k = k' ∧ ¬ ((se : Nat) : Int) = (se' : Nat)) ∨ (k = k' ∧ se = se' ∧ ¬ ((me : Nat) : Int) = (me' : Nat)) ∨ (k = k' ∧ se = se' ∧ me = me' ∧ ¬ ((na : Nat) : Int) = (nb : Nat)) ∨ (k = k' ∧ se = se' ∧ me = me' ∧ na = nb ∧ ¬ ((nl : Nat) : Int) = (nm : Nat)) by omega) with he | ⟨rfl, he⟩ | ⟨rfl, rfl, he⟩ | ⟨rfl, rfl, rfl, he⟩ | ⟨rfl, rfl, rfl, rfl, he⟩
    all_goals
      clear hx
      go_enter Try.func28, Try.ntmps28
      go_wp2_with fail
      exact HQ.out _ _ ⟨rfl, (below_alloc _).alloc (below_alloc _).size _⟩
end Go.Proofs.Ytphofpemblindaa
/- The walk of the document's Same: reports held against each other. -/
namespace Go.Proofs.Ytphofpemblindaa
open Go.RowKit

theorem btake_step {l m : List DB} {j : Nat} (h1 : j < l.length) (h2 : j < m.length) (h : l.take j = m.take j) (he : l[j] = m[j]) : l.take (j + 1) = m.take (j + 1) := by
  rw [List.take_succ_eq_append_getElem h1, List.take_succ_eq_append_getElem h2, h, he]
set_option maxHeartbeats 4000000 in
theorem rpsame_is {r : Bool} (sd : Bool) (so i0 i1 i2 i3 i4 : Nat) (bl : List DB) (A : Option Addr) (c : Nat) (td : Bool) (tz j0 j1 j2 j3 j4 : Nat) (bm : List DB) (A2 : Option Addr) (c2 : Nat) (w : World)
    (hs : BlS w (.slice A bl.length c) bl) (ht : BlS w (.slice A2 bm.length c2) bm) (h : r = true ↔ (⟨sd, so, i0, i1, i2, i3, i4, bl⟩ : DR) = ⟨td, tz, j0, j1, j2, j3, j4, bm⟩) :
    Calls Try.prog 27 #[.agg #[.bool sd, .int .u32 (so : Nat), .int .u32 (i0 : Nat), .int .u32 (i1 : Nat), .int .u32 (i2 : Nat), .int .u32 (i3 : Nat), .int .u32 (i4 : Nat), .slice A bl.length c],
        .agg #[.bool td, .int .u32 (tz : Nat), .int .u32 (j0 : Nat), .int .u32 (j1 : Nat), .int .u32 (j2 : Nat), .int .u32 (j3 : Nat), .int .u32 (j4 : Nat), .slice A2 bm.length c2]] w
      fun e w' => e = .returned (.bool r) ∧ Below w.heap.size w w' := by
  have HS := Lib.hid hs
  have HT := Lib.hid ht
  obtain ⟨_, _, he, _, _, hA⟩ := hs.parts
  simp only [Value.slice.injEq, true_and] at he
  obtain ⟨rfl, rfl⟩ := he
  obtain ⟨_, _, he, _, _, hB⟩ := ht.parts
  simp only [Value.slice.injEq, true_and] at he
  obtain ⟨rfl, rfl⟩ := he
  have HA := Lib.hid hA
  have HB := Lib.hid hB
  clear hs ht hA hB
  simp only [DR.mk.injEq] at h
  refine calls_q fun Q HQ => ?_
  by_cases hx : sd = td ∧ so = tz ∧ i0 = j0 ∧ i1 = j1 ∧ i2 = j2 ∧ i3 = j3 ∧ i4 = j4 ∧ bl.length = bm.length
  · obtain ⟨rfl, rfl, rfl, rfl, rfl, rfl, rfl, hl⟩ := hx
    have hli : ((bl.length : Int) != (bm.length : Int)) = false := by rw [hl]; simp
    have HL := Lib.hid hl
    have HR := Lib.hid (show r = true ↔ bl = bm by simpa using h)
    clear hl h
    go_enter Try.func27, Try.ntmps27
    go_wp2_with fail
    have hx1 := (Fr.alloc (w.alloc (.cells #[.bool sd, .int .u32 (so : Nat), .int .u32 (i0 : Nat), .int .u32 (i1 : Nat), .int .u32 (i2 : Nat), .int .u32 (i3 : Nat), .int .u32 (i4 : Nat), .slice A bl.length c] 74 (0, 0))) (.cells #[.bool sd, .int .u32 (so : Nat), .int .u32 (i0 : Nat), .int .u32 (i1 : Nat), .int .u32 (i2 : Nat), .int .u32 (i3 : Nat), .int .u32 (i4 : Nat), .slice A2 bm.length c2] 74 (0, 0))).heap (heap_alloc_new w (.cells #[.bool sd, .int .u32 (so : Nat), .int .u32 (i0 : Nat), .int .u32 (i1 : Nat), .int .u32 (i2 : Nat), .int .u32 (i3 : Nat), .int .u32 (i4 : Nat), .slice A bl.length c] 74 (0, 0))) (fun h => h)
    have hx2 := heap_alloc_new (w.alloc (.cells #[.bool sd, .int .u32 (so : Nat), .int .u32 (i0 : Nat), .int .u32 (i1 : Nat), .int .u32 (i2 : Nat), .int .u32 (i3 : Nat), .int .u32 (i4 : Nat), .slice A bl.length c] 74 (0, 0))) (.cells #[.bool sd, .int .u32 (so : Nat), .int .u32 (i0 : Nat), .int .u32 (i1 : Nat), .int .u32 (i2 : Nat), .int .u32 (i3 : Nat), .int .u32 (i4 : Nat), .slice A2 bm.length c2] 74 (0, 0))
    rw [World.size_alloc] at hx2
    have hb := (below_alloc (w := w) (.cells #[.bool sd, .int .u32 (so : Nat), .int .u32 (i0 : Nat), .int .u32 (i1 : Nat), .int .u32 (i2 : Nat), .int .u32 (i3 : Nat), .int .u32 (i4 : Nat), .slice A bl.length c] 74 (0, 0))).alloc (below_alloc (.cells #[.bool sd, .int .u32 (so : Nat), .int .u32 (i0 : Nat), .int .u32 (i1 : Nat), .int .u32 (i2 : Nat), .int .u32 (i3 : Nat), .int .u32 (i4 : Nat), .slice A bl.length c] 74 (0, 0))).size (.cells #[.bool sd, .int .u32 (so : Nat), .int .u32 (i0 : Nat), .int .u32 (i1 : Nat), .int .u32 (i2 : Nat), .int .u32 (i3 : Nat), .int .u32 (i4 : Nat), .slice A2 bm.length c2] 74 (0, 0))
    have HBl := Lib.hid hb
    have HX1 := Lib.hid hx1
    have HX2 := Lib.hid hx2
    rw [show (w.alloc (.cells #[.bool sd, .int .u32 (so : Nat), .int .u32 (i0 : Nat), .int .u32 (i1 : Nat), .int .u32 (i2 : Nat), .int .u32 (i3 : Nat), .int .u32 (i4 : Nat), .slice A bl.length c] 74)).alloc (.cells #[.bool sd, .int .u32 (so : Nat), .int .u32 (i0 : Nat), .int .u32 (i1 : Nat), .int .u32 (i2 : Nat), .int .u32 (i3 : Nat), .int .u32 (i4 : Nat), .slice A2 bm.length c2] 74) = (w.alloc (.cells #[.bool sd, .int .u32 (so : Nat), .int .u32 (i0 : Nat), .int .u32 (i1 : Nat), .int .u32 (i2 : Nat), .int .u32 (i3 : Nat), .int .u32 (i4 : Nat), .slice A bl.length c] 74 (0, 0))).alloc (.cells #[.bool sd, .int .u32 (so : Nat), .int .u32 (i0 : Nat), .int .u32 (i1 : Nat), .int .u32 (i2 : Nat), .int .u32 (i3 : Nat), .int .u32 (i4 : Nat), .slice A2 bm.length c2] 74 (0, 0)) from rfl]
    clear hx1 hx2 hb
    generalize (w.alloc (.cells #[.bool sd, .int .u32 (so : Nat), .int .u32 (i0 : Nat), .int .u32 (i1 : Nat), .int .u32 (i2 : Nat), .int .u32 (i3 : Nat), .int .u32 (i4 : Nat), .slice A bl.length c] 74 (0, 0))).alloc (.cells #[.bool sd, .int .u32 (so : Nat), .int .u32 (i0 : Nat), .int .u32 (i1 : Nat), .int .u32 (i2 : Nat), .int .u32 (i3 : Nat), .int .u32 (i4 : Nat), .slice A2 bm.length c2] 74 (0, 0)) = wl at *
    generalize w.heap.size + 1 = by_ at *
    generalize hbx : w.heap.size = bx at HX1 HX2 ⊢
    have HBx := Lib.hid hbx
    clear hbx
    have kx := (cells8 HX1.out).2.2.2.2.2.2.2
    have ky := (cells8 HX2.out).2.2.2.2.2.2.2
    go_loopw [5] (fun i wr => ∃ j d : Nat, j ≤ bl.length ∧ i = .int .i64 j ∧ bl.take j = bm.take j ∧ wr = wl.drewN d) (fun i _ => bl.length - (intOf i).toNat)
    case atStart => exact ⟨0, 0, Nat.zero_le _, rfl, by simp, rfl⟩
    case round =>
      obtain ⟨j, d, hj, rfl, hst, rfl⟩ := hrel
      have HSt := Lib.hid hst
      clear hst
      by_cases hlt : j < bl.length
      · have hlt2 : j < bm.length := by have := HL.out; omega
        obtain ⟨b, o, rfl, hbl⟩ := HA.out (by omega)
        obtain ⟨b2, o2, rfl, hbl2⟩ := HB.out (by omega)
        obtain ⟨c0, c1, c2', c3, c4, c5, c6⟩ := (HS.out.below HBl.out).at j hlt
        obtain ⟨d0, d1, d2, d3, d4, d5, d6⟩ := (HT.out.below HBl.out).at j hlt2
        have g1 := Nat.lt_of_lt_of_le hbl HBl.out.size
        have g2 := Nat.lt_of_lt_of_le hbl2 HBl.out.size
        have h0 : (0 : Int) ≤ (j : Int) := by omega
        have h1 : (j : Int) < (bl.length : Int) := by omega
        have h2 : (j : Int) < (bm.length : Int) := by omega
        have HStep := Lib.hid (fun e => btake_step hlt hlt2 HSt.out e)
        have HNe := Lib.hid (fun (hn : bl[j] ≠ bm[j]) => (by
          have : ¬ bl = bm := fun e => hn (by subst e; rfl)
          cases r
          · rfl
          · exact absurd (HR.out.1 rfl) this : r = false))
        generalize bl[j] = x at *
        generalize bm[j] = y at *
        obtain ⟨s, p, m, h, jj, la, dd⟩ := x
        obtain ⟨s2, p2, m2, hh2, jj2, la2, dd2⟩ := y
        by_cases he : s = s2 ∧ p = p2 ∧ m = m2 ∧ h = hh2 ∧ jj = jj2 ∧ la = la2 ∧ dd = dd2
        · obtain ⟨rfl, rfl, rfl, rfl, rfl, rfl, rfl⟩ := he
          have HSt2 := Lib.hid (HStep.out rfl)
          clear HStep HNe
          go_wp2_with fail
          go_quiet (fail)
          go_wp2_with fail
          go_roundw
          case rel => exact ⟨j + 1, _, by omega, by go_num, HSt2.out, rfl⟩
          case measure => simp [intOf]; omega
        · have hr := HNe.out (by simp only [ne_eq, DB.mk.injEq]; exact he)
          subst hr
          clear HStep HNe HR
          rcases (show (¬ ((s : Nat) : Int) = ((s2 : Nat) : Int)) ∨ (s = s2 ∧ ¬ ((p : Nat) : Int) = ((p2 : Nat) : Int)) ∨ (s = s2 ∧ p = p2 ∧ ¬ m = m2) ∨ (s = s2 ∧ p = p2 ∧ m = m2 ∧ ¬ ((h : Nat) : Int) = ((hh2 : Nat) : Int)) ∨ (s = s2 ∧ p = p2 ∧ m = m2 ∧ h = hh2 ∧ ¬ ((jj : Nat) : Int) = ((jj2 : Nat) : Int)) ∨ (s = s2 ∧ p = p2 ∧ m = m2 ∧ h = hh2 ∧ jj = jj2 ∧ ¬ ((la : Nat) : Int) = ((la2 : Nat) : Int)) ∨ (s = s2 ∧ p = p2 ∧ m = m2 ∧ h = hh2 ∧ jj = jj2 ∧ la = la2 ∧ ¬ ((dd : Nat) : Int) = ((dd2 : Nat) : Int)) by omega) with e | ⟨rfl, e⟩ | ⟨rfl, rfl, e⟩ | ⟨rfl, rfl, rfl, e⟩ | ⟨rfl, rfl, rfl, rfl, e⟩ | ⟨rfl, rfl, rfl, rfl, rfl, e⟩ | ⟨rfl, rfl, rfl, rfl, rfl, rfl, e⟩
          all_goals
            clear he
            go_wp2_with fail
            go_quiet (fail)
            go_wp2_with fail
            exact HQ.out _ _ ⟨rfl, by first | exact HBl.out | exact below_drewN HBl.out _ | exact below_drewN (below_drewN HBl.out _) _⟩
      · have : j = bl.length := by omega
        subst this
        have hr : r = true := by
          have h1 := HSt.out
          have h2 := HL.out
          rw [List.take_of_length_le (Nat.le_refl _), List.take_of_length_le (by omega)] at h1
          exact HR.out.2 h1
        subst hr
        go_wp2_with fail
        exact HQ.out _ _ ⟨rfl, by first | exact HBl.out | exact below_drewN HBl.out _ | exact below_drewN (below_drewN HBl.out _) _⟩
  · have hr : r = false := by
      cases r
      · rfl
      · obtain ⟨e0, e1, e2, e3, e4, e5, e6, e7⟩ := h.1 rfl
        exact absurd ⟨e0, e1, e2, e3, e4, e5, e6, by rw [e7]⟩ hx
    subst hr
    clear h
    rcases (show sd ≠ td ∨ (sd = td ∧ so ≠ tz) ∨ (sd = td ∧ so = tz ∧ i0 ≠ j0) ∨ (sd = td ∧ so = tz ∧ i0 = j0 ∧ i1 ≠ j1) ∨ (sd = td ∧ so = tz ∧ i0 = j0 ∧ i1 = j1 ∧ i2 ≠ j2) ∨ (sd = td ∧ so = tz ∧ i0 = j0 ∧ i1 = j1 ∧ i2 = j2 ∧ i3 ≠ j3) ∨ (sd = td ∧ so = tz ∧ i0 = j0 ∧ i1 = j1 ∧ i2 = j2 ∧ i3 = j3 ∧ i4 ≠ j4) ∨ (sd = td ∧ so = tz ∧ i0 = j0 ∧ i1 = j1 ∧ i2 = j2 ∧ i3 = j3 ∧ i4 = j4 ∧ bl.length ≠ bm.length) by
      by_cases e0 : sd = td
      · by_cases e1 : so = tz
        · simp only [e0, e1, true_and, ne_eq, not_true_eq_false, false_or] at hx ⊢
          omega
        · exact .inr (.inl ⟨e0, e1⟩)
      · exact .inl e0) with e | ⟨rfl, e⟩ | ⟨rfl, rfl, e⟩ | ⟨rfl, rfl, rfl, e⟩ | ⟨rfl, rfl, rfl, rfl, e⟩ | ⟨rfl, rfl, rfl, rfl, rfl, e⟩ | ⟨rfl, rfl, rfl, rfl, rfl, rfl, e⟩ | ⟨rfl, rfl, rfl, rfl, rfl, rfl, rfl, e⟩
    · obtain rfl : td = !sd := by cases sd <;> cases td <;> simp_all
      clear hx e
      cases sd
      all_goals
        go_enter Try.func27, Try.ntmps27
        go_wp2_with fail
        exact HQ.out _ _ ⟨rfl, (below_alloc _).alloc (below_alloc _).size _⟩
    · have e' := num_ne1 e
      have e2 : ¬ ((so : Nat) : Int) = ((tz : Nat) : Int) := by omega
      clear hx e
      go_enter Try.func27, Try.ntmps27
      go_wp2_with fail
      exact HQ.out _ _ ⟨rfl, (below_alloc _).alloc (below_alloc _).size _⟩
    rotate_right
    · have e' : ((bl.length : Int) != (bm.length : Int)) = true := by simp; omega
      clear hx e
      go_enter Try.func27, Try.ntmps27
      go_wp2_with fail
      exact HQ.out _ _ ⟨rfl, (below_alloc _).alloc (below_alloc _).size _⟩
    all_goals
      clear hx
      go_enter Try.func27, Try.ntmps27
      go_wp2_with fail
      exact HQ.out _ _ ⟨rfl, (below_alloc _).alloc (below_alloc _).size _⟩
end Go.Proofs.Ytphofpemblindaa
