/- The walk of chunk.Join. -/
import Derived.Test.YtjohjilfmhgdnaaCkF
import Derived.Test.YtjohjilfmhgdnaaCkW
namespace Go.Proofs.Ytjohjilfmhgdnaa
open Go.RowKit

/-- what Join answers -/
def JoPost (w : World) (l : List DC) (e : Ending) (w' : World) : Prop := ∃ u, e = .returned (.tuple #[u, .int .i64 (joE l)]) ∧ BS w' u (joB l) ∧ Below w.heap.size w w'
set_option maxHeartbeats 1600000 in
theorem cjoin_any (v : Value) (ts : List Ck) (w : World) (h : CkS w v ts) (hm : ts.length ≤ 1000) (hm2 : ∀ t ∈ ts, t.b.length ≤ 1000) :
    Calls Try.prog 7 #[v] w (JoPost w (ds ts)) := by
  have HT := Lib.hid h
  have HM := Lib.hid hm2
  obtain ⟨A, c, rfl, hc, hcm, hA⟩ := h.parts
  have HA := Lib.hid hA
  clear h hA hm2
  refine calls_q fun Q HQ => ?_
  unfold JoPost at HQ
  go_enter Try.func7, Try.ntmps7
  go_wp2_with fail
  go_loopw [4, 12] (fun s i wr => ∃ j : Nat, j ≤ ts.length ∧ i = .int .i64 j ∧ s = .int .i64 ((encs (ds (ts.take j))).length : Nat) ∧ Below w.heap.size w wr ∧ (ds (ts.take j)).all rightC = true) (fun _ i _ => ts.length - (intOf i).toNat)
  case atStart => exact ⟨0, Nat.zero_le _, rfl, rfl, Below.refl _ _, rfl⟩
  case round =>
    obtain ⟨j, hj, rfl, rfl, hb, hall⟩ := hrel
    have HB := Lib.hid hb
    have HL := Lib.hid hall
    clear hb
    by_cases hlt : j < ts.length
    · obtain ⟨b, o, rfl, hbl⟩ := HA.out (by omega)
      obtain ⟨c0, c1, c2⟩ := (HT.out.below HB.out).at j hlt
      have hbs := ((HT.out.2 _ (List.getElem_mem hlt)).b).below HB.out
      have hb1000 := HM.out _ (List.getElem_mem hlt)
      have hbl2 := Nat.lt_of_lt_of_le hbl HB.out.size
      have hle := encs_le _ hall
      rw [ds_len] at hle
      simp only [List.length_take, Nat.min_eq_left hj] at hle
      have hst := encs_step ts j hlt
      have hst2 := congrArg List.length hst
      rw [List.length_append, encC_len] at hst2
      have HAs := Lib.hid (all_step ts j hlt hall)
      have HAn := Lib.hid (all_not ts j hlt)
      have hd : ts[j].d = (ts[j].n, ts[j].y, ts[j].b) := rfl
      rw [hd] at HAs HAn hst2
      clear hst hd hall
      generalize (encs (ds (List.take j ts))).length = sz at *
      have HS2 := Lib.hid hst2
      clear hst2
      generalize (ts[j]'hlt).n = n at *
      generalize (ts[j]'hlt).y = y at *
      generalize (ts[j]'hlt).v = vv at *
      generalize (ts[j]'hlt).b = bb at *
      obtain ⟨A2, cc, rfl, _, hcm2, _⟩ := bs_parts hbs
      clear hbs
      have h0 : (0 : Int) ≤ (j : Int) := by omega
      have h1 : (j : Int) < (ts.length : Int) := by omega
      have hX := heap_alloc_new wr (.cells #[.int .u8 (n : Nat), .int .u8 (y : Nat), .slice A2 bb.length cc] 37)
      have HX := Lib.hid hX
      clear hX
      go_wp2_with fail
      refine (cright_any n y A2 cc bb _ (by omega)).mono ?_
      rintro r w2 ⟨rfl, hb⟩
      have hX2 := (Fr.of hb).heap HX.out (fun h => h)
      have m0 := obj_cell hX2 0
      have m1 := obj_cell hX2 1
      have m2 := obj_cell hX2 2
      simp only [List.getElem?_toArray, List.getElem?_cons_succ, List.getElem?_cons_zero] at m0 m1 m2
      have hb2 := (HB.out.alloc HB.out.size (.cells #[.int .u8 (n : Nat), .int .u8 (y : Nat), .slice A2 bb.length cc] 37)).trans (hb.mono (by have := HB.out.size; simp; omega))
      have HB2 := Lib.hid hb2
      clear hb hb2 hX2
      by_cases hr : rightC (n, y, bb) = true
      · rw [hr]
        have hr2 := right_iffC.1 hr
        simp only at hr2
        have HY := Lib.hid (HAs.out hr)
        clear hr
        go_wp2_with fail
        refine (csize_any n y A2 cc bb _ (by omega)).mono ?_
        rintro r w3 ⟨rfl, hb⟩
        have HB3 := Lib.hid (HB2.out.trans (hb.mono HB2.out.size))
        clear hb
        go_wp2_with fail
        go_roundw
        case rel => exact ⟨j + 1, by omega, by go_num, by have := HS2.out; go_num, HB3.out, HY.out⟩
        case measure => simp [intOf]; omega
      · have hr' : rightC (n, y, bb) = false := by simpa using hr
        rw [hr']
        have HY := Lib.hid (HAn.out hr')
        clear hr hr'
        obtain ⟨q1, q2⟩ := jo_not HY.out
        go_wp2_with fail
        exact HQ.out _ _ ⟨.slice none 0 0, by rw [q1]; rfl, by rw [q2]; exact BS.nil _, HB2.out⟩
    · have : j = ts.length := by omega
      subst this
      rw [List.take_length] at HL ⊢
      have hle := encs_le _ HL.out
      rw [ds_len] at hle
      by_cases h200 : 200 < (encs (ds ts)).length
      · obtain ⟨q1, q2⟩ := jo_long HL.out h200
        have HQ1 := Lib.hid q1
        have HQ2 := Lib.hid q2
        clear q1 q2
        generalize (encs (ds ts)).length = sz at *
        go_wp2_with fail
        exact HQ.out _ _ ⟨.slice none 0 0, by rw [HQ1.out]; rfl, by rw [HQ2.out]; exact BS.nil _, HB.out⟩
      · obtain ⟨q1, q2⟩ := jo_ok HL.out (by omega)
        have HQ1 := Lib.hid q1
        have HQ2 := Lib.hid q2
        have HLe := Lib.hid (show (encs (ds ts)).length ≤ 200 by omega)
        clear q1 q2
        have hg : (encs (ds ts)).length ≤ 200 := by omega
        generalize (encs (ds ts)).length = sz at hg h200 hle ⊢
        go_wp2_with fail
        have HW0 := Lib.hid (wr_new wr)
        have HBw := Lib.hid (HB.out.alloc HB.out.size (.cells #[.slice none 0 0] 47))
        have HSz := Lib.hid HB.out.size
        clear HB
        generalize wr.alloc (.cells #[.slice none 0 0] 47) = wb at *
        generalize wr.heap.size = pb at *
        go_loopw [28] (fun i wr' => ∃ (j : Nat) (ob : Option Nat), j ≤ ts.length ∧ i = .int .i64 j ∧ Below w.heap.size w wr' ∧ Wr pb wr' pb ob (encs (ds (ts.take j)))) (fun i _ => ts.length - (intOf i).toNat)
        case atStart => exact ⟨0, none, Nat.zero_le _, rfl, HBw.out, HW0.out⟩
        case round =>
          obtain ⟨j, ob, hj, rfl, hb, ho⟩ := hrel
          have HB3 := Lib.hid hb
          have HO3 := Lib.hid ho
          clear hb ho
          by_cases hlt : j < ts.length
          · obtain ⟨b, o, rfl, hbl⟩ := HA.out (by omega)
            obtain ⟨c0, c1, c2⟩ := (HT.out.below HB3.out).at j hlt
            have hbs := ((HT.out.2 _ (List.getElem_mem hlt)).b).below HB3.out
            have hbx0 := (((HT.out.2 _ (List.getElem_mem hlt)).b).x.mono (G' := fun k => k < pb) (fun k hk _ => by have := HSz.out; omega)).fr (Fr.of HB3.out) (fun _ _ _ h => h)
            have hyl := (HT.out.2 _ (List.getElem_mem hlt)).y
            have hbl2 := Nat.lt_of_lt_of_le hbl HB3.out.size
            have hst := encs_step ts j hlt
            have hri := List.all_eq_true.1 HL.out ts[j].d (List.mem_map.2 ⟨_, List.getElem_mem hlt, rfl⟩)
            have hd : ts[j].d = (ts[j].n, ts[j].y, ts[j].b) := rfl
            rw [hd] at hst hri
            have hle3 := Nat.le_trans (encs_take ts j) HLe.out
            have HST := Lib.hid hst
            have HRi := Lib.hid hri
            clear hst hri hd
            generalize (encs (ds (ts.take j))) = E at *
            generalize (ts[j]'hlt).n = n at *
            generalize (ts[j]'hlt).y = y at *
            generalize (ts[j]'hlt).v = vv at *
            generalize (ts[j]'hlt).b = bb at *
            obtain ⟨A2, cc, rfl, _, hcm2, hrow⟩ := bs_parts hbs
            have HBx := Lib.hid (hbx0.fr (Fr.alloc wr (.cells #[.int .u8 (n : Nat), .int .u8 (y : Nat), .slice A2 bb.length cc] 37)) (fun _ _ _ h => h))
            have HO4 := Lib.hid (HO3.out.fr0 (Fr.alloc wr (.cells #[.int .u8 (n : Nat), .int .u8 (y : Nat), .slice A2 bb.length cc] 37)))
            have HB4 := Lib.hid (HB3.out.alloc HB3.out.size (.cells #[.int .u8 (n : Nat), .int .u8 (y : Nat), .slice A2 bb.length cc] 37))
            clear hbs hrow hbx0
            have h0 : (0 : Int) ≤ (j : Int) := by omega
            have h1 : (j : Int) < (ts.length : Int) := by omega
            go_wp2_with fail
            refine (cwrite_any pb pb ob E n y A2 cc bb _ HO4.out HBx.out HRi.out hyl (by omega)).mono ?_
            rintro r w3 ⟨rfl, hp⟩
            obtain ⟨ob', hw', hf', _⟩ := hp
            have hb5 := HB4.out.trans (hf'.below HB4.out.size (fun k hk => by have := (HO4.out.lt k hk).1; have := HSz.out; omega))
            rw [← HST.out] at hw'
            have HW5 := Lib.hid hw'
            have HB5 := Lib.hid hb5
            clear hw' hb5 hf'
            go_wp2_with fail
            go_roundw
            case rel => exact ⟨j + 1, ob', by omega, by go_num, HB5.out, HW5.out⟩
            case measure => simp [intOf]; omega
          · have : j = ts.length := by omega
            subst this
            rw [List.take_length] at HO3
            go_wp2_with fail
            refine (wbytes_any pb pb ob _ wr HO3.out (by have := HLe.out; omega)).mono ?_
            rintro r w3 ⟨u, rfl, hu, hb⟩
            have hbs := own_bs hu
            rw [← HQ2.out] at hbs
            have HU := Lib.hid hbs
            have HB5 := Lib.hid (HB3.out.trans (hb.mono HB3.out.size))
            clear hu hb hbs
            go_wp2_with fail
            exact HQ.out _ _ ⟨u, by rw [HQ1.out]; rfl, HU.out, HB5.out⟩
end Go.Proofs.Ytjohjilfmhgdnaa
