/- The walk of extra.Bytes. -/
import Derived.Test.YtgcppknfigianaaExF
import Derived.Deep.Cut
namespace Go.Proofs.Ytgcppknfigianaa
open Go.RowKit

def ds (ts : List It) : List DI := ts.map It.d
theorem ds_snoc (ts : List It) (j : Nat) (h : j < ts.length) : ds (ts.take (j + 1)) = ds (ts.take j) ++ [ts[j].d] := by
  rw [List.take_succ_eq_append_getElem h, ds, ds, List.map_append]; rfl
theorem encs_step (ts : List It) (j : Nat) (h : j < ts.length) : encs (ds (ts.take (j + 1))) = encs (ds (ts.take j)) ++ encI ts[j].d := by rw [ds_snoc ts j h, encs_snoc]
theorem all_step (ts : List It) (j : Nat) (h : j < ts.length) (ha : (ds (ts.take j)).all rightI = true) (hr : rightI ts[j].d = true) : (ds (ts.take (j + 1))).all rightI = true := by
  rw [ds_snoc ts j h, List.all_append, ha]; simp [hr]
theorem all_not (ts : List It) (j : Nat) (h : j < ts.length) (hr : rightI ts[j].d = false) : (ds ts).all rightI = false := by
  rw [List.all_eq_false]
  exact ⟨ts[j].d, List.mem_map.2 ⟨_, List.getElem_mem h, rfl⟩, by simp [hr]⟩
theorem encs_le (l : List DI) (h : l.all rightI = true) : (encs l).length ≤ 17 * l.length := by
  induction l with
  | nil => simp [encs]
  | cons d l ih =>
    simp only [List.all_cons, Bool.and_eq_true, right_iffI] at h
    have := ih h.2
    rw [encs_cons, List.length_append, encI_len, List.length_cons]; omega
theorem ds_len (ts : List It) : (ds ts).length = ts.length := by simp [ds]
theorem encs_app (a b : List DI) : encs (a ++ b) = encs a ++ encs b := by simp [encs]
theorem encs_take (ts : List It) (j : Nat) : (encs (ds (ts.take j))).length ≤ (encs (ds ts)).length := by
  have : ds ts = ds (ts.take j) ++ ds (ts.drop j) := by rw [ds, ds, ds, ← List.map_append, List.take_append_drop]
  rw [this, encs_app, List.length_append]; omega
theorem own_bs_src {w : World} {A : Option Addr} {c : Nat} {l : List UInt8} (h : BS w (.slice A l.length c) l) : Src w A l.length (c8 l) := by
  obtain ⟨A', c', he, _, _, hr⟩ := h
  simp only [Value.slice.injEq] at he
  rw [he.1]; exact hr.src
theorem src_1 (w : World) (u : Value) (t : TypeId) : Src (w.alloc (.cells #[u] t)) (some ⟨w.heap.size, 0, none⟩) 1 [u] :=
  ⟨rfl, fun _ => ⟨_, rfl, new_cells w [u] t⟩⟩
def slen : Value → Nat
  | .slice _ n _ => n
  | _ => 0
/-- what Bytes answers -/
def byV (l : List DI) : List UInt8 := if exE l = 0 then exB l else []
theorem ex_not {l : List DI} (h : l.all rightI = false) : exE l = 1 ∧ byV l = [] := by
  have h1 : exE l = 1 := by rw [exE, if_neg (by rw [h]; decide)]
  exact ⟨h1, by rw [byV, if_neg (by rw [h1]; decide)]⟩
theorem ex_long {l : List DI} (h : l.all rightI = true) (h2 : 200 < (encs l).length) : exE l = 4 ∧ byV l = [] := by
  have h1 : exE l = 4 := by rw [exE, if_pos h, if_neg (by omega)]
  exact ⟨h1, by rw [byV, if_neg (by rw [h1]; decide)]⟩
theorem ex_ok {l : List DI} (h : l.all rightI = true) (h2 : (encs l).length ≤ 200) : exE l = 0 ∧ byV l = exB l := by
  have h1 : exE l = 0 := by rw [exE, if_pos h, if_pos h2]
  exact ⟨h1, by rw [byV, if_pos h1]⟩
set_option maxHeartbeats 1600000 in
theorem ibytes_any (v : Value) (ts : List It) (w : World) (h : ItS w v ts) (h40 : ts.length ≤ 40) :
    Calls Try.prog 6 #[v] w fun e w' => ∃ u, e = .returned (.tuple #[u, .int .i64 (exE (ds ts))]) ∧ BS w' u (byV (ds ts)) ∧ Below w.heap.size w w' := by
  have HT := Lib.hid h
  obtain ⟨A, c, rfl, hc, hcm, hA⟩ := h.parts
  have HA := Lib.hid hA
  clear h hA
  refine calls_q fun Q HQ => ?_
  go_enter Try.func6, Try.ntmps6
  go_wp2_with fail
  go_loopw [4, 12] (fun s i wr => ∃ j : Nat, j ≤ ts.length ∧ i = .int .i64 j ∧ s = .int .i64 ((encs (ds (ts.take j))).length : Nat) ∧ Below w.heap.size w wr ∧ (ds (ts.take j)).all rightI = true) (fun _ i _ => ts.length - (intOf i).toNat)
  case atStart => exact ⟨0, Nat.zero_le _, rfl, rfl, Below.refl _ _, rfl⟩
  case round =>
    obtain ⟨j, hj, rfl, rfl, hb, hall⟩ := hrel
    have HB := Lib.hid hb
    have HL := Lib.hid hall
    clear hb
    by_cases hlt : j < ts.length
    · obtain ⟨b, o, rfl, hbl⟩ := HA.out (by omega)
      obtain ⟨c0, c1⟩ := (HT.out.below HB.out).at j hlt
      have hbs := ((HT.out.2 _ (List.getElem_mem hlt)).b).below HB.out
      have hbl2 := Nat.lt_of_lt_of_le hbl HB.out.size
      have hle := encs_le _ hall
      rw [ds_len] at hle
      simp only [List.length_take, Nat.min_eq_left hj] at hle
      have hst := encs_step ts j hlt
      have hst2 := congrArg List.length hst
      rw [List.length_append, encI_len] at hst2
      have HAs := Lib.hid (all_step ts j hlt hall)
      have HAn := Lib.hid (all_not ts j hlt)
      have hd : ts[j].d = (ts[j].n, ts[j].b) := rfl
      rw [hd] at HAs HAn hst2
      clear hst hd hall
      generalize (encs (ds (List.take j ts))).length = sz at *
      have HS2 := Lib.hid hst2
      clear hst2
      generalize (ts[j]'hlt).n = n at *
      generalize (ts[j]'hlt).v = vv at *
      generalize (ts[j]'hlt).b = bb at *
      obtain ⟨A2, cc, rfl, _, hcm2, _⟩ := bs_parts hbs
      clear hbs
      have h0 : (0 : Int) ≤ (j : Int) := by omega
      have h1 : (j : Int) < (ts.length : Int) := by omega
      have hX := heap_alloc_new wr (.cells #[.int .u8 (n : Nat), .slice A2 bb.length cc] 37)
      have HX := Lib.hid hX
      clear hX
      go_wp2_with fail
      refine (iright_any n A2 cc bb _).mono ?_
      rintro r w2 ⟨rfl, hb⟩
      have hX2 := (Fr.of hb).heap HX.out (fun h => h)
      have c2 := obj_cell hX2 1
      simp only [List.getElem?_toArray, List.getElem?_cons_succ, List.getElem?_cons_zero] at c2
      have hb2 := (HB.out.alloc HB.out.size (.cells #[.int .u8 (n : Nat), .slice A2 bb.length cc] 37)).trans (hb.mono (by have := HB.out.size; simp; omega))
      have HB2 := Lib.hid hb2
      clear hb hb2 hX2
      by_cases hr : rightI (n, bb) = true
      · rw [hr]
        have hr2 := right_iffI.1 hr
        simp only at hr2
        have HY := Lib.hid (HAs.out hr)
        clear hr
        go_wp2_with fail
        go_roundw
        case rel => exact ⟨j + 1, by omega, by go_num, by have := HS2.out; go_num, HB2.out, HY.out⟩
        case measure => simp [intOf]; omega
      · have hr' : rightI (n, bb) = false := by simpa using hr
        rw [hr']
        have HY := Lib.hid (HAn.out hr')
        clear hr hr'
        obtain ⟨q1, q2⟩ := ex_not HY.out
        go_wp2_with fail
        exact HQ.out _ _ ⟨.slice none 0 0, by rw [q1]; rfl, by rw [q2]; exact BS.nil _, HB2.out⟩
    · have : j = ts.length := by omega
      subst this
      rw [List.take_length] at HL ⊢
      have hle := encs_le _ HL.out
      rw [ds_len] at hle
      by_cases h200 : 200 < (encs (ds ts)).length
      · obtain ⟨q1, q2⟩ := ex_long HL.out h200
        have HQ1 := Lib.hid q1
        have HQ2 := Lib.hid q2
        clear q1 q2
        generalize (encs (ds ts)).length = sz at *
        go_wp2_with fail
        exact HQ.out _ _ ⟨.slice none 0 0, by rw [HQ1.out]; rfl, by rw [HQ2.out]; exact BS.nil _, HB.out⟩
      · obtain ⟨q1, q2⟩ := ex_ok HL.out (by omega)
        have HQ1 := Lib.hid q1
        have HQ2 := Lib.hid q2
        have HLe := Lib.hid (show (encs (ds ts)).length ≤ 200 by omega)
        clear q1 q2
        have hg : (encs (ds ts)).length ≤ 200 := by omega
        generalize (encs (ds ts)).length = sz at hg h200 hle ⊢
        go_wp2_with fail
        go_loopw [7, 30] (fun u i wr' => ∃ j : Nat, j ≤ ts.length ∧ i = .int .i64 j ∧ Below w.heap.size w wr' ∧ wr'.ownsRow w.heap.size 5 1 u (encs (ds (ts.take j))).length (c8 (encs (ds (ts.take j))))) (fun _ i _ => ts.length - (intOf i).toNat)
        case atStart => exact ⟨0, Nat.zero_le _, rfl, HB.out, World.ownsRow_nil _ _ _ _⟩
        case round =>
          obtain ⟨j, hj, rfl, hb, ho⟩ := hrel
          have HB3 := Lib.hid hb
          have HO3 := Lib.hid ho
          clear hb ho
          by_cases hlt : j < ts.length
          · obtain ⟨b, o, rfl, hbl⟩ := HA.out (by omega)
            obtain ⟨c0, c1⟩ := (HT.out.below HB3.out).at j hlt
            have hbs := ((HT.out.2 _ (List.getElem_mem hlt)).b).below HB3.out
            have HBv := Lib.hid (fun w' (h : Below w.heap.size w w') => ((HT.out.2 _ (List.getElem_mem hlt)).b).below h)
            have hbl2 := Nat.lt_of_lt_of_le hbl HB3.out.size
            have hst := encs_step ts j hlt
            have hri := List.all_eq_true.1 HL.out ts[j].d (List.mem_map.2 ⟨_, List.getElem_mem hlt, rfl⟩)
            have hd : ts[j].d = (ts[j].n, ts[j].b) := rfl
            rw [hd] at hst hri
            have hr := right_iffI.1 hri
            simp only at hr
            have hle3 := Nat.le_trans (encs_take ts (j + 1)) HLe.out
            rw [hst, List.length_append, encI_len] at hle3
            simp only at hle3
            have HST := Lib.hid hst
            clear hst hri hd
            generalize (encs (ds (ts.take j))) = E at *
            generalize (ts[j]'hlt).n = n at *
            generalize (ts[j]'hlt).v = vv at *
            generalize (ts[j]'hlt).b = bb at *
            obtain ⟨A2, cc, rfl, _, hcm2, hrow⟩ := bs_parts hbs
            clear hbs hrow
            obtain ⟨x, hxx⟩ : ∃ x : Nat, x = 16 * n + (bb.length - 1) := ⟨_, rfl⟩
            have HXx := Lib.hid hxx
            clear hxx
            have h0 : (0 : Int) ≤ (j : Int) := by omega
            have h1 : (j : Int) < (ts.length : Int) := by omega
            go_wp2_with (at_builtin; refine wpl_app rfl _ _ 25 rfl w.heap.size 5 (.int .u8 0) 1 Try.underlying25 (by kernel_rfl) rfl _ E.length (c8 E) rfl ?d1 _ 1 1 [.int .u8 (x : Nat)] rfl ?d3 ?d4 ?d5 ?d6 ?d7 ?d8)
            case d1 => exact (Fr.alloc _ _).own ((Fr.alloc _ _).own HO3.out (fun _ _ h => h)) (fun _ _ h => h)
            case d3 =>
              have he : (16 * (n : Int) + ((bb.length : Int) - 1)) = (x : Nat) := by have := HXx.out; omega
              have hs := src_1 (wr.alloc (.cells #[.int .u8 (n : Nat), .slice A2 bb.length cc] 37)) (.int .u8 (x : Nat)) 5
              rw [World.size_alloc] at hs
              rw [he]; exact hs
            case d4 => intro u hu; simp at hu; subst hu; rfl
            case d5 => unfold maxLen; omega
            case d6 => omega
            case d7 => have := HB3.out.size; simp; omega
            case d8 =>
              intro v' w1 ho hg hk
              have hX := heap_alloc_new wr (.cells #[.int .u8 (n : Nat), .slice A2 bb.length cc] 37)
              have hX1 := (Fr.app hg).heap ((Fr.alloc _ (.cells #[.int .u8 (16 * (n : Int) + ((bb.length : Int) - 1))] 5)).heap hX (fun h => h)) (fun h => by have := (HO3.out.lt _ h.symm).2; omega)
              have k1 := obj_cell hX1 1
              simp only [List.getElem?_toArray, List.getElem?_cons_succ, List.getElem?_cons_zero] at k1
              have hb1 := ((HB3.out.alloc HB3.out.size (.cells #[.int .u8 (n : Nat), .slice A2 bb.length cc] 37)).alloc (by have := HB3.out.size; simp; omega) (.cells #[.int .u8 (16 * (n : Int) + ((bb.length : Int) - 1))] 5)).grown hg (by have := HB3.out.size; simp; omega) (fun k hk => (HO3.out.lt k hk).1)
              have HB1 := Lib.hid hb1
              have HO1 := Lib.hid ho
              clear hX hX1 hb1 ho hg hk c0 c1
              go_wp2_with (at_builtin; refine wpl_app rfl _ _ 25 rfl w.heap.size 5 (.int .u8 0) 1 Try.underlying25 (by kernel_rfl) rfl _ _ _ rfl HO1.out _ bb.length _ (c8 bb) rfl ?e3 (c8_one _) ?e5 ?e6 ?e7 ?e8)
              case e3 => exact (own_bs_src (HBv.out _ HB1.out))
              case e5 => unfold maxLen; omega
              case e6 => omega
              case e7 => exact HB1.out.size
              case e8 =>
                intro v'' w3 ho hg hk
                have hb3 := HB1.out.grown hg HB1.out.size (fun k hk => (HO1.out.lt k hk).1)
                have HB4 := Lib.hid hb3
                have ho2 : w3.ownsRow w.heap.size 5 1 v'' (encs (ds (List.take (j + 1) ts))).length (c8 (encs (ds (List.take (j + 1) ts)))) := by
                  rw [HST.out]
                  have e1 : c8 (E ++ encI (n, bb)) = c8 E ++ Value.int .u8 (x : Nat) :: c8 bb := by
                    rw [c8_app, encI, c8, c8, c8]
                    simp only [List.map_cons, byte1 n (bb.length - 1) hr.2.1 (by omega), HXx.out]
                  have e2 : (E ++ encI (n, bb)).length = E.length + 1 + bb.length := by rw [List.length_append, encI_len]; simp only; omega
                  rw [e1, e2]; exact ho
                have HO4 := Lib.hid ho2
                clear hb3 ho ho2 hg hk
                go_wp2_with fail
                go_roundw
                case rel => exact ⟨j + 1, by omega, by go_num, HB4.out, HO4.out⟩
                case measure => simp [intOf]; omega
          · have : j = ts.length := by omega
            subst this
            rw [List.take_length] at HO3
            generalize hEl : encs (ds ts) = E at *
            have HEl := Lib.hid hEl
            clear hEl
            go_upto_region 18 with fail
            go_loopw [7] (fun u wr' => ∃ k m : Nat, k ≤ padN E.length ∧ m = E.length + k ∧ Below w.heap.size w wr' ∧ wr'.ownsRow w.heap.size 5 1 u m (c8 (E ++ zeros k))) (fun u _ => E.length + 4 - slen u)
            case atStart => exact ⟨0, _, Nat.zero_le _, rfl, HB3.out, by simpa [zeros] using HO3.out⟩
            case round =>
              obtain ⟨k, m, hk, hm, hb, ho⟩ := hrel
              obtain ⟨Au, cu, rfl⟩ := own_slice ho
              have HBk := Lib.hid hb
              have HOk := Lib.hid ho
              have hEl := HLe.out
              clear hb ho
              by_cases hkp : k = padN E.length
              · have h4 : (((m : Int) % 4) != 0) = false := by
                  have : m % 4 = 0 := by rw [hm, hkp, padN]; omega
                  simp; omega
                have HM := Lib.hid hm
                clear hm hk
                subst hkp
                go_wp2_with fail
                refine HQ.out _ _ ⟨.slice Au m cu, by rw [HQ1.out]; rfl, ?_, HBk.out⟩
                rw [HQ2.out, exB, HEl.out]
                exact own_bs HOk.out
              · have hk4 : m ≤ E.length + 3 ∧ m % 4 ≠ 0 := by rw [padN] at hk hkp; omega
                have h4 : (((m : Int) % 4) != 0) = true := by simp; omega
                have HM := Lib.hid hm
                have HK := Lib.hid (show k + 1 ≤ padN E.length by omega)
                clear hm hk hkp
                go_upto_region 19 with fail
                go_wp2_with (at_builtin; refine wpl_app rfl _ _ 25 rfl w.heap.size 5 (.int .u8 0) 1 Try.underlying25 (by kernel_rfl) rfl _ m (c8 (E ++ zeros k)) rfl ?f1 _ 1 1 (c8 [0]) rfl ?f3 (c8_one _) ?f5 ?f6 ?f7 ?f8)
                case f1 => exact (Fr.alloc _ _).own HOk.out (fun _ _ h => h)
                case f3 => exact src_1 wr (.int .u8 0) 5
                case f5 => unfold maxLen; omega
                case f6 => omega
                case f7 => have := HBk.out.size; simp; omega
                case f8 =>
                  intro v' w1 ho hg _
                  have hb1 := (HBk.out.alloc HBk.out.size (.cells #[.int .u8 0] 5)).grown hg (by have := HBk.out.size; simp; omega) (fun k hk => (HOk.out.lt k hk).1)
                  rw [← c8_app, List.append_assoc, zeros_snoc] at ho
                  obtain ⟨A1, c1, rfl⟩ := own_slice ho
                  have HB1 := Lib.hid hb1
                  have HO1 := Lib.hid ho
                  clear hb1 ho hg
                  go_wp2_with fail
                  go_roundw
                  case rel => exact ⟨k + 1, _, HK.out, by have := HM.out; omega, HB1.out, HO1.out⟩
                  case measure => simp [slen]; omega
end Go.Proofs.Ytgcppknfigianaa
