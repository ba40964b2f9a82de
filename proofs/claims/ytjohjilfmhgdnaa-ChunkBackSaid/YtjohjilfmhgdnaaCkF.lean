/- The walks of large, Right, size and own. -/
import Derived.Test.YtjohjilfmhgdnaaCk
namespace Go.Proofs.Ytjohjilfmhgdnaa
open Go.RowKit

set_option maxHeartbeats 400000 in
theorem clarge_any (v : Value) (ts : List Ck) (w : World) (h : CkS w v ts) :
    Calls Try.prog 5 #[v] w fun e w' => e = .returned (.bool (!fewC ts)) ∧ Below w.heap.size w w' := by
  have HT := Lib.hid h
  obtain ⟨A, c, rfl, hc, hcm, hA⟩ := h.parts
  have HA := Lib.hid hA
  clear h hA
  refine calls_q fun Q HQ => ?_
  by_cases h60 : (60 : Int) < (ts.length : Int)
  · go_enter Try.func5, Try.ntmps5
    go_wp2_with fail
    refine HQ.out _ _ ⟨ret_bool ?_, Below.refl _ _⟩
    simp [fewC]; omega
  · go_enter Try.func5, Try.ntmps5
    go_wp2_with fail
    go_loopw [10] (fun i wr => ∃ j : Nat, j ≤ ts.length ∧ i = .int .i64 j ∧ Below w.heap.size w wr ∧ (∀ k (h : k < ts.length), k < j → ts[k].b.length ≤ 400)) (fun i _ => ts.length - (intOf i).toNat)
    case atStart => exact ⟨0, Nat.zero_le _, rfl, Below.refl _ _, fun k _ hk => by omega⟩
    case round =>
      obtain ⟨j, hj, rfl, hb, hall⟩ := hrel
      have HB := Lib.hid hb
      have HL := Lib.hid hall
      clear hb hall
      by_cases hlt : j < ts.length
      · obtain ⟨b, o, rfl, hbl⟩ := HA.out (by omega)
        obtain ⟨c0, c1, c2⟩ := (HT.out.below HB.out).at j hlt
        have hbs := ((HT.out.2 _ (List.getElem_mem hlt)).b).below HB.out
        have hbl2 := Nat.lt_of_lt_of_le hbl HB.out.size
        obtain ⟨A2, cc, hv, _, hcm2, _⟩ := bs_parts hbs
        rw [hv] at c2
        clear hbs hv
        have h0 : (0 : Int) ≤ (j : Int) := by omega
        have h1 : (j : Int) < (ts.length : Int) := by omega
        by_cases h400 : (400 : Int) < (ts[j].b.length : Int)
        · go_wp2_with fail
          refine HQ.out _ _ ⟨ret_bool ?_, HB.out.alloc HB.out.size _⟩
          have hm := List.getElem_mem hlt
          symm
          simp only [fewC, Bool.not_eq_true', Bool.and_eq_false_iff, List.all_eq_false]
          exact .inr ⟨_, hm, by simp; omega⟩
        · go_wp2_with fail
          go_roundw
          case rel =>
            refine ⟨j + 1, by omega, by go_num, HB.out.alloc HB.out.size _, fun k hk hkj => ?_⟩
            by_cases hkj2 : k = j
            · subst hkj2; omega
            · exact HL.out k hk (by omega)
          case measure => simp [intOf]; omega
      · have : j = ts.length := by omega
        subst this
        go_wp2_with fail
        refine HQ.out _ _ ⟨ret_bool ?_, HB.out⟩
        symm
        simp only [fewC, Bool.not_eq_false', Bool.and_eq_true, List.all_eq_true, decide_eq_true_eq]
        refine ⟨by omega, fun t ht => ?_⟩
        obtain ⟨k, hk, rfl⟩ := List.getElem_of_mem ht
        exact HL.out k hk hk
theorem clarge_is {r : Bool} (v : Value) (ts : List Ck) (w : World) (h : CkS w v ts) (hr : fewC ts = !r) :
    Calls Try.prog 5 #[v] w fun e w' => e = .returned (.bool r) ∧ Below w.heap.size w w' := by
  have := clarge_any v ts w h
  rw [hr, Bool.not_not] at this
  exact this
set_option maxHeartbeats 400000 in
theorem csize_any (n y : Nat) (A : Option Addr) (c : Nat) (b : List UInt8) (w : World) (hb : b.length ≤ 9223372036854775000) :
    Calls Try.prog 16 #[.agg #[.int .u8 (n : Nat), .int .u8 (y : Nat), .slice A b.length c]] w fun e w' => e = .returned (.int .i64 (4 + b.length : Nat)) ∧ Below w.heap.size w w' := by
  refine calls_q fun Q HQ => ?_
  go_enter Try.func16, Try.ntmps16
  go_wp2_with fail
  exact HQ.out _ _ ⟨ret_int (by omega), below_alloc _⟩
set_option maxHeartbeats 400000 in
theorem cright_any (n y : Nat) (A : Option Addr) (c : Nat) (b : List UInt8) (w : World) (hb : b.length ≤ 9223372036854775000) :
    Calls Try.prog 11 #[.agg #[.int .u8 (n : Nat), .int .u8 (y : Nat), .slice A b.length c]] w fun e w' => e = .returned (.bool (rightC (n, y, b))) ∧ Below w.heap.size w w' := by
  have HS := Lib.hid (fun w => csize_any n y A c b w hb)
  refine calls_q fun Q HQ => ?_
  by_cases h31 : (n : Int) ≤ 31
  · by_cases h4 : (b.length : Int) % 4 = 0
    · go_enter Try.func11, Try.ntmps11
      go_wp2_with fail
      refine (HS.out _).mono ?_
      rintro e w1 ⟨rfl, hb1⟩
      have HB := Lib.hid ((below_alloc (w := w) (.cells #[.int .u8 (n : Nat), .int .u8 (y : Nat), .slice A b.length c] 37)).trans (hb1.mono (by simp)))
      clear hb1
      go_wp2_with fail
      all_goals (refine HQ.out _ _ ⟨ret_bool ?_, HB.out⟩; rw [rightC, Bool.eq_iff_iff]; simp; try omega)
    · go_enter Try.func11, Try.ntmps11
      go_wp2_with fail
      refine HQ.out _ _ ⟨ret_bool ?_, below_alloc _⟩
      rw [rightC, Bool.eq_iff_iff]; simp; omega
  · go_enter Try.func11, Try.ntmps11
    go_wp2_with fail
    refine HQ.out _ _ ⟨ret_bool ?_, below_alloc _⟩
    rw [rightC, Bool.eq_iff_iff]; simp; omega
set_option maxHeartbeats 800000 in
theorem cown_any (v : Value) (ts : List Ck) (w : World) (h : CkS w v ts) (h60 : ts.length ≤ 1000) :
    Calls Try.prog 10 #[v] w fun e w' => ∃ u, e = .returned u ∧ CkS w' u ts ∧ Below w.heap.size w w' := by
  have HT := Lib.hid h
  obtain ⟨A, c, rfl, hc, hcm, hA⟩ := h.parts
  have HA := Lib.hid hA
  clear h hA
  refine calls_q fun Q HQ => ?_
  go_enter Try.func10, Try.ntmps10
  go_wp2_with fail
  go_loopw [3, 9] (fun u i wr => ∃ j : Nat, j ≤ ts.length ∧ i = .int .i64 j ∧ Below w.heap.size w wr ∧ wr.ownsRow w.heap.size 38 3 u j (cellsC (ts.take j))) (fun _ i _ => ts.length - (intOf i).toNat)
  case atStart => exact ⟨0, Nat.zero_le _, rfl, below_alloc _, own_newk _ _ _ _ (Nat.le_refl _)⟩
  case round =>
    obtain ⟨j, hj, rfl, hb, ho⟩ := hrel
    have HB := Lib.hid hb
    have HO := Lib.hid ho
    clear hb ho
    by_cases hlt : j < ts.length
    · obtain ⟨b, o, rfl, hbl⟩ := HA.out (by omega)
      obtain ⟨c0, c1, c2⟩ := (HT.out.below HB.out).at j hlt
      have hbs := ((HT.out.2 _ (List.getElem_mem hlt)).b).below HB.out
      have hbl2 := Nat.lt_of_lt_of_le hbl HB.out.size
      obtain ⟨A2, cc, hv, _, hcm2, _⟩ := bs_parts hbs
      have hrow : ts[j].row = [.int .u8 (ts[j].n : Nat), .int .u8 (ts[j].y : Nat), .slice A2 ts[j].b.length cc] := by rw [Ck.row, hv]
      have HRw := Lib.hid hrow
      rw [hv] at c2
      clear hbs hv hrow
      have h0 : (0 : Int) ≤ (j : Int) := by omega
      have h1 : (j : Int) < (ts.length : Int) := by omega
      go_wp2_with (at_builtin; refine wpl_appk rfl _ _ 33 rfl w.heap.size 38 (.agg #[.int .u8 0, .int .u8 0, .slice none 0 0]) 3 32 Try.underlying33 (by kernel_rfl) rfl (by decide) _ j (cellsC (ts.take j)) rfl ?c1 _ 1 1 ts[j].row rfl rfl ?c2 ?c3 ?c4 ?c5 ?c6 ?c7)
      case c1 => exact (Fr.alloc _ _).own ((Fr.alloc _ _).own HO.out (fun _ _ h => h)) (fun _ _ h => h)
      case c2 => rw [HRw.out]; have := new_cells (wr.alloc (.cells #[.int .u8 (ts[j].n : Nat), .int .u8 (ts[j].y : Nat), .slice A2 ts[j].b.length cc] 37)) [.int .u8 (ts[j].n : Nat), .int .u8 (ts[j].y : Nat), .slice A2 ts[j].b.length cc] 38; simpa using this
      case c3 => rw [HRw.out]; intro u hu; simp at hu; rcases hu with rfl | rfl | rfl <;> rfl
      case c4 => unfold maxLen; omega
      case c5 => omega
      case c6 => have := HB.out.size; simp; omega
      case c7 =>
        intro v' w1 ho hg _
        have hb1 := ((HB.out.alloc HB.out.size (.cells #[.int .u8 (ts[j].n : Nat), .int .u8 (ts[j].y : Nat), .slice A2 ts[j].b.length cc] 37)).alloc (by have := HB.out.size; simp; omega) (.cells #[.int .u8 (ts[j].n : Nat), .int .u8 (ts[j].y : Nat), .slice A2 ts[j].b.length cc] 38)).grown hg (by have := HB.out.size; simp; omega) (fun k hk => (HO.out.lt k hk).1)
        rw [cellsC_snoc, ← List.take_succ_eq_append_getElem hlt] at ho
        have HB1 := Lib.hid hb1
        have HO1 := Lib.hid ho
        clear hb1 ho hg
        go_wp2_with fail
        go_roundw
        case rel => exact ⟨j + 1, by omega, by go_num, HB1.out, HO1.out⟩
        case measure => simp [intOf]; omega
    · have : j = ts.length := by omega
      subst this
      go_wp2_with fail
      have hi := own_chunks (by simp) HO.out (by rw [List.take_length]; exact fun t ht => ⟨(HT.out.2 t ht).n, (HT.out.2 t ht).y, (HT.out.2 t ht).b.below HB.out⟩)
      rw [List.take_length] at hi
      exact HQ.out _ _ ⟨_, rfl, hi, HB.out⟩
end Go.Proofs.Ytjohjilfmhgdnaa
