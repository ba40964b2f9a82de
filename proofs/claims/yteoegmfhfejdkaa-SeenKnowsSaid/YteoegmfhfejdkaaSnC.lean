/- The walks of seen's calls: below, First, raised, Mark, Has, Many. -/
import Derived.Test.YteoegmfhfejdkaaSn
import Derived.Test.YteoegmfhfejdkaaBField
import Derived.Test.YteoegmfhfejdkaaBLay
import Derived.Test.YteoegmfhfejdkaaFr
import Derived.Deep.RegionHeld3
import Derived.Deep.DeepCutAuto
import Derived.Deep.Heap
namespace Go.Proofs.Yteoegmfhfejdkaa
open Go.RowKit

/-- a number that may be -/
structure Nr (n : Int) : Prop where
  lo : -2305843009213693952 ≤ n
  hi : n ≤ 2305843009213693952
/-- a window as a value -/
def snV (h : Int) (b : Nat) : Value := .agg #[.int .i64 h, .int .u64 (b : Nat)]
theorem Nr.max {h n : Int} (hh : Nr h) (hn : Nr n) : Nr (Max.max h n) := ⟨by have := hh.lo; have := hn.lo; omega, by have := hh.hi; have := hn.hi; omega⟩
theorem nr_u64 {b : Nat} (h : b < 18446744073709551616) : U64 (b : Int) := ⟨by omega, by omega⟩
theorem belN_lo (h n : Int) : 0 ≤ belN h n := by unfold belN; split <;> omega
theorem belN_hi (h n : Int) : belN h n ≤ 64 := by unfold belN; split <;> omega
theorem bel_wrap (h n : Int) (hh : Nr h) (hn : Nr n) : wrap64 (min (IntKind.u64.wrap (wrap64 (h - n))) 64) = belN h n := by
  have := hh.lo; have := hh.hi; have := hn.lo; have := hn.hi
  unfold belN
  simp only [wrap_u64, wrap64]
  split <;> omega
theorem sbelow_any (h n : Int) (w : World) (hh : Nr h) (hn : Nr n) :
    Calls Try.prog 17 #[.int .i64 h, .int .i64 n] w fun e w' => e = .returned (.int .i64 (belN h n)) ∧ w' = w := by
  have hw := bel_wrap h n hh hn
  generalize belN h n = x at *
  have HW := Lib.hid hw
  clear hw
  refine calls_q fun Q HQ => ?_
  go_enter Try.func17, Try.ntmps17
  go_wp2_with fail
  · refine HQ.out _ _ ⟨ret_int ?_, rfl⟩
    rw [← HW.out, Int.min_eq_right (by omega)]
  · refine HQ.out _ _ ⟨ret_int ?_, rfl⟩
    rw [← HW.out, Int.min_eq_left (by omega)]
/-! ### a window's object -/
def snO (t : TypeId) (h : Int) (b : Nat) : Obj := .cells #[.int .i64 h, .int .u64 (b : Nat)] t
theorem snc {w : World} {k : Nat} {t : TypeId} {h : Int} {b : Nat} (hx : w.heap[k]? = some (snO t h b)) :
    w.cell? ⟨k, 0, none⟩ = some (.int .i64 h) ∧ w.cell? ⟨k, 1, none⟩ = some (.int .u64 (b : Nat)) ∧ w.frozen? ⟨k, 0, none⟩ = false ∧ w.frozen? ⟨k, 1, none⟩ = false :=
  ⟨by have := obj_cell hx 0; simpa using this, by have := obj_cell hx 1; simpa using this, obj_frozen hx 0, obj_frozen hx 1⟩
theorem sn1 {w : World} {k : Nat} {t : TypeId} {h : Int} {b : Nat} (hx : w.heap[k]? = some (snO t h b)) (b' : Nat) :
    (w.setCell ⟨k, 1, none⟩ (.int .u64 (b' : Nat))).heap[k]? = some (snO t h b') := by
  have := obj_set hx 1 (.int .u64 (b' : Nat))
  exact this
theorem sn2 {w : World} {k : Nat} {t : TypeId} {h : Int} {b : Nat} (hx : w.heap[k]? = some (snO t h b)) (h' : Int) (b' : Nat) (wf : World)
    (he : (w.setCell ⟨k, 0, none⟩ (.int .i64 h')).setCell ⟨k, 1, none⟩ (.int .u64 (b' : Nat)) = wf) : wf.heap[k]? = some (snO t h' b') ∧ Fr (F1 k) w wf := by
  subst he
  have h1 : (w.setCell ⟨k, 0, none⟩ (.int .i64 h')).heap[k]? = some (snO t h' b) := obj_set hx 0 (.int .i64 h')
  exact ⟨sn1 h1 b', (Fr.setCell w ⟨k, 0, none⟩ _).trans (Fr.setCell _ ⟨k, 1, none⟩ _) (fun _ h => Or.inl h)⟩
theorem sn_new (w : World) (t : TypeId) (h : Int) (b : Nat) : (w.alloc (snO t h b)).heap[w.heap.size]? = some (snO t h b) := Go.Deep.blk_alloc_new w _
theorem sfirst_any (n : Int) (w : World) :
    Calls Try.prog 14 #[.int .i64 n] w fun e w' => e = .returned (snV n 1) ∧ Below w.heap.size w w' := by
  refine calls_q fun Q HQ => ?_
  have hx := sn_new w 24 n 1
  have hb := below_alloc (w := w) (snO 24 n 1)
  obtain ⟨m0, m1, y0, y1⟩ := snc hx
  simp only [snO] at m0 m1 y0 y1 hb
  have HB := Lib.hid hb
  clear hx hb
  go_enter Try.func14, Try.ntmps14
  go_wp2_with fail
  refine bodyPost_ret (v := snV n 1) (by simp [results, Try.results14, go_sem, snV]; try rfl) rfl ?_
  exact HQ.out _ _ ⟨rfl, HB.out⟩
theorem smany_any (h : Int) (b : Nat) (w : World) (hb : b < 18446744073709551616) :
    Calls Try.prog 12 #[snV h b] w fun e w' => e = .returned (.int .i64 (manyB b : Nat)) ∧ Below w.heap.size w w' := by
  have hx := sn_new w 24 h b
  have hbl := below_alloc (w := w) (snO 24 h b)
  have HX := Lib.hid hx
  have HB := Lib.hid hbl
  clear hx hbl
  unfold snV
  refine calls_q fun Q HQ => ?_
  go_enter Try.func12, Try.ntmps12
  go_wp2_with fail
  go_loopw [3, 5] (fun o i wr => ∃ j : Nat, j ≤ 64 ∧ i = .int .i64 j ∧ o = .int .u64 ((List.range j).countP (fun k => b.testBit k) : Nat) ∧ wr.heap[w.heap.size]? = some (snO 24 h b) ∧ Below w.heap.size w wr) (fun _ i _ => 64 - (intOf i).toNat)
  case atStart => exact ⟨0, Nat.zero_le _, rfl, rfl, HX.out, HB.out⟩
  case round =>
    obtain ⟨j, hj, rfl, rfl, hx, hbl⟩ := hrel
    obtain ⟨m0, m1, y0, y1⟩ := snc hx
    by_cases hlt : j < 64
    · have hst := many_step b j
      have hle := many_le b j
      have hle2 := many_le b (j + 1)
      have hf := field_any b j 1 wr (nr_u64 hb)
      rw [Int.toNat_natCast, show fieldN b (j : Int) 1 = b / 2 ^ j % 2 by unfold fieldN; rw [if_pos (by rw [may_iff]; omega), Int.toNat_natCast]; rfl] at hf
      generalize b / 2 ^ j % 2 = x at *
      have HX := Lib.hid hx
      have HB := Lib.hid hbl
      have HF := Lib.hid hf
      have HS := Lib.hid hst
      generalize hc1 : (List.range (j + 1)).countP (fun k => b.testBit k) = c1 at *
      generalize (List.range j).countP (fun k => b.testBit k) = c0 at *
      have HC := Lib.hid hc1
      clear hc1
      clear hx hbl hf hst
      go_wp2_with fail
      refine HF.out.mono ?_
      rintro e w1 ⟨rfl, d, rfl⟩
      go_wp2_with fail
      go_roundw
      case rel =>
        refine ⟨j + 1, by omega, by go_num, ?_, HX.out, below_drewN HB.out d⟩
        have := HS.out
        rw [HC.out]
        congr 1
        rw [wrap_u64]; omega
      case measure => simp [intOf]; omega
    · have : j = 64 := by omega
      subst this
      have hle := many_le b 64
      have HB := Lib.hid hbl
      clear hx hbl
      unfold manyB at HQ
      generalize (List.range 64).countP (fun k => b.testBit k) = c0 at *
      go_wp2_with fail
      exact HQ.out _ _ ⟨rfl, HB.out⟩
theorem sraised_any (h n : Int) (b : Nat) (w : World) (hh : Nr h) (hn : Nr n) (hb : b < 18446744073709551616) (hlt : h < n) :
    Calls Try.prog 15 #[snV h b, .int .i64 n] w fun e w' => e = .returned (snV n (markB h b n)) ∧ Below w.heap.size w w' := by
  refine calls_q fun Q HQ => ?_
  have hx1 := sn_new w 24 h b
  have hx2 := sn_new (w.alloc (snO 24 h b)) 24 0 0
  have hb1 := (Fr.alloc w (snO 24 h b)).trans (Fr.alloc (w.alloc (snO 24 h b)) (snO 24 0 0)) (fun _ h => h.elim)
  have hx3 := (Fr.alloc (w.alloc (snO 24 h b)) (snO 24 0 0)).heap hx1 (fun h => h)
  have hm : markB h b n = layN 1 (belN n h) (64 - belN n h) b := by unfold markB; rw [if_pos hlt]
  rw [World.size_alloc] at hx2
  unfold snV
  have HX2 := Lib.hid hx2
  have HX3 := Lib.hid hx3
  have HB1 := Lib.hid hb1
  have HM := Lib.hid hm
  clear hx1 hx2 hx3 hb1 hm
  go_enter Try.func15, Try.ntmps15
  go_wp2_with fail
  generalize hwa : (w.alloc (Obj.cells #[Value.int IntKind.i64 h, Value.int IntKind.u64 (b : Nat)] 24)).alloc (Obj.cells #[Value.int IntKind.i64 0, Value.int IntKind.u64 0] 24) = wa
  have HX2 : Hid (wa.heap[w.heap.size + 1]? = some (snO 24 0 0)) := hwa ▸ HX2
  have HX3 : Hid (wa.heap[w.heap.size]? = some (snO 24 h b)) := hwa ▸ HX3
  have HB1 : Hid (Fr F0 w wa) := hwa ▸ HB1
  clear hwa
  refine (sfirst_any n wa).mono ?_
  rintro e w1 ⟨rfl, hb⟩
  unfold snV
  have HX2 := Lib.hid (show w1.heap[w.heap.size + 1]? = _ from (hb.block _ (obj_lt HX2.out)).trans HX2.out)
  have HX3 := Lib.hid (show w1.heap[w.heap.size]? = _ from (hb.block _ (obj_lt HX3.out)).trans HX3.out)
  have HB2 := Lib.hid (HB1.out.trans (Fr.of hb) (fun _ h => h.elim))
  clear hb HB1
  have HN := Lib.hid (sn_new w1 24 n 1)
  have HY2 := Lib.hid ((Fr.alloc w1 (snO 24 n 1)).heap HX2.out (fun h => h))
  have HY3 := Lib.hid ((Fr.alloc w1 (snO 24 n 1)).heap HX3.out (fun h => h))
  have HB3 := Lib.hid (HB2.out.trans (Fr.alloc w1 (snO 24 n 1)) (fun _ h => h.elim))
  have hlt := obj_lt HX2.out
  go_upto_region 2 with fail
  generalize hwb : w1.alloc (Obj.cells #[Value.int IntKind.i64 n, Value.int IntKind.u64 1] 24) = wb
  have HN : Hid (wb.heap[w1.heap.size]? = some (snO 24 n 1)) := hwb ▸ HN
  have HY2 : Hid (wb.heap[w.heap.size + 1]? = some (snO 24 0 0)) := hwb ▸ HY2
  have HY3 : Hid (wb.heap[w.heap.size]? = some (snO 24 h b)) := hwb ▸ HY3
  have HB3 : Hid (Fr F0 w wb) := hwb ▸ HB3
  clear hwb HX2 HX3 HB2
  have hlo := Lib.hid (show w.heap.size ≤ w1.heap.size by omega)
  generalize w1.heap.size = B1 at *
  obtain ⟨m0, m1, y0, y1⟩ := snc HN.out
  obtain ⟨k0, k1, _, _⟩ := snc HY3.out
  go_wp2_with fail
  refine (sbelow_any n h wb hn hh).mono ?_
  rintro e w2 ⟨rfl, rfl⟩
  have hb0 := belN_lo n h
  have hb1 := belN_hi n h
  have hl := lay_any 1 (belN n h) (64 - belN n h) b w2 ⟨by decide, by decide⟩ (nr_u64 hb)
  rw [Int.toNat_natCast, show (1 : Int).toNat = 1 from rfl, ← HM.out] at hl
  generalize belN n h = x at *
  have HL := Lib.hid hl
  clear hl
  go_wp2_with fail
  refine HL.out.mono ?_
  rintro e w3 ⟨rfl, rfl⟩
  generalize markB h b n = b' at *
  have HN1 := Lib.hid (sn1 HN.out b')
  have HF := Lib.hid (Fr.setCell w3 ⟨B1, 1, none⟩ (.int .u64 (b' : Nat)))
  have HY4 := Lib.hid (HF.out.heap HY2.out (fun h => by simp [F1] at h; omega))
  have HB4 := Lib.hid (HB3.out.below (Nat.le_refl _) (fun _ h => h.elim) |>.setCell (p := ⟨B1, 1, none⟩) hlo.out (.int .u64 (b' : Nat)))
  go_upto_region 4 with fail
  generalize w3.setCell ⟨B1, 1, none⟩ (.int .u64 (b' : Nat)) = w4 at *
  clear m0 m1 y0 y1 k0 k1 HN HY3 HY2 HB3 HF
  obtain ⟨m0, m1, y0, y1⟩ := snc HN1.out
  obtain ⟨q0, q1, z0, z1⟩ := snc HY4.out
  go_wp2_with fail
  generalize hW : World.setCell _ _ _ = wf
  obtain ⟨hx, hfx⟩ := sn2 HY4.out _ _ wf hW
  clear hW m0 m1 y0 y1 q0 q1 z0 z1
  obtain ⟨m0, m1, y0, y1⟩ := snc hx
  refine bodyPost_ret (v := snV n b') (by simp [results, Try.results15, go_sem, snV, m0, m1]; try rfl) rfl ?_
  exact HQ.out _ _ ⟨rfl, HB4.out.trans (hfx.below HB4.out.size (fun k (hk : k = _) => by omega))⟩
end Go.Proofs.Yteoegmfhfejdkaa
