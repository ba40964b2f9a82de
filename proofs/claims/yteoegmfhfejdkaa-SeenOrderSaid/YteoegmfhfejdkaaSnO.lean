/- The walk of SeenOrder. -/
import Derived.Test.YteoegmfhfejdkaaSnA
import Derived.Test.YteoegmfhfejdkaaSnOp
namespace Go.Proofs.Yteoegmfhfejdkaa
open Go.RowKit
theorem omay_of {n h : Int} {b : Nat} (H : mayW n h b = true) : Nr n ∧ Nr h ∧ b % 2 = 1 := by
  unfold mayW at H
  rw [decide_eq_true_eq] at H
  exact ⟨⟨H.1, H.2.1⟩, ⟨H.2.2.1, H.2.2.2.1⟩, H.2.2.2.2⟩
theorem max_swap (h n m : Int) : max (max h m) n = max (max h n) m := by omega
theorem know2 {h n m : Int} {b : Nat} (x : Int) :
    knowB (max (max h n) m) (markB (max h n) (markB h b n) m) x = (decide (max (max h n) m - x < 64) && (decide (x = m) || (decide (x = n) || knowB h b x))) := by
  rw [mark_know, mark_know]
  by_cases c : max (max h n) m - x < 64
  · rw [decide_eq_true c, decide_eq_true (p := max h n - x < 64) (by omega), Bool.true_and, Bool.true_and, Bool.true_and]
  · rw [decide_eq_false c, Bool.false_and, Bool.false_and]
theorem mark_comm {h n m : Int} {b : Nat} (hb : b < 18446744073709551616) :
    markB (max h m) (markB h b m) n = markB (max h n) (markB h b n) m := by
  refine know_ext (h := max (max h n) m) (markB_lt (markB_lt hb)) (markB_lt (markB_lt hb)) fun x => ?_
  have h1 := know2 (h := h) (n := n) (m := m) (b := b) x
  have h2 := know2 (h := h) (n := m) (m := n) (b := b) x
  rw [max_swap] at h2
  rw [h1, h2]
  cases decide (x = m) <;> cases decide (x = n) <;> rfl
theorem mark_id {h n : Int} {b : Nat} (hb : b < 18446744073709551616) (hn : n ≤ h) (hk : h - n < 64 → knowB h b n = true) : markB h b n = b := by
  by_cases c : h - n < 64
  · have := mark_same hb hn c
    rw [hk c] at this
    simpa using this
  · unfold markB belN
    rw [if_neg (by omega), if_neg (by omega), layN, if_neg (by rw [may_iff]; omega)]
/-- a window beside two that are the same -/
structure W3 (w : World) (h : Int) (b : Nat) (k1 k2 : Nat) (H : Int) (A : Nat) (w' : World) : Prop where
  bel : Below w.heap.size w w'
  o0 : w'.heap[w.heap.size]? = some (snO 24 h b)
  o1 : w'.heap[k1]? = some (snO 24 H A)
  o2 : w'.heap[k2]? = some (snO 24 H A)
theorem W3.after {w w' w2 : World} {h H : Int} {b A k1 k2 : Nat} (S : W3 w h b k1 k2 H A w') (hb : Below w'.heap.size w' w2) : W3 w h b k1 k2 H A w2 :=
  ⟨S.bel.trans (hb.mono S.bel.size), (hb.block _ (obj_lt S.o0)).trans S.o0, (hb.block _ (obj_lt S.o1)).trans S.o1, (hb.block _ (obj_lt S.o2)).trans S.o2⟩
theorem W3.drew {w w' : World} {h H : Int} {b A k1 k2 : Nat} (S : W3 w h b k1 k2 H A w') : W3 w h b k1 k2 H A w'.drew := ⟨S.bel.drew, S.o0, S.o1, S.o2⟩
theorem W3.cells {w w' : World} {h H : Int} {b A k1 k2 : Nat} (S : W3 w h b k1 k2 H A w') :
    W3 w h b k1 k2 H A w' ∧ w'.cell? ⟨w.heap.size, 0, none⟩ = some (.int .i64 h) ∧ w'.cell? ⟨w.heap.size, 1, none⟩ = some (.int .u64 (b : Nat)) ∧
      w'.cell? ⟨k1, 0, none⟩ = some (.int .i64 H) ∧ w'.cell? ⟨k1, 1, none⟩ = some (.int .u64 (A : Nat)) ∧
      w'.cell? ⟨k2, 0, none⟩ = some (.int .i64 H) ∧ w'.cell? ⟨k2, 1, none⟩ = some (.int .u64 (A : Nat)) :=
  ⟨S, (snc S.o0).1, (snc S.o0).2.1, (snc S.o1).1, (snc S.o1).2.1, (snc S.o2).1, (snc S.o2).2.1⟩
theorem order_walk (h n m : Int) (b : Nat) (hb : b < 18446744073709551616) (w : World) :
    Calls Try.prog 5 #[snV h b, .int .i64 n, .int .i64 m] w fun e w' => e = .returned (.bool true) ∧ Below w.heap.size w w' := by
  have hbx : Bw w 24 w.heap.size h b (w.alloc (snO 24 h b)) := ⟨below_alloc _, sn_new w _ h b⟩
  have HW := Lib.hid hbx
  clear hbx
  have HMay1 := Lib.hid (smay_any n h b)
  have HMay2 := Lib.hid (smay_any m h b)
  have hmay1 := fun (H : mayW n h b = true) => omay_of H
  have hmay2 := fun (H : mayW m h b = true) => omay_of H
  have HOf1 := Lib.hid hmay1
  have HOf2 := Lib.hid hmay2
  clear hmay1 hmay2
  refine calls_q fun Q HQ => ?_
  unfold snV at *
  go_enter Try.func5, Try.ntmps5
  go_upto_region 1 with fail
  generalize hwa : w.alloc (Obj.cells #[Value.int IntKind.i64 h, Value.int IntKind.u64 (b : Nat)] 24) = wa
  have HW : Hid (Bw w 24 w.heap.size h b wa) := hwa ▸ HW
  clear hwa
  go_wp2_with fail
  refine (awake11_any wa).mono ?_
  rintro e w1 ⟨rfl, hb1⟩
  have HW := Lib.hid (HW.out.after hb1)
  clear hb1
  obtain ⟨_, k0, k1⟩ := HW.out.cells
  go_wp2_with fail
  refine (HMay1.out w1).mono ?_
  rintro e w2 ⟨rfl, hb2⟩
  have HW := Lib.hid (HW.out.after hb2)
  clear hb2 HMay1 k0 k1
  by_cases hc : mayW n h b = true
  · obtain ⟨hn, hh, hodd⟩ := HOf1.out hc
    rw [hc]
    clear hc HOf1
    obtain ⟨_, k0, k1⟩ := HW.out.cells
    go_wp2_with fail
    refine (HMay2.out w2).mono ?_
    rintro e w3 ⟨rfl, hb3⟩
    have HW := Lib.hid (HW.out.after hb3)
    clear hb3 HMay2 k0 k1
    by_cases hc : mayW m h b = true
    · have hm := (HOf2.out hc).1
      rw [hc]
      clear hc HOf2
      obtain ⟨_, k0, k1⟩ := HW.out.cells
      have m1 := fun w => smark_any h n b w hh hn hb
      have m2 := fun w => smark_any (max h n) m (markB h b n) w (hh.max hn) hm (markB_lt hb)
      have m3 := fun w => smark_any h m b w hh hm hb
      have m4 := fun w => smark_any (max h m) n (markB h b m) w (hh.max hm) hn (markB_lt hb)
      have m5 := fun w => smark_any (max (max h n) m) n (markB (max h n) (markB h b n) m) w ((hh.max hn).max hm) hn (markB_lt (markB_lt hb))
      have m6 := fun w => smark_any (max (max h n) m) m (markB (max h n) (markB h b n) m) w ((hh.max hn).max hm) hm (markB_lt (markB_lt hb))
      have hk := know2 (h := h) (n := n) (m := m) (b := b)
      have i5 : markB (max (max h n) m) (markB (max h n) (markB h b n) m) n = markB (max h n) (markB h b n) m :=
        mark_id (markB_lt (markB_lt hb)) (by omega) (fun hx => by rw [hk, decide_eq_true hx, decide_eq_true (p := n = n) rfl]; simp)
      have i6 : markB (max (max h n) m) (markB (max h n) (markB h b n) m) m = markB (max h n) (markB h b n) m :=
        mark_id (markB_lt (markB_lt hb)) (by omega) (fun hx => by rw [hk, decide_eq_true hx, decide_eq_true (p := m = m) rfl]; simp)
      rw [i5, show max (max (max h n) m) n = max (max h n) m by omega] at m5
      rw [i6, show max (max (max h n) m) m = max (max h n) m by omega] at m6
      rw [mark_comm hb, max_swap] at m4
      have hA := markB_lt (h := max h n) (n := m) (markB_lt (h := h) (n := n) hb)
      have hp := many_pos (mark_odd (h := max h n) (n := m) (mark_odd (h := h) (n := n) hodd))
      have hle : h ≤ max (max h n) m := by omega
      clear hk i5 i6
      generalize max (max h n) m = H at *
      generalize markB (max h n) (markB h b n) m = A at *
      generalize markB h b n = b1 at *
      generalize markB h b m = b2 at *
      generalize max h n = h1 at *
      generalize max h m = h2 at *
      have m7 := fun w => smany_any H A w hA
      generalize manyB A = mm at *
      unfold snV at m1 m2 m3 m4 m5 m6 m7
      have M1 := Lib.hid m1
      have M2 := Lib.hid m2
      have M3 := Lib.hid m3
      have M4 := Lib.hid m4
      have M5 := Lib.hid m5
      have M6 := Lib.hid m6
      have M7 := Lib.hid m7
      clear m1 m2 m3 m4 m5 m6 m7
      go_wp2_with fail
      refine (M1.out _).mono ?_
      rintro e w4 ⟨rfl, hb4⟩
      have HW := Lib.hid (HW.out.after hb4)
      clear hb4 k0 k1
      go_wp2_with fail
      refine (M2.out _).mono ?_
      rintro e w5 ⟨rfl, hb5⟩
      have HW := Lib.hid (HW.out.after hb5)
      have HN1 := Lib.hid (sn_new w5 24 H A)
      have HWn := Lib.hid (HW.out.after (below_alloc (w := w5) (snO 24 H A)))
      clear hb5
      go_upto_region 6 with fail
      generalize hwa : w5.alloc (Obj.cells #[Value.int IntKind.i64 H, Value.int IntKind.u64 (A : Nat)] 24) = wb
      have HN1 : Hid (wb.heap[w5.heap.size]? = some (snO 24 H A)) := hwa ▸ HN1
      have HWn : Hid (Bw w 24 w.heap.size h b wb) := hwa ▸ HWn
      clear hwa HW
      generalize w5.heap.size = K1 at *
      obtain ⟨_, k0, k1⟩ := HWn.out.cells
      go_wp2_with fail
      refine (M3.out _).mono ?_
      rintro e w6 ⟨rfl, hb6⟩
      have HW := Lib.hid (HWn.out.after hb6)
      have HN1 := Lib.hid (show w6.heap[K1]? = _ from (hb6.block _ (obj_lt HN1.out)).trans HN1.out)
      clear hb6 HWn k0 k1
      go_wp2_with fail
      refine (M4.out _).mono ?_
      rintro e w7 ⟨rfl, hb7⟩
      have HW := Lib.hid (HW.out.after hb7)
      have HN1 := Lib.hid (show w7.heap[K1]? = _ from (hb7.block _ (obj_lt HN1.out)).trans HN1.out)
      have hbz := below_alloc (w := w7) (snO 24 H A)
      have HWn := HW.out.after hbz
      have HS := Lib.hid (show W3 w h b K1 w7.heap.size H A (w7.alloc (snO 24 H A)) from ⟨HWn.bel, HWn.obj, (hbz.block _ (obj_lt HN1.out)).trans HN1.out, sn_new w7 _ H A⟩)
      clear hb7 hbz HWn HN1
      go_upto_region 7 with fail
      generalize hwa : w7.alloc (Obj.cells #[Value.int IntKind.i64 H, Value.int IntKind.u64 (A : Nat)] 24) = wd
      have HS : Hid (W3 w h b K1 w7.heap.size H A wd) := hwa ▸ HS
      clear hwa HW
      generalize w7.heap.size = K2 at *
      have hp2 : (1 : Int) ≤ (mm : Nat) := by omega
      go_region_held3 (fun w' => W3 w h b K1 K2 H A w' ∧ w'.cell? ⟨w.heap.size, 0, none⟩ = some (.int .i64 h) ∧ w'.cell? ⟨w.heap.size, 1, none⟩ = some (.int .u64 (b : Nat)) ∧
        w'.cell? ⟨K1, 0, none⟩ = some (.int .i64 H) ∧ w'.cell? ⟨K1, 1, none⟩ = some (.int .u64 (A : Nat)) ∧
        w'.cell? ⟨K2, 0, none⟩ = some (.int .i64 H) ∧ w'.cell? ⟨K2, 1, none⟩ = some (.int .u64 (A : Nat))) (first | exact ((‹W3 _ _ _ _ _ _ _ _ ∧ _›).1.after (by assumption)).cells | exact (HS.out.drew).cells) (first
        | (go_at_call 8; with_reducible refine (M5.out _).mono ?_; rintro e w9 ⟨rfl, hb⟩)
        | (go_at_call 8; with_reducible refine (M6.out _).mono ?_; rintro e w9 ⟨rfl, hb⟩)
        | (go_at_call 12; refine (M7.out _).mono ?_; rintro e w9 ⟨rfl, hb⟩))
      all_goals (go_wp2_with fail; exact HQ.out _ _ ⟨rfl, (‹W3 _ _ _ _ _ _ _ _ ∧ _›).1.bel⟩)
    · have hc : mayW m h b = false := by simpa using hc
      rw [hc]
      go_wp2_with fail
      exact HQ.out _ _ ⟨rfl, HW.out.bel⟩
  · have hc : mayW n h b = false := by simpa using hc
    rw [hc]
    go_wp2_with fail
    exact HQ.out _ _ ⟨rfl, HW.out.bel⟩
theorem order_w (v0 : Value) (d : DW) (h0 : OkW v0 d) (n m : Int) (w : World) :
    Calls Try.prog 5 #[v0, .int .i64 n, .int .i64 m] w fun e w' => e = .returned (.bool true) ∧ Below w.heap.size w w' := by
  obtain ⟨rfl, hb⟩ := h0
  exact order_walk d.h n m d.b hb w
end Go.Proofs.Yteoegmfhfejdkaa
