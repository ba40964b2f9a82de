/- The walk of SeenTells. -/
import Derived.Test.YteoegmfhfejdkaaSnA
import Derived.Test.YteoegmfhfejdkaaSnS
import Derived.Test.YteoegmfhfejdkaaSnOp
namespace Go.Proofs.Yteoegmfhfejdkaa
open Go.RowKit
theorem may_of {n h : Int} {b : Nat} (H : mayW n h b = true) : Nr n ∧ Nr h ∧ b % 2 = 1 := by
  unfold mayW at H
  rw [decide_eq_true_eq] at H
  exact ⟨⟨H.1, H.2.1⟩, ⟨H.2.2.1, H.2.2.2.1⟩, H.2.2.2.2⟩
theorem Nr.w {n : Int} (h : Nr n) : Nw n := ⟨by have := h.lo; omega, by have := h.hi; omega⟩
theorem tells11_walk (h n : Int) (b : Nat) (hb : b < 18446744073709551616) (w : World) :
    Calls Try.prog 3 #[snV h b, .int .i64 n] w fun e w' => e = .returned (.bool true) ∧ Below w.heap.size w w' := by
  have hbx : Bw w 24 w.heap.size h b (w.alloc (snO 24 h b)) := ⟨below_alloc _, sn_new w _ h b⟩
  have HW := Lib.hid hbx
  clear hbx
  have HMay := Lib.hid (smay_any n h b)
  have hmay := fun (H : mayW n h b = true) => may_of H
  have HOf := Lib.hid hmay
  clear hmay
  refine calls_q fun Q HQ => ?_
  unfold snV at *
  go_enter Try.func3, Try.ntmps3
  go_upto_region 1 with fail
  generalize hwa : w.alloc (Obj.cells #[Value.int IntKind.i64 h, Value.int IntKind.u64 (b : Nat)] 24) = wa
  have HW : Hid (Bw w 24 w.heap.size h b wa) := hwa ▸ HW
  clear hwa
  go_wp2_with fail
  refine (awake11_any wa).mono ?_
  rintro e w1 ⟨rfl, hb1⟩
  have HW := Lib.hid (HW.out.after hb1)
  clear hb1
  obtain ⟨_, k0, k1⟩ := HW.out.cells
  go_wp2_with fail
  refine (HMay.out w1).mono ?_
  rintro e w2 ⟨rfl, hb2⟩
  have HW := Lib.hid (HW.out.after hb2)
  clear hb2 HMay k0 k1
  by_cases hc : mayW n h b = true
  · obtain ⟨hn, hh, _⟩ := HOf.out hc
    rw [hc]
    clear hc HOf
    go_upto_region 5 with fail
    have m1 := fun w => smark_any h n b w hh hn hb
    have m2 := fun w => rmark_any h n b w hh hn hb
    have m3 := fun w => shas_any h n b w hh hn hb
    have m4 := fun w => rhas_any h n b w hh hn.w hb
    have m5 := fun w => smany_any h b w hb
    have m6 := fun w => rmany_any h b w hb
    unfold snV at m1 m2 m3 m4 m5 m6
    generalize markB h b n = M at *
    generalize max h n = H at *
    generalize knowB h b n = x at *
    generalize manyB b = m at *
    have M1 := Lib.hid m1
    have M2 := Lib.hid m2
    have M3 := Lib.hid m3
    have M4 := Lib.hid m4
    have M5 := Lib.hid m5
    have M6 := Lib.hid m6
    clear m1 m2 m3 m4 m5 m6
    go_region_held3 (fun w' => Bw w 24 w.heap.size h b w' ∧ w'.cell? ⟨w.heap.size, 0, none⟩ = some (.int .i64 h) ∧ w'.cell? ⟨w.heap.size, 1, none⟩ = some (.int .u64 (b : Nat))) (first | exact ((‹Bw _ _ _ _ _ _ ∧ _›).1.after (by assumption)).cells | exact (HW.out.drew).cells) (first
      | (go_at_call 8; refine (M1.out _).mono ?_; rintro e w9 ⟨rfl, hb⟩)
      | (go_at_call 9; refine (M2.out _).mono ?_; rintro e w9 ⟨rfl, hb⟩)
      | (go_at_call 10; refine (M3.out _).mono ?_; rintro e w9 ⟨rfl, hb⟩)
      | (go_at_call 11; refine (M4.out _).mono ?_; rintro e w9 ⟨rfl, hb⟩)
      | (go_at_call 12; refine (M5.out _).mono ?_; rintro e w9 ⟨rfl, hb⟩)
      | (go_at_call 13; refine (M6.out _).mono ?_; rintro e w9 ⟨rfl, hb⟩)
      | (go_at_call 14; refine (lit_first _ _).mono ?_; rintro e w9 ⟨rfl, hb⟩))
    all_goals (go_wp2_with fail; exact HQ.out _ _ ⟨rfl, (‹Bw _ _ _ _ _ _ ∧ _›).1.bel⟩)
  · have hc : mayW n h b = false := by simpa using hc
    rw [hc]
    go_wp2_with fail
    exact HQ.out _ _ ⟨rfl, HW.out.bel⟩
theorem tells11_w (v0 : Value) (d : DW) (h0 : OkW v0 d) (n : Int) (w : World) :
    Calls Try.prog 3 #[v0, .int .i64 n] w fun e w' => e = .returned (.bool true) ∧ Below w.heap.size w w' := by
  obtain ⟨rfl, hb⟩ := h0
  exact tells11_walk d.h n d.b hb w
end Go.Proofs.Yteoegmfhfejdkaa
