/- The walk of seen's Has; a world with a window in a block of its own. -/
import Derived.Test.YteoegmfhfejdkaaSnM
namespace Go.Proofs.Yteoegmfhfejdkaa
open Go.RowKit
/-- since w nothing below has changed, and block k holds a window -/
structure Bw (w : World) (t : TypeId) (k : Nat) (h : Int) (b : Nat) (w' : World) : Prop where
  bel : Below w.heap.size w w'
  obj : w'.heap[k]? = some (snO t h b)
theorem Bw.after {w w' w2 : World} {t : TypeId} {k : Nat} {h : Int} {b : Nat} (H : Bw w t k h b w') (hb : Below w'.heap.size w' w2) : Bw w t k h b w2 :=
  ⟨H.bel.trans (hb.mono H.bel.size), (hb.block _ (obj_lt H.obj)).trans H.obj⟩
theorem Bw.drew {w w' : World} {t : TypeId} {k : Nat} {h : Int} {b : Nat} (H : Bw w t k h b w') : Bw w t k h b w'.drew :=
  ⟨H.bel.drew, H.obj⟩
theorem Bw.cells {w w' : World} {t : TypeId} {k : Nat} {h : Int} {b : Nat} (H : Bw w t k h b w') :
    Bw w t k h b w' ∧ w'.cell? ⟨k, 0, none⟩ = some (.int .i64 h) ∧ w'.cell? ⟨k, 1, none⟩ = some (.int .u64 (b : Nat)) :=
  ⟨H, (snc H.obj).1, (snc H.obj).2.1⟩
theorem shas_any (h n : Int) (b : Nat) (w : World) (hh : Nr h) (hn : Nr n) (hb : b < 18446744073709551616) :
    Calls Try.prog 10 #[snV h b, .int .i64 n] w fun e w' => e = .returned (.bool (knowB h b n)) ∧ Below w.heap.size w w' := by
  refine calls_q fun Q HQ => ?_
  have hx := sn_new w 24 h b
  have hbl := below_alloc (w := w) (snO 24 h b)
  have HX := Lib.hid hx
  have HB := Lib.hid hbl
  clear hx hbl
  have HBe := Lib.hid (fun w => (sbelow_any h n w hh hn).mono (R' := fun e w' => e = .returned (.int .i64 (belN h n)) ∧ Below w.heap.size w w') (fun e w' he => ⟨he.1, he.2 ▸ Below.refl _ _⟩))
  have HMa := Lib.hid (fun w => smark_any h n b w hh hn hb)
  have hsame := Lib.hid (mark_same (h := h) (n := n) (b := b) hb)
  unfold snV at *
  go_enter Try.func10, Try.ntmps10
  go_upto_region 1 with fail
  generalize hwa : w.alloc (Obj.cells #[Value.int IntKind.i64 h, Value.int IntKind.u64 (b : Nat)] 24) = wa
  have HW : Hid (Bw w 24 w.heap.size h b wa) := Lib.hid (hwa ▸ ⟨HB.out, HX.out⟩)
  clear hwa HX HB
  by_cases hc : n ≤ h ∧ h - n < 64
  · have hx : belN h n = h - n := by unfold belN; rw [if_pos hc]
    rw [hx] at HBe
    have hxl : h - n < 64 := hc.2
    have hs := hsame.out hc.1 hc.2
    rw [show max h n = h by omega] at HMa
    clear hx hsame hc
    generalize h - n = x at *
    rw [← hs] at HQ
    clear hs
    generalize markB h b n = b' at *
    by_cases he : b' = b
    · subst he
      rw [decide_eq_true rfl] at HQ
      go_region_held3 (fun w' => Bw w 24 w.heap.size h b' w' ∧ w'.cell? ⟨w.heap.size, 0, none⟩ = some (.int .i64 h) ∧ w'.cell? ⟨w.heap.size, 1, none⟩ = some (.int .u64 (b' : Nat))) (first | exact ((‹Bw _ _ _ _ _ _ ∧ _›).1.after (by assumption)).cells | exact (HW.out.drew).cells) (first
        | (go_at_call 17; refine (HBe.out _).mono ?_; rintro e w9 ⟨rfl, hb⟩)
        | (go_at_call 8; refine (HMa.out _).mono ?_; rintro e w9 ⟨rfl, hb⟩))
      all_goals (go_wp2_with fail; exact HQ.out _ _ ⟨rfl, (‹Bw _ _ _ _ _ _ ∧ _›).1.bel⟩)
    · rw [decide_eq_false he] at HQ
      have he2 : ¬ ((b' : Nat) : Int) = (b : Nat) := by omega
      go_region_held3 (fun w' => Bw w 24 w.heap.size h b w' ∧ w'.cell? ⟨w.heap.size, 0, none⟩ = some (.int .i64 h) ∧ w'.cell? ⟨w.heap.size, 1, none⟩ = some (.int .u64 (b : Nat))) (first | exact ((‹Bw _ _ _ _ _ _ ∧ _›).1.after (by assumption)).cells | exact (HW.out.drew).cells) (first
        | (go_at_call 17; refine (HBe.out _).mono ?_; rintro e w9 ⟨rfl, hb⟩)
        | (go_at_call 8; refine (HMa.out _).mono ?_; rintro e w9 ⟨rfl, hb⟩))
      all_goals (go_wp2_with fail; exact HQ.out _ _ ⟨rfl, (‹Bw _ _ _ _ _ _ ∧ _›).1.bel⟩)
  · have hx : belN h n = 64 := by unfold belN; rw [if_neg hc]
    have hk : knowB h b n = false := by unfold knowB; rw [decide_eq_false hc]; rfl
    have hbe := sbelow_any h n
    rw [hx] at hbe
    rw [hk] at HQ
    have HBq := Lib.hid hbe
    clear hx hk hc hsame HMa HBe hbe
    obtain ⟨_, k0, k1⟩ := HW.out.cells
    go_quiet ((go_at_call 17; exact Calls.quiet_of_same (HBq.out _ hh hn)))
    go_wp2_with fail
    exact HQ.out _ _ ⟨rfl, below_drewN HW.out.bel _⟩
end Go.Proofs.Yteoegmfhfejdkaa
