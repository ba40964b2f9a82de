/- The walks of seen's Mark. -/
import Derived.Test.YteoegmfhfejdkaaSnC
namespace Go.Proofs.Yteoegmfhfejdkaa
open Go.RowKit
set_option maxHeartbeats 4000000 in
theorem smark_any (h n : Int) (b : Nat) (w : World) (hh : Nr h) (hn : Nr n) (hb : b < 18446744073709551616) :
    Calls Try.prog 8 #[snV h b, .int .i64 n] w fun e w' => e = .returned (snV (max h n) (markB h b n)) ∧ Below w.heap.size w w' := by
  refine calls_q fun Q HQ => ?_
  have hx1 := sn_new w 24 h b
  have hx2 := sn_new (w.alloc (snO 24 h b)) 24 0 0
  have hb1 := (Fr.alloc w (snO 24 h b)).trans (Fr.alloc (w.alloc (snO 24 h b)) (snO 24 0 0)) (fun _ h => h.elim)
  have hx3 := (Fr.alloc (w.alloc (snO 24 h b)) (snO 24 0 0)).heap hx1 (fun h => h)
  rw [World.size_alloc] at hx2
  have HX2 := Lib.hid hx2
  have HX3 := Lib.hid hx3
  have HB1 := Lib.hid hb1
  clear hx1 hx2 hx3 hb1
  by_cases hlt : h < n
  · have hr := sraised_any h n b
    rw [show max h n = n by omega] at HQ
    generalize markB h b n = b' at *
    have HR := Lib.hid hr
    clear hr
    unfold snV
    go_enter Try.func8, Try.ntmps8
    go_upto_region 1 with fail
    generalize hwa : (w.alloc (Obj.cells #[Value.int IntKind.i64 h, Value.int IntKind.u64 (b : Nat)] 24)).alloc (Obj.cells #[Value.int IntKind.i64 0, Value.int IntKind.u64 0] 24) = wa
    have HX2 : Hid (wa.heap[w.heap.size + 1]? = some (snO 24 0 0)) := hwa ▸ HX2
    have HX3 : Hid (wa.heap[w.heap.size]? = some (snO 24 h b)) := hwa ▸ HX3
    have HB1 : Hid (Fr F0 w wa) := hwa ▸ HB1
    clear hwa
    obtain ⟨k0, k1, _, _⟩ := snc HX3.out
    go_wp2_with fail
    refine (HR.out wa hh hn hb hlt).mono ?_
    rintro e w1 ⟨rfl, hb1⟩
    have HX2 := Lib.hid (show w1.heap[w.heap.size + 1]? = _ from (hb1.block _ (obj_lt HX2.out)).trans HX2.out)
    have HB2 := Lib.hid (HB1.out.trans (Fr.of hb1) (fun _ h => h.elim))
    clear hb1 HB1 k0 k1 HX3
    obtain ⟨q0, q1, z0, z1⟩ := snc HX2.out
    unfold snV
    go_wp2_with fail
    generalize hW : World.setCell _ _ _ = wf
    obtain ⟨hx, hfx⟩ := sn2 HX2.out _ _ wf hW
    clear hW q0 q1 z0 z1
    obtain ⟨m0, m1, y0, y1⟩ := snc hx
    refine bodyPost_ret (v := snV n b') (by simp [results, Try.results8, go_sem, snV, m0, m1]; try rfl) rfl ?_
    have := HB2.out.size
    exact HQ.out _ _ ⟨rfl, HB2.out.below0.trans (hfx.below HB2.out.size (fun k (hk : k = _) => by omega))⟩
  · rw [show max h n = h by omega] at HQ
    have hm : markB h b n = layN b (belN h n) 1 1 := by unfold markB; rw [if_neg hlt]
    have hbe := sbelow_any h n
    have hla := fun w => lay_any b (belN h n) 1 1 w (nr_u64 hb) ⟨by decide, by decide⟩
    have hb0 := belN_lo h n
    have hb1 := belN_hi h n
    simp only [Int.toNat_natCast, show (1 : Int).toNat = 1 from rfl, ← hm] at hla
    generalize belN h n = x at *
    generalize markB h b n = b' at *
    clear hm
    unfold snV
    go_enter Try.func8, Try.ntmps8
    have HBe := Lib.hid hbe
    have HLa := Lib.hid hla
    clear hbe hla
    go_upto_region 1 with fail
    generalize hwa : (w.alloc (Obj.cells #[Value.int IntKind.i64 h, Value.int IntKind.u64 (b : Nat)] 24)).alloc (Obj.cells #[Value.int IntKind.i64 0, Value.int IntKind.u64 0] 24) = wa
    have HX2 : Hid (wa.heap[w.heap.size + 1]? = some (snO 24 0 0)) := hwa ▸ HX2
    have HX3 : Hid (wa.heap[w.heap.size]? = some (snO 24 h b)) := hwa ▸ HX3
    have HB1 : Hid (Fr F0 w wa) := hwa ▸ HB1
    clear hwa
    obtain ⟨k0, k1, l0, l1⟩ := snc HX3.out
    go_upto_region 3 with fail
    go_region_with (first
      | (go_at_call 17; refine (HBe.out _ hh hn).mono ?_; rintro e w9 ⟨rfl, rfl⟩)
      | (go_at_call 16; refine (HLa.out _).mono ?_; rintro e w9 ⟨rfl, rfl⟩))
    all_goals (
      generalize hW : World.drew _ = w4
      have hF : Fr (F1 w.heap.size) wa w4 := by subst hW; exact (Fr.setCell wa ⟨w.heap.size, 1, none⟩ (.int .u64 (b' : Nat))).trans (Fr.drew _) (fun _ h => h.elim)
      have hX : w4.heap[w.heap.size]? = some (snO 24 h b') := by subst hW; exact sn1 HX3.out b'
      have HX4 := Lib.hid (hF.heap HX2.out (fun h => by simp [F1] at h))
      have HB4 := Lib.hid (HB1.out.trans hF (fun k hk => Or.inr (by simp [F1] at hk; omega)))
      clear hW hF k0 k1 l0 l1 HX2 HX3 HB1
      obtain ⟨m0, m1, y0, y1⟩ := snc hX
      obtain ⟨q0, q1, z0, z1⟩ := snc HX4.out
      go_wp2_with fail
      generalize hW : World.setCell _ _ _ = wf
      obtain ⟨hx, hfx⟩ := sn2 HX4.out _ _ wf hW
      clear hW q0 q1 z0 z1 m0 m1 y0 y1
      obtain ⟨m0, m1, y0, y1⟩ := snc hx
      refine bodyPost_ret (v := snV h b') (by simp [results, Try.results8, go_sem, snV, m0, m1]; try rfl) rfl ?_
      have := HB4.out.size
      exact HQ.out _ _ ⟨rfl, HB4.out.below0.trans (hfx.below HB4.out.size (fun k (hk : k = _) => by omega))⟩)
end Go.Proofs.Yteoegmfhfejdkaa
