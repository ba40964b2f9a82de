/- The walk of the document's Mark. -/
import Derived.Test.YteoegmfhfejdkaaSnR
namespace Go.Proofs.Yteoegmfhfejdkaa
open Go.RowKit
/-- the world within the document's Mark -/
structure Rm (w : World) (h : Int) (b : Nat) (H : Int) (c : Nat) (w' : World) : Prop where
  bel : Below w.heap.size w w'
  pw : w'.heap[w.heap.size]? = some (snO 27 h b)
  pr : w'.heap[w.heap.size + 1]? = some (snO 27 0 0)
  po : w'.heap[w.heap.size + 2]? = some (snO 27 H c)
theorem Rm.after {w w' w2 : World} {h H : Int} {b c : Nat} (R : Rm w h b H c w') (hb : Below w'.heap.size w' w2) : Rm w h b H c w2 :=
  ⟨R.bel.trans (hb.mono R.bel.size), (hb.block _ (obj_lt R.pw)).trans R.pw, (hb.block _ (obj_lt R.pr)).trans R.pr, (hb.block _ (obj_lt R.po)).trans R.po⟩
theorem Rm.set {w w' : World} {h H : Int} {b c : Nat} (R : Rm w h b H c w') (c' : Nat) : Rm w h b H c' (w'.setCell ⟨w.heap.size + 2, 1, none⟩ (.int .u64 (c' : Nat))) := by
  have hf := Fr.setCell w' ⟨w.heap.size + 2, 1, none⟩ (.int .u64 (c' : Nat))
  refine ⟨R.bel.trans (hf.below R.bel.size (fun k hk => by simp [F1] at hk; omega)), hf.heap R.pw (fun hk => by simp [F1] at hk), hf.heap R.pr (fun hk => by simp [F1] at hk), sn1 R.po c'⟩
theorem Rm.setH {w w' : World} {h H : Int} {b c : Nat} (R : Rm w h b H c w') (n : Int) : Rm w h b n c (w'.setCell ⟨w.heap.size + 2, 0, none⟩ (.int .i64 n)) := by
  have hf := Fr.setCell w' ⟨w.heap.size + 2, 0, none⟩ (.int .i64 n)
  refine ⟨R.bel.trans (hf.below R.bel.size (fun k hk => by simp [F1] at hk; omega)), hf.heap R.pw (fun hk => by simp [F1] at hk), hf.heap R.pr (fun hk => by simp [F1] at hk), obj_set R.po 0 (.int .i64 n)⟩
theorem Rm.drew {w w' : World} {h H : Int} {b c : Nat} (R : Rm w h b H c w') : Rm w h b H c w'.drew := ⟨R.bel.drew, R.pw, R.pr, R.po⟩
theorem Rm.start (w : World) (h : Int) (b : Nat) :
    Rm w h b h 0 (((w.alloc (snO 27 h b)).alloc (snO 27 0 0)).alloc (snO 27 h 0)) := by
  have h1 := sn_new w 27 h b
  have h2 := sn_new (w.alloc (snO 27 h b)) 27 0 0
  have h3 := sn_new ((w.alloc (snO 27 h b)).alloc (snO 27 0 0)) 27 h 0
  have f1 := Fr.alloc w (snO 27 h b)
  have f2 := Fr.alloc (w.alloc (snO 27 h b)) (snO 27 0 0)
  have f3 := Fr.alloc ((w.alloc (snO 27 h b)).alloc (snO 27 0 0)) (snO 27 h 0)
  simp only [World.size_alloc] at h2 h3
  exact ⟨((f1.trans f2 (fun _ h => h.elim)).trans f3 (fun _ h => h.elim)).below0, f3.heap (f2.heap h1 (fun h => h)) (fun h => h), f3.heap h2 (fun h => h), h3⟩
theorem mod_step (M j : Nat) (hj : j ≤ 63) (h : M / 2 ^ j % 2 = 1) : IntKind.u64.wrap (((M % 2 ^ j : Nat) : Int) + ((2 ^ j : Nat) : Int)) = ((M % 2 ^ (j + 1) : Nat) : Int) := by
  have h0 := Nat.mod_mul (x := M) (a := 2 ^ j) (b := 2)
  rw [h, ← Nat.pow_succ, Nat.mul_one] at h0
  have h1 := Nat.mod_lt M (Nat.two_pow_pos j)
  have h2 := pow_le_63 hj
  rw [wrap_u64, h0]
  omega
theorem mod_same (M j : Nat) (h : M / 2 ^ j % 2 = 0) : M % 2 ^ (j + 1) = M % 2 ^ j := by
  have h0 := Nat.mod_mul (x := M) (a := 2 ^ j) (b := 2)
  rw [h, ← Nat.pow_succ, Nat.mul_zero, Nat.add_zero] at h0
  exact h0
set_option maxHeartbeats 4000000 in
theorem rmark_any (h n : Int) (b : Nat) (w : World) (hh : Nr h) (hn : Nr n) (hb : b < 18446744073709551616) :
    Calls Try.prog 9 #[snV h b, .int .i64 n] w fun e w' => e = .returned (snV (max h n) (markB h b n)) ∧ Below w.heap.size w w' := by
  have hst := Rm.start w h b
  have hmod := fun j (hj : j < 64) => mark_mod (h := h) (n := n) (b := b) hj
  have hlt := markB_lt (h := h) (n := n) hb
  generalize markB h b n = M at *
  have HS := Lib.hid hst
  have HM := Lib.hid hmod
  have HL := Lib.hid hlt
  clear hst hmod hlt
  unfold snV
  refine calls_q fun Q HQ => ?_
  go_enter Try.func9, Try.ntmps9
  go_upto_region 2 with fail
  generalize hwa : ((w.alloc (Obj.cells #[Value.int IntKind.i64 h, Value.int IntKind.u64 (b : Nat)] 27)).alloc (Obj.cells #[Value.int IntKind.i64 0, Value.int IntKind.u64 0] 27)).alloc (Obj.cells #[Value.int IntKind.i64 h, Value.int IntKind.u64 0] 27) = wa
  have HS : Hid (Rm w h b h 0 wa) := hwa ▸ HS
  clear hwa
  obtain ⟨m0, m1, y0, y1⟩ := snc HS.out.pw
  obtain ⟨o0, o1, z0, z1⟩ := snc HS.out.po
  go_upto_if 14 with fail
  go_cut [] (fun wx => Rm w h b (max h n) 0 wx)
  case first =>
    by_cases hlt : h < n
    · have HS2 := Lib.hid (HS.out.setH n)
      go_wp2_with fail
      go_meet
      case rel => rw [Int.max_eq_right (by omega)]; exact HS2.out
    · go_wp2_with fail
      go_meet
      case rel => rw [Int.max_eq_left (by omega)]; exact HS.out
  case rest =>
  clear HS m0 m1 y0 y1 o0 o1 z0 z1
  have hmr := hh.max hn
  have hmn : n ≤ max h n := by omega
  have HC := Lib.hid hcut
  clear hcut
  generalize max h n = H at *
  go_wp2_with fail
  go_loopw [6] (fun i wr => ∃ j : Nat, j ≤ 64 ∧ i = .int .i64 j ∧ Rm w h b H (M % 2 ^ j) wr) (fun i _ => 64 - (intOf i).toNat)
  case atStart => exact ⟨0, Nat.zero_le _, rfl, by rw [Nat.pow_zero, Nat.mod_one]; exact HC.out⟩
  case round =>
    obtain ⟨j, hj, rfl, hs⟩ := hrel
    have HS := Lib.hid hs
    obtain ⟨o0, o1, z0, z1⟩ := snc HS.out.po
    by_cases hlt : j < 64
    · have hM := HM.out j hlt
      have hw : wrap64 (H - (j : Int)) = H - (j : Int) := by have := hmr.lo; have := hmr.hi; unfold wrap64; omega
      have hnw : Nw (H - (j : Int)) := ⟨by have := hmr.lo; omega, by have := hmr.hi; omega⟩
      have HH := Lib.hid (rhas_any h (H - (j : Int)) b)
      obtain ⟨p0, p1, _, _⟩ := snc HS.out.pw
      clear HC hs
      by_cases hc : (decide (H - (j : Int) = n) || knowB h b (H - (j : Int))) = true
      · rw [if_pos (by simpa using hc)] at hM
        have hT := fun w => two_any j w (by omega) (by omega)
        have HM2 := Lib.hid (mod_step M j (by omega) hM)
        simp only [Int.toNat_natCast] at hT
        have HT := Lib.hid hT
        generalize hX1 : M % 2 ^ (j + 1) = c1 at *
        have HX1 := Lib.hid hX1
        clear hX1
        generalize M % 2 ^ j = c0 at *
        generalize 2 ^ j = p at *
        clear hM hT
        by_cases hcn : H - (j : Int) = n
        · clear HH hc
          have hwn : wrap64 n = n := by have := hn.lo; have := hn.hi; unfold wrap64; omega
          go_upto_region 9 with fail
          have hm2 := HM2.out
          go_region_with (go_at_call 18; refine (HT.out _).mono ?_; rintro e w9 ⟨rfl, rfl⟩)
          all_goals (
            generalize hW : World.drew _ = w4
            have hS : Rm w h b H c1 w4 := by subst hW; exact (HS.out.set c1).drew
            have HS4 := Lib.hid hS
            clear hW hS hm2 o0 o1 z0 z1 HS
            go_wp2_with fail
            go_roundw
            case rel => exact ⟨j + 1, by omega, by go_num, by rw [HX1.out]; exact HS4.out⟩
            case measure => simp [intOf]; omega)
        · rw [decide_eq_false hcn, Bool.false_or] at hc
          rw [hc] at HH
          clear hc
          go_wp2_with fail
          refine (HH.out _ hh hnw hb).mono ?_
          rintro e w1 ⟨rfl, hb1⟩
          have HS := Lib.hid (HS.out.after hb1)
          clear o0 o1 z0 z1 p0 p1 hb1
          obtain ⟨o0, o1, z0, z1⟩ := snc HS.out.po
          go_upto_region 9 with fail
          have hm2 := HM2.out
          go_region_with (go_at_call 18; refine (HT.out _).mono ?_; rintro e w9 ⟨rfl, rfl⟩)
          all_goals (
            generalize hW : World.drew _ = w4
            have hS : Rm w h b H c1 w4 := by subst hW; exact (HS.out.set c1).drew
            have HS4 := Lib.hid hS
            clear hW hS hm2 o0 o1 z0 z1 HS
            go_wp2_with fail
            go_roundw
            case rel => exact ⟨j + 1, by omega, by go_num, by rw [HX1.out]; exact HS4.out⟩
            case measure => simp [intOf]; omega)
      · rw [if_neg (by simpa using hc)] at hM
        have HM2 := Lib.hid (mod_same M j hM)
        simp only [Bool.or_eq_true, not_or, Bool.not_eq_true, decide_eq_false_iff_not] at hc
        rw [hc.2] at HH
        have hc := hc.1
        clear hM
        go_wp2_with fail
        refine (HH.out _ hh hnw hb).mono ?_
        rintro e w1 ⟨rfl, hb1⟩
        have HS := Lib.hid (HS.out.after hb1)
        clear o0 o1 z0 z1 p0 p1 hb1
        go_wp2_with fail
        go_roundw
        case rel => exact ⟨j + 1, by omega, by go_num, by rw [HM2.out]; exact HS.out⟩
        case measure => simp [intOf]; omega
    · have : j = 64 := by omega
      subst this
      rw [show M % 2 ^ 64 = M from Nat.mod_eq_of_lt HL.out] at HS hs o1
      obtain ⟨m0, m1, y0, y1⟩ := snc HS.out.pr
      clear HC hs
      go_wp2_with fail
      generalize hW : World.setCell _ _ _ = wf
      obtain ⟨hx, hfx⟩ := sn2 HS.out.pr _ _ wf hW
      clear hW o0 o1 z0 z1 m0 m1 y0 y1
      obtain ⟨m0, m1, y0, y1⟩ := snc hx
      refine bodyPost_ret (v := snV H M) (by simp [results, Try.results9, go_sem, snV, m0, m1]; try rfl) rfl ?_
      exact HQ.out _ _ ⟨rfl, HS.out.bel.trans (hfx.below HS.out.bel.size (fun k (hk : k = _) => by omega))⟩
end Go.Proofs.Yteoegmfhfejdkaa
