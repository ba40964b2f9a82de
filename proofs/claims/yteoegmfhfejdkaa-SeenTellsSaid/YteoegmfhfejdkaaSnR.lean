/- The walks of the document's own answers for windows. -/
import Derived.Test.YteoegmfhfejdkaaSnH
namespace Go.Proofs.Yteoegmfhfejdkaa
open Go.RowKit

/-! ### Two, Bit (as in BitsRef: never import it beside) -/
set_option maxHeartbeats 400000 in
theorem two_any (k : Int) (w : World) (h0 : 0 ≤ k) (h : k ≤ 63) :
    Calls Try.prog 18 #[.int .i64 k] w fun e w' => e = .returned (.int .u64 (2 ^ k.toNat : Nat)) ∧ w' = w := by
  obtain ⟨k, rfl⟩ := Int.eq_ofNat_of_zero_le h0
  rw [Int.toNat_natCast]
  refine calls_q fun Q HQ => ?_
  go_enter Try.func18, Try.ntmps18
  go_wp2
  go_loop [3, 4] (fun n i => ∃ j : Nat, j ≤ k ∧ i = .int .i64 j ∧ n = .int .u64 (2 ^ j : Nat)) (fun _ i => k - (intOf i).toNat)
  case atStart => exact ⟨0, Nat.zero_le _, rfl, rfl⟩
  case round =>
    obtain ⟨j, hj, rfl, rfl⟩ := hrel
    by_cases hlt : j < k
    · go_wp2
      go_round
      case rel =>
        refine ⟨j + 1, by omega, by go_num, ?_⟩
        have h1 := pow_le_63 (s := j) (by omega)
        have h2 : (2:Nat) ^ (j + 1) = 2 * 2 ^ j := by rw [Nat.pow_succ]; omega
        have h3 := pow_le_63 (s := j + 1) (by omega)
        rw [h2] at h3 ⊢
        first | rfl | (congr 1; (try rw [wrap_u64]); (try rw [natpow_cast]); omega)
      case measure => simp [intOf]; omega
    · have : j = k := by omega
      subst this
      go_wp2
      exact HQ.out _ _ ⟨ret_int (by simp), rfl⟩
theorem rbit_eq (n p : Nat) (hn : n < 18446744073709551616) : (IntKind.u64.wrap ((n : Int) / (p : Int))).tmod 2 = ((n / p % 2 : Nat) : Int) := by
  have h := Nat.div_le_self n p
  rw [show ((n : Int) / (p : Int)) = ((n / p : Nat) : Int) by simp, wrap_u64]
  generalize n / p = q at *
  rw [show ((q : Int) % 18446744073709551616) = q by omega, Int.tmod_eq_emod_of_nonneg (by omega)]
  omega
set_option maxHeartbeats 400000 in
theorem rbit_any (n k : Int) (w : World) (hn : U64 n) (h0 : 0 ≤ k) (h : k ≤ 63) :
    Calls Try.prog 19 #[.int .u64 n, .int .i64 k] w fun e w' => e = .returned (.int .u64 (n.toNat / 2 ^ k.toNat % 2 : Nat)) ∧ w' = w := by
  obtain ⟨n, rfl⟩ := Int.eq_ofNat_of_zero_le hn.lo
  have ht := two_any k w h0 h
  have hpos := Nat.two_pow_pos k.toNat
  generalize 2 ^ k.toNat = p at *
  have H := Lib.hid ht
  clear ht
  have hpn : ¬ p = 0 := by omega
  have heq := Lib.hid (rbit_eq n p (by have := hn.hi; omega))
  rw [Int.toNat_natCast]
  refine calls_q fun Q HQ => ?_
  go_enter Try.func19, Try.ntmps19
  go_wp2_with (go_at_call 18; refine H.out.mono ?_; rintro e w' ⟨rfl, rfl⟩)
  exact HQ.out _ _ ⟨ret_int heq.out, rfl⟩

/-- a number near those that may be -/
structure Nw (n : Int) : Prop where
  lo : -4611686018427387904 ≤ n
  hi : n ≤ 4611686018427387904
theorem rhas_any (h n : Int) (b : Nat) (w : World) (hh : Nr h) (hn : Nw n) (hb : b < 18446744073709551616) :
    Calls Try.prog 11 #[snV h b, .int .i64 n] w fun e w' => e = .returned (.bool (knowB h b n)) ∧ Below w.heap.size w w' := by
  have hbl := below_alloc (w := w) (snO 27 h b)
  have HB := Lib.hid hbl
  clear hbl
  have h1 := hh.lo; have h2 := hh.hi; have h3 := hn.lo; have h4 := hn.hi
  have e1 : wrap64 (h - 64) = h - 64 := by unfold wrap64; omega
  have e2 : wrap64 (h - n) = h - n := by unfold wrap64; omega
  unfold snV
  refine calls_q fun Q HQ => ?_
  by_cases hc : n ≤ h ∧ h - n < 64
  · have hb2 := rbit_any b (h - n) (w.alloc (snO 27 h b)) (nr_u64 hb) (by omega) (by omega)
    have hk : knowB h b n = decide (b / 2 ^ (h - n).toNat % 2 = 1) := by
      unfold knowB; rw [decide_eq_true hc, Bool.true_and, Nat.testBit_eq_decide_div_mod_eq]
    rw [Int.toNat_natCast] at hb2
    rw [hk] at HQ
    generalize b / 2 ^ (h - n).toNat % 2 = x at *
    have HX := Lib.hid hb2
    clear hb2 hk
    obtain ⟨c1, c2⟩ := hc
    have c3 : h - 64 < n := by omega
    go_enter Try.func11, Try.ntmps11
    go_wp2_with fail
    refine HX.out.mono ?_
    rintro e w1 ⟨rfl, rfl⟩
    go_wp2_with fail
    exact HQ.out _ _ ⟨ret_bool (by rw [Bool.eq_iff_iff]; simp; omega), HB.out⟩
  · have hk : knowB h b n = false := by unfold knowB; rw [decide_eq_false hc]; rfl
    rw [hk] at HQ
    clear hk
    go_enter Try.func11, Try.ntmps11
    go_wp2_with fail
    all_goals first | exact HQ.out _ _ ⟨rfl, HB.out⟩ | (exfalso; omega)
theorem rmany_any (h : Int) (b : Nat) (w : World) (hb : b < 18446744073709551616) :
    Calls Try.prog 13 #[snV h b] w fun e w' => e = .returned (.int .i64 (manyB b : Nat)) ∧ Below w.heap.size w w' := by
  have hx := sn_new w 27 h b
  have hbl := below_alloc (w := w) (snO 27 h b)
  have HX := Lib.hid hx
  have HB := Lib.hid hbl
  clear hx hbl
  unfold snV
  refine calls_q fun Q HQ => ?_
  go_enter Try.func13, Try.ntmps13
  go_wp2_with fail
  go_loopw [3, 4] (fun o i wr => ∃ j : Nat, j ≤ 64 ∧ i = .int .i64 j ∧ o = .int .i64 ((List.range j).countP (fun k => b.testBit k) : Nat) ∧ wr.heap[w.heap.size]? = some (snO 27 h b) ∧ Below w.heap.size w wr) (fun _ i _ => 64 - (intOf i).toNat)
  case atStart => exact ⟨0, Nat.zero_le _, rfl, rfl, HX.out, HB.out⟩
  case round =>
    obtain ⟨j, hj, rfl, rfl, hx, hbl⟩ := hrel
    obtain ⟨m0, m1, y0, y1⟩ := snc hx
    by_cases hlt : j < 64
    · have hst := many_step b j
      have hle := many_le b j
      have hf := rbit_any b j wr (nr_u64 hb) (by omega) (by omega)
      rw [Int.toNat_natCast, Int.toNat_natCast] at hf
      have hl2 := Nat.mod_lt (b / 2 ^ j) (show 0 < 2 by decide)
      generalize b / 2 ^ j % 2 = x at *
      have HX := Lib.hid hx
      have HB := Lib.hid hbl
      have HF := Lib.hid hf
      have HS := Lib.hid hst
      generalize hc1 : (List.range (j + 1)).countP (fun k => b.testBit k) = c1 at *
      generalize (List.range j).countP (fun k => b.testBit k) = c0 at *
      have HC := Lib.hid hc1
      clear hc1 hx hbl hf hst
      go_wp2_with fail
      refine HF.out.mono ?_
      rintro e w1 ⟨rfl, rfl⟩
      go_wp2_with fail
      go_roundw
      case rel =>
        refine ⟨j + 1, by omega, by go_num, ?_, HX.out, HB.out⟩
        have := HS.out
        rw [HC.out]
        congr 1
        omega
      case measure => simp [intOf]; omega
    · have : j = 64 := by omega
      subst this
      have hle := many_le b 64
      have HB := Lib.hid hbl
      clear hx hbl
      unfold manyB at HQ
      generalize (List.range 64).countP (fun k => b.testBit k) = c0 at *
      go_wp2_with fail
      exact HQ.out _ _ ⟨rfl, HB.out⟩
end Go.Proofs.Yteoegmfhfejdkaa
