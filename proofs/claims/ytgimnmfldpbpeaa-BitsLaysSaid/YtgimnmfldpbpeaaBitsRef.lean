/- The walks of the document's own answers for bits: numbers. -/
import Derived.Test.YtgimnmfldpbpeaaBitsB
namespace Go.Proofs.Ytgimnmfldpbpeaa
open Go.RowKit

theorem rmayf (n : Nat) (i : Nat) : n / 2 ^ i % 2 < 2 := Nat.mod_lt _ (by decide)

set_option maxHeartbeats 400000 in
theorem two_any (k : Int) (w : World) (h0 : 0 ≤ k) (h : k ≤ 63) :
    Calls Try.prog 23 #[.int .i64 k] w fun e w' => e = .returned (.int .u64 (2 ^ k.toNat : Nat)) ∧ w' = w := by
  obtain ⟨k, rfl⟩ := Int.eq_ofNat_of_zero_le h0
  rw [Int.toNat_natCast]
  refine calls_q fun Q HQ => ?_
  go_enter Try.func23, Try.ntmps23
  go_wp2
  go_loop [3, 4] (fun n i => ∃ j : Nat, j ≤ k ∧ i = .int .i64 j ∧ n = .int .u64 (2 ^ j : Nat)) (fun _ i => k - (intOf i).toNat)
  case atStart => exact ⟨0, Nat.zero_le _, rfl, rfl⟩
  case round =>
    obtain ⟨j, hj, rfl, rfl⟩ := hrel
    by_cases hlt : j < k
    · go_wp2
      go_round
      case rel =>
        refine ⟨j + 1, by omega, by go_num, ?_⟩
        have h1 := pow_le_63 (s := j) (by omega)
        have h2 : (2:Nat) ^ (j + 1) = 2 * 2 ^ j := by rw [Nat.pow_succ]; omega
        have h3 := pow_le_63 (s := j + 1) (by omega)
        rw [h2] at h3 ⊢
        first | rfl | (congr 1; (try rw [wrap_u64]); (try rw [natpow_cast]); omega)
      case measure => simp [intOf]; omega
    · have : j = k := by omega
      subst this
      go_wp2
      exact HQ.out _ _ ⟨ret_int (by simp), rfl⟩
theorem rbit_eq (n p : Nat) (hn : n < 18446744073709551616) : (IntKind.u64.wrap ((n : Int) / (p : Int))).tmod 2 = ((n / p % 2 : Nat) : Int) := by
  have h := Nat.div_le_self n p
  rw [show ((n : Int) / (p : Int)) = ((n / p : Nat) : Int) by simp, wrap_u64]
  generalize n / p = q at *
  rw [show ((q : Int) % 18446744073709551616) = q by omega, Int.tmod_eq_emod_of_nonneg (by omega)]
  omega
set_option maxHeartbeats 400000 in
theorem rbit_any (n k : Int) (w : World) (hn : U64 n) (h0 : 0 ≤ k) (h : k ≤ 63) :
    Calls Try.prog 22 #[.int .u64 n, .int .i64 k] w fun e w' => e = .returned (.int .u64 (n.toNat / 2 ^ k.toNat % 2 : Nat)) ∧ w' = w := by
  obtain ⟨n, rfl⟩ := Int.eq_ofNat_of_zero_le hn.lo
  have ht := two_any k w h0 h
  have hpos := Nat.two_pow_pos k.toNat
  generalize 2 ^ k.toNat = p at *
  have H := Lib.hid ht
  clear ht
  have hpn : ¬ p = 0 := by omega
  have heq := Lib.hid (rbit_eq n p (by have := hn.hi; omega))
  rw [Int.toNat_natCast]
  refine calls_q fun Q HQ => ?_
  go_enter Try.func22, Try.ntmps22
  go_wp2_with (go_at_call 23; refine H.out.mono ?_; rintro e w' ⟨rfl, rfl⟩)
  exact HQ.out _ _ ⟨ret_int heq.out, rfl⟩

/-! ### the bits of a place, one by one -/
theorem rfield_step (n a i : Nat) : n / 2 ^ a % 2 ^ (i + 1) = n / 2 ^ a % 2 ^ i + n / 2 ^ (a + i) % 2 * 2 ^ i := by
  rw [Nat.pow_succ, Nat.mod_mul, Nat.div_div_eq_div_mul, ← Nat.pow_add, Nat.mul_comm (2 ^ i)]
theorem rfield_sum (n a j : Nat) (hj : j ≤ 63) : IntKind.u64.wrap (((n / 2 ^ a % 2 ^ j : Nat) : Int) + IntKind.u64.wrap (((n / 2 ^ (a + j) % 2 : Nat) : Int) * ((2 ^ j : Nat) : Int))) = ((n / 2 ^ a % 2 ^ (j + 1) : Nat) : Int) := by
  rw [rfield_step]
  have h1 : n / 2 ^ a % 2 ^ j < 2 ^ j := Nat.mod_lt _ (Nat.two_pow_pos j)
  have h2 : n / 2 ^ (a + j) % 2 < 2 := Nat.mod_lt _ (by decide)
  have h3 := pow_le_63 hj
  have h4 : n / 2 ^ (a + j) % 2 * 2 ^ j ≤ 1 * 2 ^ j := Nat.mul_le_mul_right _ (by omega)
  rw [wrap_u64, wrap_u64, ← Int.natCast_mul]
  omega
set_option maxHeartbeats 1000000 in
theorem rfield_any (n a s : Int) (w : World) (hn : U64 n) :
    Calls Try.prog 9 #[.int .u64 n, .int .i64 a, .int .i64 s] w fun e w' => e = .returned (.int .u64 (fieldN n.toNat a s)) ∧ w' = w := by
  obtain ⟨n, rfl⟩ := Int.eq_ofNat_of_zero_le hn.lo
  rw [Int.toNat_natCast]
  refine calls_q fun Q HQ => ?_
  have hc := rmay_any a s w
  by_cases hb : mayB a s = true
  · have hb' := may_iff.1 hb
    rw [hb] at hc
    have H := Lib.hid hc
    have Hb := Lib.hid hb
    clear hc hb
    obtain ⟨a1, a2, s1, s2⟩ := hb'
    obtain ⟨a, rfl⟩ := Int.eq_ofNat_of_zero_le a1
    obtain ⟨s, rfl⟩ := Int.eq_ofNat_of_zero_le s1
    go_enter Try.func9, Try.ntmps9
    go_wp2_with (go_at_call 19; refine H.out.mono ?_; rintro e w' ⟨rfl, rfl⟩)
    go_loop [7, 8] (fun o i => ∃ j : Nat, j ≤ s ∧ i = .int .i64 j ∧ o = .int .u64 (n / 2 ^ a % 2 ^ j : Nat)) (fun _ i => s - (intOf i).toNat)
    case atStart => exact ⟨0, Nat.zero_le _, rfl, by simp [Nat.mod_one]⟩
    case round =>
      obtain ⟨j, hj, rfl, rfl⟩ := hrel
      by_cases hlt : j < s
      · have HS := Lib.hid (rfield_sum n a j (by omega))
        go_wp2_with (first
          | (go_at_call 22; refine (rbit_any _ _ _ hn (by omega) (by omega)).mono ?_; rintro e w' ⟨rfl, rfl⟩)
          | (go_at_call 23; refine (two_any _ _ (by omega) (by omega)).mono ?_; rintro e w' ⟨rfl, rfl⟩))
        go_round
        case rel => exact ⟨j + 1, by omega, by go_num, by first | rw [← HS.out]; rfl | skip⟩
        case measure => simp [intOf]; omega
      · have : j = s := by omega
        subst this
        go_wp2
        exact HQ.out _ _ ⟨ret_int (by rw [fieldN, if_pos Hb.out]; rfl), rfl⟩
  · have hb' : mayB a s = false := by simpa using hb
    rw [hb'] at hc
    have H := Lib.hid hc
    have Hb := Lib.hid hb
    clear hc hb hb'
    go_enter Try.func9, Try.ntmps9
    go_wp2_with (go_at_call 19; refine H.out.mono ?_; rintro e w' ⟨rfl, rfl⟩)
    exact HQ.out _ _ ⟨ret_int (by rw [fieldN, if_neg Hb.out]; rfl), rfl⟩

/-! ### Lay -/
theorem bit_div (n i : Nat) : n / 2 ^ i % 2 = (n.testBit i).toNat := by
  rw [Nat.testBit_eq_decide_div_mod_eq]
  have := rmayf n i
  by_cases h : n / 2 ^ i % 2 = 1
  · simp [h]
  · simp [h]; omega
theorem place_bit (a s : Int) (i : Nat) : (placeN a s).testBit i = decide (a.toNat ≤ i ∧ i < a.toNat + s.toNat) := by
  unfold placeN
  rw [Nat.testBit_mul_two_pow, Nat.testBit_two_pow_sub_one]
  rw [Bool.eq_iff_iff]; simp; omega
theorem lay_bit {n v : Nat} {a s : Int} (h : mayB a s = true) {i : Nat} (hi : i < 64) :
    (layN n a s v).testBit i = if a.toNat ≤ i ∧ i < a.toNat + s.toNat then v.testBit (i - a.toNat) else n.testBit i := by
  rw [layN, if_pos h, Nat.testBit_or, andNotN_bit, Nat.testBit_and, place_bit]
  have e : (18446744073709551616 : Nat) = 2 ^ 64 := by decide
  rw [e, Nat.testBit_mod_two_pow, Nat.testBit_mul_two_pow]
  by_cases hc : a.toNat ≤ i ∧ i < a.toNat + s.toNat
  · simp [hc, hi]
  · rw [if_neg hc]; simp only [hi, decide_true, Bool.true_and, hc, decide_false, Bool.not_false, Bool.and_true, Bool.and_false, Bool.or_false]
theorem layN_lt {n v : Nat} {a s : Int} (hn : n < 18446744073709551616) : layN n a s v < 18446744073709551616 := by
  by_cases h : mayB a s = true
  · rw [layN, if_pos h]
    have h1 := andNotN_lt n (placeN a s)
    have h2 : ((v * 2 ^ a.toNat % 18446744073709551616) &&& placeN a s) < 18446744073709551616 := Nat.lt_of_le_of_lt Nat.and_le_left (Nat.mod_lt _ (by decide))
    exact Nat.or_lt_two_pow (n := 64) (by omega) (by omega)
  · rw [layN, if_neg h]; exact hn
theorem rlay_step (m j b : Nat) (hb : m / 2 ^ j % 2 = b) (hj : j ≤ 63) :
    IntKind.u64.wrap (((m % 2 ^ j : Nat) : Int) + IntKind.u64.wrap ((b : Int) * ((2 ^ j : Nat) : Int))) = ((m % 2 ^ (j + 1) : Nat) : Int) := by
  have h := rfield_sum m 0 j hj
  simp only [Nat.pow_zero, Nat.div_one, Nat.zero_add] at h
  rw [← hb]; exact h
set_option maxHeartbeats 1000000 in
theorem rlay_any (n a s v : Int) (w : World) (hn : U64 n) (hv : U64 v) :
    Calls Try.prog 11 #[.int .u64 n, .int .i64 a, .int .i64 s, .int .u64 v] w fun e w' => e = .returned (.int .u64 (layN n.toNat a s v.toNat)) ∧ w' = w := by
  obtain ⟨n, rfl⟩ := Int.eq_ofNat_of_zero_le hn.lo
  obtain ⟨v, rfl⟩ := Int.eq_ofNat_of_zero_le hv.lo
  rw [Int.toNat_natCast, Int.toNat_natCast]
  refine calls_q fun Q HQ => ?_
  have hc := rmay_any a s w
  by_cases hb : mayB a s = true
  · have hb' := may_iff.1 hb
    rw [hb] at hc
    have H := Lib.hid hc
    have Hb := Lib.hid hb
    clear hc hb
    obtain ⟨a1, a2, s1, s2⟩ := hb'
    obtain ⟨a, rfl⟩ := Int.eq_ofNat_of_zero_le a1
    obtain ⟨s, rfl⟩ := Int.eq_ofNat_of_zero_le s1
    have hml : layN n a s v < 18446744073709551616 := layN_lt (by have := hn.hi; omega)
    have hbit := fun (j : Nat) (hj : j < 64) => lay_bit (n := n) (v := v) Hb.out hj
    generalize layN n a s v = m at *
    have HB := Lib.hid hbit
    clear hbit
    have HM := Lib.hid hml
    clear hml
    go_enter Try.func11, Try.ntmps11
    go_wp2_with (go_at_call 19; refine H.out.mono ?_; rintro e w' ⟨rfl, rfl⟩)
    go_loop [9, 10, 11] (fun o i _ => ∃ j : Nat, j ≤ 64 ∧ i = .int .i64 j ∧ o = .int .u64 (m % 2 ^ j : Nat)) (fun _ i _ => 64 - (intOf i).toNat)
    case atStart => exact ⟨0, Nat.zero_le _, rfl, by simp [Nat.mod_one]⟩
    case round =>
      obtain ⟨j, hj, rfl, rfl⟩ := hrel
      by_cases hlt : j < 64
      · by_cases c1 : a ≤ j
        · by_cases c2 : j < a + s
          · have hbb : m / 2 ^ j % 2 = v / 2 ^ (j - a) % 2 := by
              rw [bit_div, bit_div, HB.out j hlt, if_pos (by simp; omega)]; simp
            have HS := Lib.hid (rlay_step m j _ hbb (by omega))
            clear hbb
            go_wp2_with (first
              | (go_at_call 22; refine (rbit_any _ _ _ (by first | exact hn | exact hv) (by omega) (by omega)).mono ?_; rintro e w' ⟨rfl, rfl⟩)
              | (go_at_call 23; refine (two_any _ _ (by omega) (by omega)).mono ?_; rintro e w' ⟨rfl, rfl⟩))
            go_round
            case rel => exact ⟨j + 1, by omega, by go_num, by rw [← HS.out]; simp; done⟩
            case measure => simp [intOf]; omega
          · have hbb : m / 2 ^ j % 2 = n / 2 ^ j % 2 := by
              rw [bit_div, bit_div, HB.out j hlt, if_neg (by simp; omega)]
            have HS := Lib.hid (rlay_step m j _ hbb (by omega))
            clear hbb
            go_wp2_with (first
              | (go_at_call 22; refine (rbit_any _ _ _ (by first | exact hn | exact hv) (by omega) (by omega)).mono ?_; rintro e w' ⟨rfl, rfl⟩)
              | (go_at_call 23; refine (two_any _ _ (by omega) (by omega)).mono ?_; rintro e w' ⟨rfl, rfl⟩))
            go_round
            case rel => exact ⟨j + 1, by omega, by go_num, by rw [← HS.out]; simp; done⟩
            case measure => simp [intOf]; omega
        · have hbb : m / 2 ^ j % 2 = n / 2 ^ j % 2 := by
            rw [bit_div, bit_div, HB.out j hlt, if_neg (by simp; omega)]
          have HS := Lib.hid (rlay_step m j _ hbb (by omega))
          clear hbb
          go_wp2_with (first
            | (go_at_call 22; refine (rbit_any _ _ _ (by first | exact hn | exact hv) (by omega) (by omega)).mono ?_; rintro e w' ⟨rfl, rfl⟩)
            | (go_at_call 23; refine (two_any _ _ (by omega) (by omega)).mono ?_; rintro e w' ⟨rfl, rfl⟩))
          go_round
          case rel => exact ⟨j + 1, by omega, by go_num, by rw [← HS.out]; simp; done⟩
          case measure => simp [intOf]; omega
      · have : j = 64 := by omega
        subst this
        go_wp2
        exact HQ.out _ _ ⟨ret_int (by have := HM.out; show (m : Int) % 18446744073709551616 = m; omega), rfl⟩
  · have hb' : mayB a s = false := by simpa using hb
    rw [hb'] at hc
    have H := Lib.hid hc
    have Hb := Lib.hid hb
    clear hc hb hb'
    go_enter Try.func11, Try.ntmps11
    go_wp2_with (go_at_call 19; refine H.out.mono ?_; rintro e w' ⟨rfl, rfl⟩)
    exact HQ.out _ _ ⟨ret_int (by rw [layN, if_neg Hb.out]), rfl⟩

/-! ### Signed -/
theorem rsig_step (n j : Nat) (hj : j ≤ 62) : wrap64 (((n % 2 ^ j : Nat) : Int) + wrap64 (IntKind.u64.wrap (((n / 2 ^ j % 2 : Nat) : Int) * ((2 ^ j : Nat) : Int)))) = ((n % 2 ^ (j + 1) : Nat) : Int) := by
  have h1 : n % 2 ^ j < 2 ^ j := Nat.mod_lt _ (Nat.two_pow_pos j)
  have h2 := rmayf n j
  have h3 : (2:Nat) ^ j ≤ 2 ^ 62 := Nat.pow_le_pow_right (by decide) hj
  have h4 : n / 2 ^ j % 2 * 2 ^ j ≤ 1 * 2 ^ j := Nat.mul_le_mul_right _ (by omega)
  have h5 : n % 2 ^ (j + 1) = n % 2 ^ j + n / 2 ^ j % 2 * 2 ^ j := by
    have := rfield_step n 0 j
    simpa using this
  rw [h5, wrap_u64, ← Int.natCast_mul, show ((n / 2 ^ j % 2 * 2 ^ j : Nat) : Int) % 18446744073709551616 = ((n / 2 ^ j % 2 * 2 ^ j : Nat) : Int) by omega]
  generalize n / 2 ^ j % 2 * 2 ^ j = y at *
  rw [IntWalk.wrap64_in (y : Int) (by omega), IntWalk.wrap64_in _ (by omega)]
  omega
theorem rsig_last (n k : Nat) (hk : k ≤ 63) (hb : n / 2 ^ k % 2 = 1) :
    wrap64 (wrap64 (((n % 2 ^ k : Nat) : Int) - wrap64 (IntKind.u64.wrap (((2 ^ k : Nat) : Int) - 1))) - 1) = signedN n (k + 1) := by
  have h1 : n % 2 ^ k < 2 ^ k := Nat.mod_lt _ (Nat.two_pow_pos k)
  have h3 := pow_le_63 hk
  have h5 : n % 2 ^ (k + 1) = n % 2 ^ k + n / 2 ^ k % 2 * 2 ^ k := by
    have := rfield_step n 0 k
    simpa using this
  have h6 : (2:Nat) ^ (k + 1) = 2 * 2 ^ k := by rw [Nat.pow_succ]; omega
  rw [hb] at h5
  rw [signedN, if_pos (by omega), show ((k : Int) + 1).toNat = k + 1 by omega, show k + 1 - 1 = k from rfl, natpow_cast, wrap_u64]
  rw [h5, h6]
  generalize n % 2 ^ k = m at *
  generalize (2:Nat) ^ k = p at *
  rw [show ((p : Int) - 1) % 18446744073709551616 = (p : Int) - 1 by omega, IntWalk.wrap64_in ((p : Int) - 1) (by omega), IntWalk.wrap64_in ((m : Int) - ((p : Int) - 1)) (by omega), IntWalk.wrap64_in _ (by omega), if_neg (by omega)]
  omega
theorem rsig_last0 (n k : Nat) (hk : k ≤ 63) (hb : n / 2 ^ k % 2 = 0) : ((n % 2 ^ k : Nat) : Int) = signedN n (k + 1) := by
  have h1 : n % 2 ^ k < 2 ^ k := Nat.mod_lt _ (Nat.two_pow_pos k)
  have h5 : n % 2 ^ (k + 1) = n % 2 ^ k + n / 2 ^ k % 2 * 2 ^ k := by
    have := rfield_step n 0 k
    simpa using this
  rw [hb] at h5
  rw [signedN, if_pos (by omega), show ((k : Int) + 1).toNat = k + 1 by omega, show k + 1 - 1 = k from rfl, h5, if_pos (by omega)]
  omega
set_option maxHeartbeats 1000000 in
theorem rsigned_any (n s : Int) (w : World) (hn : U64 n) :
    Calls Try.prog 13 #[.int .u64 n, .int .i64 s] w fun e w' => e = .returned (.int .i64 (signedN n.toNat s)) ∧ w' = w := by
  obtain ⟨n, rfl⟩ := Int.eq_ofNat_of_zero_le hn.lo
  rw [Int.toNat_natCast]
  refine calls_q fun Q HQ => ?_
  by_cases h1 : 1 ≤ s
  · by_cases h2 : s ≤ 64
    · obtain ⟨k, rfl⟩ : ∃ k : Nat, s = (k : Int) + 1 := ⟨(s - 1).toNat, by omega⟩
      go_enter Try.func13, Try.ntmps13
      go_wp2
      go_loop [5, 6] (fun o i => ∃ j : Nat, j ≤ k ∧ i = .int .i64 j ∧ o = .int .i64 (n % 2 ^ j : Nat)) (fun _ i => k - (intOf i).toNat)
      case atStart => exact ⟨0, Nat.zero_le _, rfl, by simp [Nat.mod_one]⟩
      case round =>
        obtain ⟨j, hj, rfl, rfl⟩ := hrel
        by_cases hlt : j < k
        · have HS := Lib.hid (rsig_step n j (by omega))
          go_wp2_with (first
            | (go_at_call 22; refine (rbit_any _ _ _ hn (by omega) (by omega)).mono ?_; rintro e w' ⟨rfl, rfl⟩)
            | (go_at_call 23; refine (two_any _ _ (by omega) (by omega)).mono ?_; rintro e w' ⟨rfl, rfl⟩))
          go_round
          case rel => exact ⟨j + 1, by omega, by go_num, by rw [← HS.out]; simp; done⟩
          case measure => simp [intOf]; omega
        · have : j = k := by omega
          subst this
          have hr := rbit_any n j w hn (by omega) (by omega)
          simp only [Int.toNat_natCast] at hr
          rcases (show n / 2 ^ j % 2 = 1 ∨ n / 2 ^ j % 2 = 0 by have := rmayf n j; omega) with hb | hb
          · rw [hb] at hr
            have HR := Lib.hid hr
            have HS := Lib.hid (rsig_last n j (by omega) hb)
            clear hr hb
            go_wp2_with (first
              | (go_at_call 22; refine HR.out.mono ?_; rintro e w' ⟨rfl, rfl⟩)
              | (go_at_call 23; refine (two_any _ _ (by omega) (by omega)).mono ?_; rintro e w' ⟨rfl, rfl⟩))
            exact HQ.out _ _ ⟨ret_int HS.out, rfl⟩
          · rw [hb] at hr
            have HR := Lib.hid hr
            have HS := Lib.hid (rsig_last0 n j (by omega) hb)
            clear hr hb
            go_wp2_with (go_at_call 22; refine HR.out.mono ?_; rintro e w' ⟨rfl, rfl⟩)
            exact HQ.out _ _ ⟨ret_int HS.out, rfl⟩
    · go_enter Try.func13, Try.ntmps13
      go_wp2
      exact HQ.out _ _ ⟨ret_int (by rw [signedN, if_neg (by omega)]), rfl⟩
  · go_enter Try.func13, Try.ntmps13
    go_wp2
    exact HQ.out _ _ ⟨ret_int (by rw [signedN, if_neg (by omega)]), rfl⟩
end Go.Proofs.Ytgimnmfldpbpeaa
