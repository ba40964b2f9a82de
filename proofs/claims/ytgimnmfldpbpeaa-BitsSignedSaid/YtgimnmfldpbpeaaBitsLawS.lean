/- The walk of the law on numbers with a sign. -/
import Derived.Test.YtgimnmfldpbpeaaBitsLaw
namespace Go.Proofs.Ytgimnmfldpbpeaa
open Go.RowKit

/-- a number with a sign, as 64 bits -/
def asU (z : Int) : Int := z % 18446744073709551616
theorem asU_eq (z : Int) : asU z = IntKind.u64.wrap z := (wrap_u64 z).symm
theorem asU_u64 (z : Int) : U64 (asU z) := ⟨by unfold asU; omega, by unfold asU; omega⟩
theorem pow_mul_split {k : Nat} (h : k ≤ 64) : ∃ q : Nat, 18446744073709551616 = q * 2 ^ k := ⟨2 ^ (64 - k), by rw [← Nat.pow_add, show 64 - k + k = 64 by omega]⟩
theorem signedN_rng (n : Nat) (k : Nat) (h1 : 1 ≤ k) (h2 : k ≤ 64) : -(2 ^ (k - 1) : Nat) ≤ signedN n k ∧ signedN n k < (2 ^ (k - 1) : Nat) := by
  obtain ⟨j, rfl⟩ : ∃ j, k = j + 1 := ⟨k - 1, by omega⟩
  have hlt : n % 2 ^ (j + 1) < 2 ^ (j + 1) := Nat.mod_lt _ (Nat.two_pow_pos _)
  have e : (2 : Nat) ^ (j + 1) = 2 * 2 ^ j := by rw [Nat.pow_succ]; omega
  rw [signedN, if_pos (by omega), show ((j + 1 : Nat) : Int).toNat = j + 1 by omega, natpow_cast, show j + 1 - 1 = j from rfl]
  rw [e] at hlt ⊢
  generalize n % (2 * 2 ^ j) = m at *
  generalize (2 : Nat) ^ j = p at *
  split <;> omega
/-- modulo the size's power it is what it was told by -/
theorem asU_mod (n : Nat) (k : Nat) (h1 : 1 ≤ k) (h2 : k ≤ 64) : (asU (signedN n k)).toNat % 2 ^ k = n % 2 ^ k := by
  obtain ⟨q, hq⟩ := pow_mul_split h2
  have hlt : n % 2 ^ k < 2 ^ k := Nat.mod_lt _ (Nat.two_pow_pos _)
  have hp := Nat.two_pow_pos k
  have key : asU (signedN n k) % ((2 ^ k : Nat) : Int) = ((n % 2 ^ k : Nat) : Int) := by
    unfold asU
    have e1 : (18446744073709551616 : Int) = ((2 ^ k : Nat) : Int) * (q : Int) := by
      have : ((18446744073709551616 : Nat) : Int) = ((q * 2 ^ k : Nat) : Int) := by rw [← hq]
      rw [Int.natCast_mul, Int.mul_comm] at this
      exact this
    rw [e1, Int.emod_emod_of_dvd _ (Int.dvd_mul_right _ _), signedN, if_pos (by omega), show (k : Int).toNat = k by omega, natpow_cast]
    generalize n % 2 ^ k = m at *
    generalize (2 : Nat) ^ k = p at *
    split
    · exact Int.emod_eq_of_lt (by omega) (by omega)
    · rw [Int.sub_emod, Int.emod_self]
      simp only [Int.sub_zero, Int.emod_emod]
      exact Int.emod_eq_of_lt (by omega) (by omega)
  have h0 := (asU_u64 (signedN n k)).lo
  have h3 : (((asU (signedN n k)).toNat % 2 ^ k : Nat) : Int) = ((n % 2 ^ k : Nat) : Int) := by
    rw [Int.natCast_emod, Int.toNat_of_nonneg h0]
    exact key
  omega
theorem sig1 (n k : Nat) (h1 : 1 ≤ k) (h2 : k ≤ 64) : fieldN (asU (signedN n k)).toNat 0 k = fieldN n 0 k := by
  have hm : mayB 0 (k : Int) = true := may_iff.2 (by omega)
  have h := asU_mod n k h1 h2
  simp only [fieldN, if_pos hm, Int.toNat_natCast, Int.toNat_zero, Nat.pow_zero, Nat.div_one]
  exact h
theorem sig2 (n k : Nat) (h1 : 1 ≤ k) (h2 : k ≤ 64) : signedN (asU (signedN n k)).toNat k = signedN n k := by
  have h := asU_mod n k h1 h2
  rw [signedN, Int.toNat_natCast, h]
  rw [signedN, Int.toNat_natCast]
theorem sig3 (z : Int) (h1 : -9223372036854775808 ≤ z) (h2 : z < 9223372036854775808) : signedN (asU z).toNat 64 = z := by
  rw [signedN, if_pos (by omega)]
  unfold asU
  simp only [show (64 : Int).toNat = 64 from rfl, show (64 - 1 : Nat) = 63 from rfl]
  rw [show (2 : Nat) ^ 64 = 18446744073709551616 by decide, show (2 : Nat) ^ 63 = 9223372036854775808 by decide, natpow_cast, show (2 : Nat) ^ 64 = 18446744073709551616 by decide]
  split <;> omega
set_option maxHeartbeats 1000000 in
theorem signed_walk (n s : Int) (hn : U64 n) (w : World) :
    Calls Try.prog 6 #[.int .u64 n, .int .i64 s] w fun e w' => e = .returned (.bool true) ∧ Below w.heap.size w w' := by
  obtain ⟨n, rfl⟩ := Int.eq_ofNat_of_zero_le hn.lo
  refine calls_q fun Q HQ => ?_
  by_cases h1 : 1 ≤ s
  · by_cases h2 : s ≤ 64
    · obtain ⟨k, rfl⟩ := Int.eq_ofNat_of_zero_le (show 0 ≤ s by omega)
      have hr := signedN_rng n k (by omega) (by omega)
      have f1 := fun W => signed_any n k W hn
      have f2 := fun W => field_any (asU (signedN n k)) 0 k W (asU_u64 _)
      have f3 := fun W => field_any n 0 k W hn
      have f4 := fun W => signed_any (asU (signedN n k)) k W (asU_u64 _)
      have f5 := fun W => signed_any (asU (signedN n k)) 64 W (asU_u64 _)
      rw [sig1 n k (by omega) (by omega)] at f2
      rw [sig2 n k (by omega) (by omega)] at f4
      have hp : (2 : Nat) ^ (k - 1) ≤ 9223372036854775808 := pow_le_63 (by omega)
      rw [sig3 _ (by omega) (by omega)] at f5
      simp only [Int.toNat_natCast] at f1 f3
      rw [asU_eq] at f2 f4 f5
      have F1 := Lib.hid f1
      have F2 := Lib.hid f2
      have F3 := Lib.hid f3
      have F4 := Lib.hid f4
      have F5 := Lib.hid f5
      clear f1 f2 f3 f4 f5
      generalize signedN n k = z at *
      rcases (show k < 64 ∨ k = 64 by omega) with hk | rfl
      · have hp62 : (2 : Nat) ^ (k - 1) ≤ 4611686018427387904 := by
          have : (2 : Nat) ^ (k - 1) ≤ 2 ^ 62 := Nat.pow_le_pow_right (by decide) (by omega)
          omega
        have e1 : wrap64 ((2 : Int) ^ (k - 1)) = ((2 ^ (k - 1) : Nat) : Int) := by rw [natpow_cast]; exact IntWalk.wrap64_in _ (by omega)
        have e2 : wrap64 (-((2 ^ (k - 1) : Nat) : Int)) = -((2 ^ (k - 1) : Nat) : Int) := IntWalk.wrap64_in _ (by omega)
        clear hp hp62
        generalize ((2 ^ (k - 1) : Nat) : Int) = half at *
        obtain ⟨r1, r2⟩ := hr
        have hk' : (k : Int) < 64 := by omega
        go_enter Try.func6, Try.ntmps6
        go_wp2_with fail
        refine (awake_any _).mono ?_
        rintro e w1 ⟨rfl, hb1⟩
        have HB := Lib.hid hb1
        clear hb1
        go_wp2_with fail
        refine (F1.out _).mono ?_
        rintro e w2 ⟨rfl, rfl⟩
        go_wp2_with fail
        refine (F2.out _).mono ?_
        rintro e w3 ⟨rfl, k1, rfl⟩
        go_wp2_with fail
        refine (F3.out _).mono ?_
        rintro e w3 ⟨rfl, k2, rfl⟩
        go_wp2_with fail
        refine (F4.out _).mono ?_
        rintro e w3 ⟨rfl, rfl⟩
        go_wp2_with fail
        refine (F5.out _).mono ?_
        rintro e w3 ⟨rfl, rfl⟩
        go_wp2
        exact HQ.out _ _ ⟨rfl, below_drewN HB.out _⟩
      · clear hr hp
        go_enter Try.func6, Try.ntmps6
        go_wp2_with fail
        refine (awake_any _).mono ?_
        rintro e w1 ⟨rfl, hb1⟩
        have HB := Lib.hid hb1
        clear hb1
        go_wp2_with fail
        refine (F1.out _).mono ?_
        rintro e w2 ⟨rfl, rfl⟩
        go_wp2_with fail
        refine (F2.out _).mono ?_
        rintro e w3 ⟨rfl, k1, rfl⟩
        go_wp2_with fail
        refine (F3.out _).mono ?_
        rintro e w3 ⟨rfl, k2, rfl⟩
        go_wp2_with fail
        refine (F4.out _).mono ?_
        rintro e w3 ⟨rfl, rfl⟩
        go_wp2_with fail
        refine (F5.out _).mono ?_
        rintro e w3 ⟨rfl, rfl⟩
        go_wp2
        exact HQ.out _ _ ⟨rfl, below_drewN HB.out _⟩
    · go_enter Try.func6, Try.ntmps6
      go_wp2_with (go_at_call 7; refine (awake_any _).mono ?_; rintro e w1 ⟨rfl, hb1⟩; have HB := Lib.hid hb1; clear hb1)
      all_goals exact HQ.out _ _ ⟨rfl, HB.out⟩
  · go_enter Try.func6, Try.ntmps6
    go_wp2_with (go_at_call 7; refine (awake_any _).mono ?_; rintro e w1 ⟨rfl, hb1⟩; have HB := Lib.hid hb1; clear hb1)
    all_goals exact HQ.out _ _ ⟨rfl, HB.out⟩
end Go.Proofs.Ytgimnmfldpbpeaa
