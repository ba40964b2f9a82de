/- The walks of package bits' numbers: what each call answers. -/
import Derived.Test.YtgimnmfldpbpeaaBase
namespace Go.Proofs.Ytgimnmfldpbpeaa
open Go.RowKit
/-! ### specifications -/
def mayB (a s : Int) : Bool := decide (0 ≤ a ∧ a ≤ 63 ∧ 0 ≤ s ∧ s ≤ 64 - a)
def fieldN (n : Nat) (a s : Int) : Nat := if mayB a s then n / 2 ^ a.toNat % 2 ^ s.toNat else 0
def placeN (a s : Int) : Nat := (2 ^ s.toNat - 1) * 2 ^ a.toNat
def layN (n : Nat) (a s : Int) (v : Nat) : Nat :=
  if mayB a s then andNotN n (placeN a s) ||| ((v * 2 ^ a.toNat % 18446744073709551616) &&& placeN a s) else n
theorem may_iff {a s : Int} : mayB a s = true ↔ 0 ≤ a ∧ a ≤ 63 ∧ 0 ≤ s ∧ s ≤ 64 - a := by simp [mayB]

theorem ones_eq (s : Nat) (h : s ≤ 64) : IntKind.u64.wrap (IntKind.u64.wrap (2 ^ s) - 1) = ((2 ^ s - 1 : Nat) : Int) := by
  simp only [wrap_u64]
  by_cases e : s = 64
  · subst e; decide
  · have h1 := pow_le_63 (s := s) (by omega)
    have h2 : 0 < (2:Nat) ^ s := Nat.two_pow_pos _
    rw [natpow_cast]; omega

set_option maxHeartbeats 400000 in
theorem ones_any (s : Int) (w : World) (h0 : 0 ≤ s) (h : s ≤ 64) :
    Calls Try.prog 21 #[.int .i64 s] w fun e w' => e = .returned (.int .u64 (2^s.toNat - 1 : Nat)) ∧ w' = w := by
  refine calls_q fun Q HQ => ?_
  go_enter Try.func21, Try.ntmps21
  go_wp2
  exact HQ.out _ _ ⟨ret_int (ones_eq s.toNat (by omega)), rfl⟩

set_option maxHeartbeats 400000 in
theorem may_any (a s : Int) (w : World) :
    Calls Try.prog 20 #[.int .i64 a, .int .i64 s] w fun e w' => e = .returned (.bool (mayB a s)) ∧ w' = w := by
  refine calls_q fun Q HQ => ?_
  go_enter Try.func20, Try.ntmps20
  go_wp2
  all_goals exact HQ.out _ _ ⟨ret_bool (by rw [Bool.eq_iff_iff]; simp [mayB]; omega), rfl⟩
set_option maxHeartbeats 400000 in
theorem rmay_any (a s : Int) (w : World) :
    Calls Try.prog 19 #[.int .i64 a, .int .i64 s] w fun e w' => e = .returned (.bool (mayB a s)) ∧ w' = w := by
  refine calls_q fun Q HQ => ?_
  go_enter Try.func19, Try.ntmps19
  go_wp2
  all_goals exact HQ.out _ _ ⟨ret_bool (by rw [Bool.eq_iff_iff]; simp [mayB]; omega), rfl⟩
theorem field_eq (n a s : Nat) (hn : n < 18446744073709551616) : bits .and .u64 ((n : Int) / 2 ^ a) ((2 ^ s - 1 : Nat) : Int) = ((n / 2 ^ a % 2 ^ s : Nat) : Int) := by
  rw [natpow_cast, show ((n : Int) / ((2 ^ a : Nat) : Int)) = ((n / 2 ^ a : Nat) : Int) by simp, u64_and_nat _ _ (Nat.lt_of_le_of_lt (Nat.div_le_self _ _) hn), Nat.and_two_pow_sub_one_eq_mod]
set_option maxHeartbeats 400000 in
theorem field_any (n a s : Int) (w : World) (hu : U64 n) :
    Calls Try.prog 8 #[.int .u64 n, .int .i64 a, .int .i64 s] w fun e w' => e = .returned (.int .u64 (fieldN n.toNat a s)) ∧ ∃ k, w' = w.drewN k := by
  obtain ⟨n, rfl⟩ := Int.eq_ofNat_of_zero_le hu.lo
  rw [Int.toNat_natCast]
  refine calls_q fun Q HQ => ?_
  have hc := may_any a s w
  by_cases hb : mayB a s = true
  · have hb' := may_iff.1 hb
    rw [hb] at hc
    have H := Lib.hid hc
    have Hb := Lib.hid hb
    clear hc hb
    obtain ⟨a1, a2, s1, s2⟩ := hb'
    go_enter Try.func8, Try.ntmps8
    go_wp2_with (go_at_call 20; refine H.out.mono ?_; rintro e w' ⟨rfl, rfl⟩)
    go_quiet ((go_at_call 21; exact Calls.quiet_of_same (ones_any _ _ (by omega) (by omega))))
    go_wp2
    refine HQ.out _ _ ⟨ret_int ?_, _, rfl⟩
    rw [fieldN, if_pos Hb.out]
    exact field_eq n a.toNat s.toNat (by have := hu.hi; omega)
  · have hb' : mayB a s = false := by simpa using hb
    rw [hb'] at hc
    have H := Lib.hid hc
    have Hb := Lib.hid hb
    clear hc hb hb'
    go_enter Try.func8, Try.ntmps8
    go_wp2_with (go_at_call 20; refine H.out.mono ?_; rintro e w' ⟨rfl, rfl⟩)
    refine HQ.out _ _ ⟨ret_int ?_, 0, rfl⟩
    rw [fieldN, if_neg Hb.out]; rfl
end Go.Proofs.Ytgimnmfldpbpeaa
