/- What the calls of package bits answer; the walks of mayBe and ones. -/
import Derived.Test.YteoegmfhfejdkaaBase
namespace Go.Proofs.Yteoegmfhfejdkaa
open Go.RowKit
/-! ### specifications -/
def mayB (a s : Int) : Bool := decide (0 ≤ a ∧ a ≤ 63 ∧ 0 ≤ s ∧ s ≤ 64 - a)
def fieldN (n : Nat) (a s : Int) : Nat := if mayB a s then n / 2 ^ a.toNat % 2 ^ s.toNat else 0
def placeN (a s : Int) : Nat := (2 ^ s.toNat - 1) * 2 ^ a.toNat
def layN (n : Nat) (a s : Int) (v : Nat) : Nat :=
  if mayB a s then andNotN n (placeN a s) ||| ((v * 2 ^ a.toNat % 18446744073709551616) &&& placeN a s) else n
theorem may_iff {a s : Int} : mayB a s = true ↔ 0 ≤ a ∧ a ≤ 63 ∧ 0 ≤ s ∧ s ≤ 64 - a := by simp [mayB]

theorem ones_eq (s : Nat) (h : s ≤ 64) : IntKind.u64.wrap (IntKind.u64.wrap (2 ^ s) - 1) = ((2 ^ s - 1 : Nat) : Int) := by
  simp only [wrap_u64]
  by_cases e : s = 64
  · subst e; decide
  · have h1 := pow_le_63 (s := s) (by omega)
    have h2 : 0 < (2:Nat) ^ s := Nat.two_pow_pos _
    rw [natpow_cast]; omega

set_option maxHeartbeats 400000 in
theorem ones_any (s : Int) (w : World) (h0 : 0 ≤ s) (h : s ≤ 64) :
    Calls Try.prog 22 #[.int .i64 s] w fun e w' => e = .returned (.int .u64 (2^s.toNat - 1 : Nat)) ∧ w' = w := by
  refine calls_q fun Q HQ => ?_
  go_enter Try.func22, Try.ntmps22
  go_wp2
  exact HQ.out _ _ ⟨ret_int (ones_eq s.toNat (by omega)), rfl⟩

set_option maxHeartbeats 400000 in
theorem may_any (a s : Int) (w : World) :
    Calls Try.prog 21 #[.int .i64 a, .int .i64 s] w fun e w' => e = .returned (.bool (mayB a s)) ∧ w' = w := by
  refine calls_q fun Q HQ => ?_
  go_enter Try.func21, Try.ntmps21
  go_wp2
  all_goals exact HQ.out _ _ ⟨ret_bool (by rw [Bool.eq_iff_iff]; simp [mayB]; omega), rfl⟩
end Go.Proofs.Yteoegmfhfejdkaa
