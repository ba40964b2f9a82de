/- Bits of a byte: bits.Field with numbers that are there. -/
import Derived.Test.YtjohjilfmhgdnaaBField
import Derived.Test.YtjohjilfmhgdnaaFr
namespace Go.Proofs.Ytjohjilfmhgdnaa
open Go.RowKit
theorem fieldN_eq (n a s : Nat) (h : a + s ≤ 64) (ha : a ≤ 63) : fieldN n (a : Int) (s : Int) = n / 2 ^ a % 2 ^ s := by
  unfold fieldN
  rw [if_pos (by rw [may_iff]; omega), Int.toNat_natCast, Int.toNat_natCast]
theorem u64n (n : Nat) (h : n < 256) : U64 (n : Int) := ⟨by omega, by omega⟩
/-- bits of a byte -/
theorem fld_any (n a s : Nat) (hn : n < 256) (h : a + s ≤ 64) (ha : a ≤ 63) (w : World) :
    Calls Try.prog 21 #[.int .u64 (n : Nat), .int .i64 (a : Nat), .int .i64 (s : Nat)] w fun e w' => e = .returned (.int .u64 (n / 2 ^ a % 2 ^ s : Nat)) ∧ ∃ k, w' = w.drewN k := by
  have hc := field_any n a s w (u64n n hn)
  rw [Int.toNat_natCast, fieldN_eq n a s h ha] at hc
  exact hc
theorem fr_drewN {w0 w : World} {F : Nat → Prop} (h : Fr F w0 w) (n : Nat) : Fr F w0 (w.drewN n) := h.trans (Fr.drewN w n) (fun _ h => h.elim)
end Go.Proofs.Ytjohjilfmhgdnaa
