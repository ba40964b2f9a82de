/- The walk of the document's answer for bits.Number. -/
import Derived.Test.YthgajlmhgbhmlaaMem
namespace Go.Proofs.Ythgajlmhgbhmlaa
open Go.RowKit
theorem rnum_step (m x : Nat) : IntKind.u64.wrap (IntKind.u64.wrap (256 * ((m % 18446744073709551616 : Nat) : Int)) + (x : Int)) = (((m * 256 + x) % 18446744073709551616 : Nat) : Int) := by
  rw [wrap_u64, wrap_u64]; omega
set_option maxHeartbeats 400000 in
theorem rnumber_any (v : Value) (l : List UInt8) (w : World) (hv : BS w v l) :
    Calls Try.prog 45 #[v] w fun e w' => e = .returned (.int .u64 (beN l % 18446744073709551616 : Nat)) ∧ w' = w := by
  have hlen := hv.len
  obtain ⟨A, c, rfl, hc, hm, hr⟩ := hv
  have HR := Lib.hid hr
  clear hr hm hc
  refine calls_q fun Q HQ => ?_
  go_enter Try.func45, Try.ntmps45
  go_wp2
  go_loop [3, 4] (fun o i => ∃ j : Nat, j ≤ l.length ∧ i = .int .i64 j ∧ o = .int .u64 (beN (l.take j) % 18446744073709551616 : Nat)) (fun _ i => l.length - (intOf i).toNat)
  case atStart => exact ⟨0, Nat.zero_le _, rfl, by simp [beN]⟩
  case round =>
    obtain ⟨j, hj, rfl, rfl⟩ := hrel
    by_cases hlt : j < l.length
    · obtain ⟨b, o, rfl, hb, hcell⟩ := HR.out (by omega)
      have hc1 := hcell j hlt
      clear hcell
      have HS := Lib.hid (rnum_step (beN (l.take j)) l[j].toNat)
      have HT := Lib.hid (beN_take l j hlt)
      have hx := UInt8.toNat_lt l[j]
      go_wp2
      go_round
      case rel => exact ⟨j + 1, by omega, by go_num, by rw [HT.out, ← HS.out]; rfl⟩
      case measure => simp [intOf]; omega
    · have : j = l.length := by omega
      subst this
      go_wp2
      exact HQ.out _ _ ⟨ret_int (by simp), rfl⟩

end Go.Proofs.Ythgajlmhgbhmlaa
