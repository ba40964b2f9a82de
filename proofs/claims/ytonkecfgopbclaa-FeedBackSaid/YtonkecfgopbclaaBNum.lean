/- The walk of bits.Number. -/
import Derived.Test.YtonkecfgopbclaaMem
namespace Go.Proofs.Ytonkecfgopbclaa
open Go.RowKit
/-! ### the last eight bytes -/
def lastN (l : List UInt8) : List UInt8 := l.drop (l.length - 8)
theorem beN_last (l : List UInt8) : beN l % 18446744073709551616 = beN (lastN l) := by
  have h := beN_append (l.take (l.length - 8)) (lastN l)
  rw [lastN, List.take_append_drop] at h
  rw [← lastN] at h
  have h2 := beN_lt (lastN l)
  have hl : (lastN l).length = l.length - (l.length - 8) := by simp [lastN]
  by_cases h8 : 8 ≤ l.length
  · rw [show (lastN l).length = 8 by omega] at h h2
    rw [h, show (256 : Nat) ^ 8 = 18446744073709551616 by decide, Nat.mul_add_mod_self_right]
    exact Nat.mod_eq_of_lt (by omega)
  · have : lastN l = l := by rw [lastN, show l.length - 8 = 0 by omega]; rfl
    rw [this] at h2 ⊢
    have h3 : (256 : Nat) ^ l.length ≤ 256 ^ 7 := Nat.pow_le_pow_right (by decide) (by omega)
    exact Nat.mod_eq_of_lt (by omega)
theorem num_step (m x : Nat) (hm : m < 72057594037927936) (hx : x < 256) : bits .or .u64 (IntKind.u64.wrap ((m : Int) * 256)) (x : Int) = ((m * 256 + x : Nat) : Int) := by
  have e : IntKind.u64.wrap ((m : Int) * 256) = ((m * 256 : Nat) : Int) := by rw [wrap_u64]; omega
  rw [e, u64_or_nat _ _ (by omega) (by omega)]
  have h := Nat.two_pow_add_eq_or_of_lt (i := 8) (b := x) (by omega) m
  rw [show (2 : Nat) ^ 8 = 256 by decide, Nat.mul_comm] at h
  rw [h]
theorem beN_small (l : List UInt8) (h : l.length ≤ 7) : beN l < 72057594037927936 := by
  have h1 := beN_lt l
  have h3 : (256 : Nat) ^ l.length ≤ 256 ^ 7 := Nat.pow_le_pow_right (by decide) h
  omega
set_option maxHeartbeats 400000 in
theorem num_any (v : Value) (l : List UInt8) (w : World) (hv : BS w v l) :
    Calls Try.prog 47 #[v] w fun e w' => e = .returned (.int .u64 (beN (lastN l) : Nat)) ∧ w' = w := by
  have hlen := hv.len
  obtain ⟨A, c, rfl, hc, hm, hr⟩ := hv
  have HR := Lib.hid hr
  unfold maxLen at hm
  clear hr
  refine calls_q fun Q HQ => ?_
  by_cases h8 : l.length ≤ 8
  · have h8' : (l.length : Int) ≤ 8 := by omega
    have hL : lastN l = l := by rw [lastN, show l.length - 8 = 0 by omega]; rfl
    rw [hL] at HQ
    clear hL
    go_enter Try.func47, Try.ntmps47
    go_wp2
    go_loop [3, 13] (fun o i => ∃ j : Nat, j ≤ l.length ∧ i = .int .i64 j ∧ o = .int .u64 (beN (l.take j) : Nat)) (fun _ i => l.length - (intOf i).toNat)
    case atStart => exact ⟨0, Nat.zero_le _, rfl, by simp [beN]⟩
    case round =>
      obtain ⟨j, hj, rfl, rfl⟩ := hrel
      by_cases hlt : j < l.length
      · obtain ⟨b, o, rfl, hb, hcell⟩ := HR.out (by omega)
        have hc1 := hcell j hlt
        clear hcell
        have HT := Lib.hid (beN_take l j hlt)
        have hx := UInt8.toNat_lt l[j]
        have HS := Lib.hid (num_step (beN (l.take j)) l[j].toNat (beN_small _ (by simp; omega)) hx)
        go_wp2
        go_round
        case rel => exact ⟨j + 1, by omega, by go_num, by rw [HT.out, ← HS.out]⟩
        case measure => simp [intOf]; omega
      · have : j = l.length := by omega
        subst this
        go_wp2
        exact HQ.out _ _ ⟨ret_int (by simp), rfl⟩
  · have h8' : 8 < (l.length : Int) := by omega
    have hcap : ¬ c = ((l.length : Int) - 8).toNat := by omega
    go_enter Try.func47, Try.ntmps47
    go_wp2
    have hR2 := HR.out.drop (l.length - 8)
    rw [← lastN] at hR2
    have hl8 : (lastN l).length = 8 := by simp [lastN]; omega
    generalize Option.map (fun x => x.add (l.length - 8)) A = A2 at *
    rw [show l.length - (l.length - 8) = 8 by omega]
    generalize lastN l = m at *
    have HR2 := Lib.hid hR2
    have H8 := Lib.hid hl8
    clear hR2 hl8
    go_loop [3, 5, 13] (fun o _ i => ∃ j : Nat, j ≤ 8 ∧ i = .int .i64 j ∧ o = .int .u64 (beN (m.take j) : Nat)) (fun _ _ i => 8 - (intOf i).toNat)
    case atStart => exact ⟨0, Nat.zero_le _, rfl, by simp [beN]⟩
    case round =>
      obtain ⟨j, hj, rfl, rfl⟩ := hrel
      by_cases hlt : j < 8
      · have hlt2 : j < m.length := by have := H8.out; omega
        obtain ⟨b, o, rfl, hb, hcell⟩ := HR2.out (by omega)
        have hc1 := hcell j hlt2
        clear hcell
        have HT := Lib.hid (beN_take m j hlt2)
        have hx := UInt8.toNat_lt m[j]
        have HS := Lib.hid (num_step (beN (m.take j)) m[j].toNat (beN_small _ (by simp; omega)) hx)
        go_wp2
        go_round
        case rel => exact ⟨j + 1, by omega, by go_num, by rw [HT.out, ← HS.out]⟩
        case measure => simp [intOf]; omega
      · have : j = 8 := by omega
        subst this
        go_wp2
        exact HQ.out _ _ ⟨ret_int (by rw [List.take_of_length_le (by have := H8.out; omega)]), rfl⟩
end Go.Proofs.Ytonkecfgopbclaa
