/- The walk of bits.Bytes. -/
import Derived.Test.YtonkecfgopbclaaMem
namespace Go.Proofs.Ytonkecfgopbclaa
open Go.RowKit
/-- the lowest bytes of a number, the highest first -/
def bytesL (x n : Nat) : List UInt8 := (List.range n).map fun i => UInt8.ofNat (x / 256 ^ (n - 1 - i))
theorem bytesL_len (x n : Nat) : (bytesL x n).length = n := by simp [bytesL]
theorem bytesL_get (x n i : Nat) (h : i < (bytesL x n).length) : ((bytesL x n)[i].toNat : Nat) = x / 256 ^ (n - 1 - i) % 256 := by
  simp [bytesL, UInt8.toNat_ofNat']
def bytesI (x : Nat) (s : Int) : List UInt8 := if 0 ≤ s ∧ s ≤ 8 then bytesL x s.toNat else []

theorem conv_u8 (x : Int) : IntKind.u8.wrap x = x % 256 := by simp [IntKind.wrap, IntKind.bits, IntKind.signed]
set_option maxHeartbeats 400000 in
theorem bytes_any (x s : Int) (w : World) (hx : U64 x) :
    Calls Try.prog 51 #[.int .u64 x, .int .i64 s] w fun e w' => ∃ v, e = .returned v ∧ BS w' v (bytesI x.toNat s) ∧ Below w.heap.size w w' := by
  obtain ⟨x, rfl⟩ := Int.eq_ofNat_of_zero_le hx.lo
  rw [Int.toNat_natCast]
  refine calls_q fun Q HQ => ?_
  by_cases h0 : 0 ≤ s
  · by_cases h8 : s ≤ 8
    · obtain ⟨n, rfl⟩ := Int.eq_ofNat_of_zero_le h0
      have hmk := run_make1 (P := Try.prog) Try.underlying27 (z := .int .u8 0) (bytes := 1) (by kernel_rfl) rfl n n (Nat.le_refl _) (by omega) (by omega)
      go_enter Try.func51, Try.ntmps51
      go_wp2
      clear hmk
      go_loopw [16] (fun i wr => ∃ (j : Nat) (cs : Array Value), j ≤ n ∧ i = .int .i64 j ∧ cs.size = n ∧ (∀ i, i < n → cs[i]? = some (.int .u8 (if n - j ≤ i then x / 256 ^ (n - 1 - i) % 256 else 0 : Nat))) ∧ wr = w.alloc (.cells cs 5)) (fun i _ => n - (intOf i).toNat)
      case atStart => exact ⟨0, _, Nat.zero_le _, rfl, by simp, fun i hi => by rw [if_neg (by omega)]; simp [hi], rfl⟩
      case round =>
        obtain ⟨j, cs, hj, rfl, hs, hcs, rfl⟩ := hrel
        by_cases hlt : j < n
        · have hone := hcs (n - 1 - j) (by omega)
          go_wp2
          clear hone
          go_roundw
          case rel =>
            refine ⟨j + 1, _, by omega, by go_num, by simp [hs], fun i hi => ?_, rfl⟩
            by_cases e : n - 1 - j = i
            · subst e
              rw [Array.getElem?_setIfInBounds_self, if_pos (by omega), if_pos (by omega), show n - 1 - (n - 1 - j) = j by omega, show (256 : Nat) = 2 ^ 8 by decide, ← Nat.pow_mul]
              simp
            · rw [Array.getElem?_setIfInBounds_ne e, hcs i hi]
              by_cases h1 : n - j ≤ i
              · rw [if_pos h1, if_pos (by omega)]
              · rw [if_neg h1, if_neg (by omega)]
          case measure => simp [intOf]; omega
        · obtain rfl : j = n := by omega
          go_wp2
          have hl := bytesL_len x j
          refine HQ.out _ _ ⟨_, rfl, ?_, (Below.refl _ _).alloc (Nat.le_refl _) _⟩
          have hb := BS.made w cs (bytesL x j) 5 (by rw [hl]; unfold maxLen; omega) (fun i hi => by rw [bytesL_get, hcs i (by omega), if_pos (by omega)])
          rw [hl] at hb
          rw [bytesI, if_pos (by omega)]
          exact hb
    · go_enter Try.func51, Try.ntmps51
      go_wp2
      exact HQ.out _ _ ⟨_, rfl, by rw [bytesI, if_neg (by omega)]; exact BS.nil _, Below.refl _ _⟩
  · go_enter Try.func51, Try.ntmps51
    go_wp2
    exact HQ.out _ _ ⟨_, rfl, by rw [bytesI, if_neg (by omega)]; exact BS.nil _, Below.refl _ _⟩

end Go.Proofs.Ytonkecfgopbclaa
