/- The walks of bits.Bytes, and of the document's answer for it. -/
import Derived.Test.YtgimnmfldpbpeaaBitsMem
import Derived.Test.YtgimnmfldpbpeaaApp
namespace Go.Proofs.Ytgimnmfldpbpeaa
open Go.RowKit

/-- the lowest bytes of a number, the highest first -/
def bytesL (x n : Nat) : List UInt8 := (List.range n).map fun i => UInt8.ofNat (x / 256 ^ (n - 1 - i))
theorem bytesL_len (x n : Nat) : (bytesL x n).length = n := by simp [bytesL]
theorem bytesL_get (x n i : Nat) (h : i < (bytesL x n).length) : ((bytesL x n)[i].toNat : Nat) = x / 256 ^ (n - 1 - i) % 256 := by
  simp [bytesL, UInt8.toNat_ofNat']
def bytesI (x : Nat) (s : Int) : List UInt8 := if 0 ≤ s ∧ s ≤ 8 then bytesL x s.toNat else []

theorem conv_u8 (x : Int) : IntKind.u8.wrap x = x % 256 := by simp [IntKind.wrap, IntKind.bits, IntKind.signed]
set_option maxHeartbeats 400000 in
theorem bytes_any (x s : Int) (w : World) (hx : U64 x) :
    Calls Try.prog 17 #[.int .u64 x, .int .i64 s] w fun e w' => ∃ v, e = .returned v ∧ BS w' v (bytesI x.toNat s) ∧ Below w.heap.size w w' := by
  obtain ⟨x, rfl⟩ := Int.eq_ofNat_of_zero_le hx.lo
  rw [Int.toNat_natCast]
  refine calls_q fun Q HQ => ?_
  by_cases h0 : 0 ≤ s
  · by_cases h8 : s ≤ 8
    · obtain ⟨n, rfl⟩ := Int.eq_ofNat_of_zero_le h0
      have hmk := run_make1 (P := Try.prog) Try.underlying23 (z := .int .u8 0) (bytes := 1) (by kernel_rfl) rfl n n (Nat.le_refl _) (by omega) (by omega)
      go_enter Try.func17, Try.ntmps17
      go_wp2
      clear hmk
      go_loopw [16] (fun i wr => ∃ (j : Nat) (cs : Array Value), j ≤ n ∧ i = .int .i64 j ∧ cs.size = n ∧ (∀ i, i < n → cs[i]? = some (.int .u8 (if n - j ≤ i then x / 256 ^ (n - 1 - i) % 256 else 0 : Nat))) ∧ wr = w.alloc (.cells cs 5)) (fun i _ => n - (intOf i).toNat)
      case atStart => exact ⟨0, _, Nat.zero_le _, rfl, by simp, fun i hi => by rw [if_neg (by omega)]; simp [hi], rfl⟩
      case round =>
        obtain ⟨j, cs, hj, rfl, hs, hcs, rfl⟩ := hrel
        by_cases hlt : j < n
        · have hone := hcs (n - 1 - j) (by omega)
          go_wp2
          clear hone
          go_roundw
          case rel =>
            refine ⟨j + 1, _, by omega, by go_num, by simp [hs], fun i hi => ?_, rfl⟩
            by_cases e : n - 1 - j = i
            · subst e
              rw [Array.getElem?_setIfInBounds_self, if_pos (by omega), if_pos (by omega), show n - 1 - (n - 1 - j) = j by omega, show (256 : Nat) = 2 ^ 8 by decide, ← Nat.pow_mul]
              simp
            · rw [Array.getElem?_setIfInBounds_ne e, hcs i hi]
              by_cases h1 : n - j ≤ i
              · rw [if_pos h1, if_pos (by omega)]
              · rw [if_neg h1, if_neg (by omega)]
          case measure => simp [intOf]; omega
        · obtain rfl : j = n := by omega
          go_wp2
          have hl := bytesL_len x j
          refine HQ.out _ _ ⟨_, rfl, ?_, (Below.refl _ _).alloc (Nat.le_refl _) _⟩
          have hb := BS.made w cs (bytesL x j) 5 (by rw [hl]; unfold maxLen; omega) (fun i hi => by rw [bytesL_get, hcs i (by omega), if_pos (by omega)])
          rw [hl] at hb
          rw [bytesI, if_pos (by omega)]
          exact hb
    · go_enter Try.func17, Try.ntmps17
      go_wp2
      exact HQ.out _ _ ⟨_, rfl, by rw [bytesI, if_neg (by omega)]; exact BS.nil _, Below.refl _ _⟩
  · go_enter Try.func17, Try.ntmps17
    go_wp2
    exact HQ.out _ _ ⟨_, rfl, by rw [bytesI, if_neg (by omega)]; exact BS.nil _, Below.refl _ _⟩

/-! ### the document's own -/
theorem bytesL_snoc (x n : Nat) : bytesL x (n + 1) = UInt8.ofNat (x / 256 ^ n) :: bytesL x n := by
  unfold bytesL
  rw [List.range_succ_eq_map]
  simp only [List.map_cons, List.map_map]
  congr 1
  apply List.map_congr_left
  intro i hi
  simp only [Function.comp]
  congr 3
  omega
theorem rb_cast (x j : Nat) : ((x : Int) / 256 ^ j) = ((x / 256 ^ j : Nat) : Int) := by simp
theorem rb_val (x j : Nat) : ((x : Int) / 256 ^ j).tmod 256 % 256 = ((UInt8.ofNat (x / 256 ^ j)).toNat : Nat) := by
  rw [rb_cast, UInt8.toNat_ofNat']
  generalize x / 256 ^ j = q
  rw [Int.tmod_eq_emod_of_nonneg (by omega)]
  omega
theorem rb_next (x j : Nat) (hx : x < 18446744073709551616) : IntKind.u64.wrap (((x : Int) / 256 ^ j).tdiv 256) = ((x / 256 ^ (j + 1) : Nat) : Int) := by
  have h1 : x / 256 ^ (j + 1) = x / 256 ^ j / 256 := by rw [Nat.pow_succ, Nat.div_div_eq_div_mul]
  have h2 := Nat.div_le_self x (256 ^ j)
  rw [rb_cast, h1]
  generalize x / 256 ^ j = q at *
  rw [Int.tdiv_eq_ediv_of_nonneg (by omega), wrap_u64]
  omega
set_option maxHeartbeats 1000000 in
theorem rbytes_any (x s : Int) (w : World) (hx : U64 x) :
    Calls Try.prog 18 #[.int .u64 x, .int .i64 s] w fun e w' => ∃ v, e = .returned v ∧ BS w' v (bytesI x.toNat s) ∧ Below w.heap.size w w' := by
  obtain ⟨x, rfl⟩ := Int.eq_ofNat_of_zero_le hx.lo
  rw [Int.toNat_natCast]
  refine calls_q fun Q HQ => ?_
  by_cases h0 : 0 ≤ s
  · by_cases h8 : s ≤ 8
    · obtain ⟨n, rfl⟩ := Int.eq_ofNat_of_zero_le h0
      go_enter Try.func18, Try.ntmps18
      go_wp2
      have hB : w.heap.size ≤ (w.alloc (.cells #[] 5)).heap.size := by simp
      generalize hgB : w.heap.size = B at *
      go_loopw [0, 5, 6] (fun y o i wr => ∃ (j : Nat) (A : Option Addr) (c : Nat), j ≤ n ∧ y = .int .u64 (x / 256 ^ j : Nat) ∧ o = .slice A j c ∧ i = .int .i64 j ∧ wr.ownsRow B 5 1 o j (c8 (bytesL x j)) ∧ Below B w wr) (fun _ _ i _ => n - (intOf i).toNat)
      case atStart => exact ⟨0, _, _, Nat.zero_le _, by simp, rfl, rfl, by have h := own_empty w B 5 (by omega); rw [hgB] at h; exact h, (Below.refl _ _).alloc (by omega) _⟩
      case round =>
        obtain ⟨j, A, c, hj, rfl, rfl, rfl, hown, hbel⟩ := hrel
        have hsz := hbel.size
        by_cases hlt : j < n
        · obtain ⟨hrow, hjl⟩ := own_src hown
          have HR := Lib.hid hrow
          have HO := Lib.hid hown
          have HB := Lib.hid hbel
          clear hrow hown hbel hjl
          go_wp2_with (at_builtin; refine wpl_app rfl _ _ 23 rfl B 5 (.int .u8 0) 1 Try.underlying23 (by kernel_rfl) rfl _ 1 _ rfl (own_new _ _ _ _ (by omega)) _ _ _ (c8 (bytesL x j)) rfl ?c1 (c8_one _) ?c2 ?c3 ?c4 ?c5)
          case c1 => exact src_of (bytesL_len x j) (HR.out.below (Nat.le_refl _) (below_alloc _))
          case c2 => unfold maxLen; omega
          case c3 => omega
          case c4 => simp; omega
          case c5 =>
            intro v' w1 hown1 hg hblk
            have hb1 : Below B w w1 := (HB.out.alloc (by omega) _).grown hg (by simp; omega) (fun k hk => by simp [Value.ownBlock] at hk; omega)
            rw [show (1 : Nat) + j = j + 1 by omega] at hown1
            obtain ⟨A', c', rfl⟩ := own_slice hown1
            have hval : (Value.int .u8 (((x : Int) / 256 ^ j).tmod 256 % 256)) :: c8 (bytesL x j) = c8 (bytesL x (j + 1)) := by
              rw [bytesL_snoc]
              show _ = Value.int .u8 (((UInt8.ofNat (x / 256 ^ j)).toNat : Nat) : Int) :: c8 (bytesL x j)
              rw [rb_val]
            have hown2 : w1.ownsRow B 5 1 (.slice A' (j + 1) c') (j + 1) (c8 (bytesL x (j + 1))) := by rw [← hval]; exact hown1
            have HO2 := Lib.hid hown2
            have HB2 := Lib.hid hb1
            clear hown1 hown2 hb1 hg hblk hval
            go_wp2
            go_roundw
            case rel => exact ⟨j + 1, A', c', by omega, by rw [rb_next x j (by have := hx.hi; omega)], rfl, by go_num, HO2.out, HB2.out⟩
            case measure => simp [intOf]; omega
        · obtain rfl : j = n := by omega
          have HO := Lib.hid hown
          have HB := Lib.hid hbel
          clear hown hbel
          go_wp2
          refine HQ.out _ _ ⟨_, rfl, ?_, HB.out⟩
          rw [bytesI, if_pos (by omega)]
          exact own_bs HO.out
    · go_enter Try.func18, Try.ntmps18
      go_wp2
      exact HQ.out _ _ ⟨_, rfl, by rw [bytesI, if_neg (by omega)]; exact BS.nil _, Below.refl _ _⟩
  · go_enter Try.func18, Try.ntmps18
    go_wp2
    exact HQ.out _ _ ⟨_, rfl, by rw [bytesI, if_neg (by omega)]; exact BS.nil _, Below.refl _ _⟩
end Go.Proofs.Ytgimnmfldpbpeaa
