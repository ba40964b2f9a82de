/- The walk of the document's answer for bits.Bytes. -/
import Derived.Test.YthgajlmhgbhmlaaBBytes
import Derived.Test.YthgajlmhgbhmlaaApp
namespace Go.Proofs.Ythgajlmhgbhmlaa
open Go.RowKit
/-! ### the document's own -/
theorem bytesL_snoc (x n : Nat) : bytesL x (n + 1) = UInt8.ofNat (x / 256 ^ n) :: bytesL x n := by
  unfold bytesL
  rw [List.range_succ_eq_map]
  simp only [List.map_cons, List.map_map]
  congr 1
  apply List.map_congr_left
  intro i hi
  simp only [Function.comp]
  congr 3
  omega
theorem rb_cast (x j : Nat) : ((x : Int) / 256 ^ j) = ((x / 256 ^ j : Nat) : Int) := by simp
theorem rb_val (x j : Nat) : ((x : Int) / 256 ^ j).tmod 256 % 256 = ((UInt8.ofNat (x / 256 ^ j)).toNat : Nat) := by
  rw [rb_cast, UInt8.toNat_ofNat']
  generalize x / 256 ^ j = q
  rw [Int.tmod_eq_emod_of_nonneg (by omega)]
  omega
theorem rb_next (x j : Nat) (hx : x < 18446744073709551616) : IntKind.u64.wrap (((x : Int) / 256 ^ j).tdiv 256) = ((x / 256 ^ (j + 1) : Nat) : Int) := by
  have h1 : x / 256 ^ (j + 1) = x / 256 ^ j / 256 := by rw [Nat.pow_succ, Nat.div_div_eq_div_mul]
  have h2 := Nat.div_le_self x (256 ^ j)
  rw [rb_cast, h1]
  generalize x / 256 ^ j = q at *
  rw [Int.tdiv_eq_ediv_of_nonneg (by omega), wrap_u64]
  omega
set_option maxHeartbeats 1000000 in
theorem rbytes_any (x s : Int) (w : World) (hx : U64 x) :
    Calls Try.prog 23 #[.int .u64 x, .int .i64 s] w fun e w' => ∃ v, e = .returned v ∧ BS w' v (bytesI x.toNat s) ∧ Below w.heap.size w w' := by
  obtain ⟨x, rfl⟩ := Int.eq_ofNat_of_zero_le hx.lo
  rw [Int.toNat_natCast]
  refine calls_q fun Q HQ => ?_
  by_cases h0 : 0 ≤ s
  · by_cases h8 : s ≤ 8
    · obtain ⟨n, rfl⟩ := Int.eq_ofNat_of_zero_le h0
      go_enter Try.func23, Try.ntmps23
      go_wp2
      have hB : w.heap.size ≤ (w.alloc (.cells #[] 5)).heap.size := by simp
      generalize hgB : w.heap.size = B at *
      go_loopw [0, 5, 6] (fun y o i wr => ∃ (j : Nat) (A : Option Addr) (c : Nat), j ≤ n ∧ y = .int .u64 (x / 256 ^ j : Nat) ∧ o = .slice A j c ∧ i = .int .i64 j ∧ wr.ownsRow B 5 1 o j (c8 (bytesL x j)) ∧ Below B w wr) (fun _ _ i _ => n - (intOf i).toNat)
      case atStart => exact ⟨0, _, _, Nat.zero_le _, by simp, rfl, rfl, by have h := own_empty w B 5 (by omega); rw [hgB] at h; exact h, (Below.refl _ _).alloc (by omega) _⟩
      case round =>
        obtain ⟨j, A, c, hj, rfl, rfl, rfl, hown, hbel⟩ := hrel
        have hsz := hbel.size
        by_cases hlt : j < n
        · obtain ⟨hrow, hjl⟩ := own_src hown
          have HR := Lib.hid hrow
          have HO := Lib.hid hown
          have HB := Lib.hid hbel
          clear hrow hown hbel hjl
          go_wp2_with (at_builtin; refine wpl_app rfl _ _ 28 rfl B 5 (.int .u8 0) 1 Try.underlying28 (by kernel_rfl) rfl _ 1 _ rfl (own_new _ _ _ _ (by omega)) _ _ _ (c8 (bytesL x j)) rfl ?c1 (c8_one _) ?c2 ?c3 ?c4 ?c5)
          case c1 => exact src_of (bytesL_len x j) (HR.out.below (Nat.le_refl _) (below_alloc _))
          case c2 => unfold maxLen; omega
          case c3 => omega
          case c4 => simp; omega
          case c5 =>
            intro v' w1 hown1 hg hblk
            have hb1 : Below B w w1 := (HB.out.alloc (by omega) _).grown hg (by simp; omega) (fun k hk => by simp [Value.ownBlock] at hk; omega)
            rw [show (1 : Nat) + j = j + 1 by omega] at hown1
            obtain ⟨A', c', rfl⟩ := own_slice hown1
            have hval : (Value.int .u8 (((x : Int) / 256 ^ j).tmod 256 % 256)) :: c8 (bytesL x j) = c8 (bytesL x (j + 1)) := by
              rw [bytesL_snoc]
              show _ = Value.int .u8 (((UInt8.ofNat (x / 256 ^ j)).toNat : Nat) : Int) :: c8 (bytesL x j)
              rw [rb_val]
            have hown2 : w1.ownsRow B 5 1 (.slice A' (j + 1) c') (j + 1) (c8 (bytesL x (j + 1))) := by rw [← hval]; exact hown1
            have HO2 := Lib.hid hown2
            have HB2 := Lib.hid hb1
            clear hown1 hown2 hb1 hg hblk hval
            go_wp2
            go_roundw
            case rel => exact ⟨j + 1, A', c', by omega, by rw [rb_next x j (by have := hx.hi; omega)], rfl, by go_num, HO2.out, HB2.out⟩
            case measure => simp [intOf]; omega
        · obtain rfl : j = n := by omega
          have HO := Lib.hid hown
          have HB := Lib.hid hbel
          clear hown hbel
          go_wp2
          refine HQ.out _ _ ⟨_, rfl, ?_, HB.out⟩
          rw [bytesI, if_pos (by omega)]
          exact own_bs HO.out
    · go_enter Try.func23, Try.ntmps23
      go_wp2
      exact HQ.out _ _ ⟨_, rfl, by rw [bytesI, if_neg (by omega)]; exact BS.nil _, Below.refl _ _⟩
  · go_enter Try.func23, Try.ntmps23
    go_wp2
    exact HQ.out _ _ ⟨_, rfl, by rw [bytesI, if_neg (by omega)]; exact BS.nil _, Below.refl _ _⟩
end Go.Proofs.Ythgajlmhgbhmlaa
