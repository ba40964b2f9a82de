/- The walk of numbers: all that a pair tells. -/
import Derived.Test.YtonkecfgopbclaaFp
namespace Go.Proofs.Ytonkecfgopbclaa
open Go.RowKit

/-- a pair in its box, beside a row of numbers that grows -/
structure FnS (w0 : World) (bx : Nat) (n : Int) (a : Nat) (v : Value) (l : List Int) (w : World) : Prop where
  p : w.heap[bx]? = some (.cells #[.int .u16 n, .int .u16 (a : Nat)] 82 (0, 0))
  own : w.ownsRow (bx + 1) 47 1 v l.length (ints .u16 l)
  below : Below w0.heap.size w0 w
  o0 : w0.heap.size ≤ bx
section
variable {w0 : World} {bx : Nat} {n : Int} {a : Nat} {v : Value} {l : List Int} {w w' : World}
theorem FnS.after (h : FnS w0 bx n a v l w) (hb : Below w.heap.size w w') : FnS w0 bx n a v l w' :=
  ⟨(Fr.of hb).heap h.p (fun h => h), (Fr.of hb).own h.own (fun _ _ h => h), h.below.trans (hb.mono h.below.size), h.o0⟩
theorem FnS.app (h : FnS w0 bx n a v l w) {v' : Value} {m : List Int} (ho : w'.ownsRow (bx + 1) 47 1 v' m.length (ints .u16 m)) (hg : w.grownBy w' v.ownBlock) : FnS w0 bx n a v' m w' := by
  have h0 := h.o0
  have hf := Fr.grown hg
  have hlt : ∀ k, some k = v.ownBlock → bx + 1 ≤ k := fun k hk => (h.own.lt k hk.symm).1
  have hsz := h.below.size
  exact ⟨hf.heap h.p (fun hx => by have := hlt _ hx; omega), ho, h.below.trans (hf.below hsz (fun k hk => by have := hlt k hk; omega)), h0⟩
end
theorem u16_and1 (a j : Nat) (ha : a < 65536) : bits .and .u16 ((a : Int) / 2 ^ j) 1 = if a.testBit j then 1 else 0 := by
  have e : (a : Int) / 2 ^ j = ((a / 2 ^ j : Nat) : Int) := by rw [natpow_cast]; exact (Int.natCast_ediv a (2 ^ j)).symm
  have hlt : a / 2 ^ j < 65536 := Nat.lt_of_le_of_lt (Nat.div_le_self _ _) ha
  rw [e, Nat.testBit_eq_decide_div_mod_eq]
  generalize a / 2 ^ j = x at *
  show IntKind.u16.wrap ((BitVec.ofInt 16 (x : Int) &&& BitVec.ofInt 16 1).toNat : Int) = _
  rw [BitVec.ofInt_natCast, show BitVec.ofInt 16 1 = BitVec.ofNat 16 1 by decide, BitVec.toNat_and, BitVec.toNat_ofNat, BitVec.toNat_ofNat, Nat.mod_eq_of_lt (by omega : x < 2 ^ 16), show 1 % 2 ^ 16 = 2 ^ 1 - 1 by decide, Nat.and_two_pow_sub_one_eq_mod, wrap_u16]
  simp only [Nat.pow_one, decide_eq_true_eq]
  split <;> omega
set_option maxHeartbeats 1000000 in
theorem numbers_any (n : Int) (a : Nat) (w : World) (ha : a < 65536) :
    Calls Try.prog 40 #[.agg #[.int .u16 n, .int .u16 (a : Nat)]] w fun e w' => ∃ u, e = .returned u ∧ w'.ownsRow w.heap.size 47 1 u (nums1 (n, a)).length (ints .u16 (nums1 (n, a))) ∧ Below w.heap.size w w' := by
  refine calls_q fun Q HQ => ?_
  have HS0 := Lib.hid (show FnS w w.heap.size n a (.slice (some ⟨w.heap.size + 1, 0, none⟩) 1 1) [n] ((w.alloc (.cells #[.int .u16 n, .int .u16 (a : Nat)] 82 (0, 0))).alloc (.cells #[.int .u16 n] 47 (0, 0))) by
    have hb1 := below_alloc (w := w) (.cells #[.int .u16 n, .int .u16 (a : Nat)] 82 (0, 0))
    have hx := heap_alloc_new w (.cells #[.int .u16 n, .int .u16 (a : Nat)] 82 (0, 0))
    have ho := own_new (w.alloc (.cells #[.int .u16 n, .int .u16 (a : Nat)] 82 (0, 0))) (w.heap.size + 1) 47 (.int .u16 n) (by rw [World.size_alloc]; exact Nat.le_refl _)
    rw [World.size_alloc] at ho
    exact ⟨(Fr.alloc _ _).heap hx (fun h => h), ho, hb1.alloc hb1.size _, Nat.le_refl _⟩)
  go_enter Try.func40, Try.ntmps40
  go_upto_region 2 with fail
  rw [show ((w.alloc (.cells #[.int .u16 n, .int .u16 (a : Nat)] 82)).alloc (.cells #[.int .u16 n] 47)) = ((w.alloc (.cells #[.int .u16 n, .int .u16 (a : Nat)] 82 (0, 0))).alloc (.cells #[.int .u16 n] 47 (0, 0))) from rfl]
  generalize ((w.alloc (.cells #[.int .u16 n, .int .u16 (a : Nat)] 82 (0, 0))).alloc (.cells #[.int .u16 n] 47 (0, 0))) = w2 at *
  generalize hbx : w.heap.size = bx at *
  go_wp2_with fail
  go_loopw [3, 8] (fun v i wr => ∃ j : Nat, j ≤ 16 ∧ i = .int .i64 j ∧ FnS w bx n a v (numK n a j) wr) (fun _ i _ => 16 - (intOf i).toNat)
  case atStart => exact ⟨0, by omega, rfl, HS0.out⟩
  case round =>
    obtain ⟨j, hj, rfl, hs⟩ := hrel
    have HS := Lib.hid hs
    obtain ⟨A, c, rfl⟩ := own_slice hs.own
    have k0 := obj_cell hs.p 0
    have k1 := obj_cell hs.p 1
    simp at k0 k1
    clear hs
    by_cases hlt : j < 16
    · have hs : numK n a (j + 1) = numK n a j ++ (if a.testBit j then [aft n j] else []) := rfl
      have hlen := (numK_len n a j).2
      generalize numK n a j = l at *
      have hbt := u16_and1 a j ha
      have h16 : (j : Int) < 16 := by omega
      by_cases hbit : a.testBit j = true
      · rw [if_pos hbit] at hs hbt
        have HE := Lib.hid hs
        have HL := Lib.hid hlen
        clear hs hbit hlen
        go_wp2_with fail
        refine (after_any n (a : Nat) j wr).mono ?_
        rintro e w3 ⟨rfl, hb⟩
        have HA := Lib.hid (HS.out.after hb)
        have HA2 := Lib.hid ((HS.out.after hb).after (below_alloc (.cells #[.int .u16 (aft n j)] 47 (0, 0))))
        have hlt2 := obj_lt HA2.out.p
        clear hb HS k0 k1 hbt
        generalize aft n j = y at *
        go_wp2_with (at_builtin; refine wpl_app rfl _ _ 24 rfl (bx + 1) 47 (.int .u16 0) 2 Try.underlying24 (by kernel_rfl) rfl _ _ _ rfl HA2.out.own _ _ _ [.int .u16 y] rfl ?c1 ?c2 ?c3 ?c4 ?c5 ?c6)
        case c1 => exact src_1 w3 (.int .u16 y) 47
        case c2 => intro u hu; simp at hu; subst hu; rfl
        case c3 => have := HL.out; unfold maxLen; omega
        case c4 => have := HL.out; omega
        case c5 => rw [World.size_alloc] at hlt2 ⊢; have := obj_lt HA.out.p; omega
        case c6 =>
          intro v' w5 ho hg _
          obtain ⟨A5, c5, rfl⟩ := own_slice ho
          have hN := HA2.out.app (v' := .slice A5 (l.length + 1) c5) (m := l ++ [y]) (by rw [List.length_append]; simpa [ints] using ho) hg
          rw [← HE.out] at hN
          have HN := Lib.hid hN
          clear ho hg hN
          go_wp2_with fail
          go_roundw
          case rel => exact ⟨j + 1, by omega, by go_num, HN.out⟩
          case measure => simp [intOf]; omega
      · rw [if_neg hbit] at hs hbt
        rw [List.append_nil] at hs
        have HE := Lib.hid hs
        clear hs hbit hlen
        go_wp2_with fail
        go_roundw
        case rel => exact ⟨j + 1, by omega, by go_num, by rw [HE.out]; exact HS.out⟩
        case measure => simp [intOf]; omega
    · obtain rfl : j = 16 := by omega
      have HX := Lib.hid hlt
      have hN : FnS w bx n a (.slice A (nums1 (n, a)).length c) (nums1 (n, a)) wr := HS.out
      rw [show numK n a 16 = nums1 (n, a) from rfl]
      have HN := Lib.hid hN
      clear hN HS hlt
      generalize nums1 (n, a) = l at *
      go_wp2_with fail
      have o0 := HN.out.o0
      refine HQ.out _ _ ⟨_, rfl, own_base HN.out.own (Nat.le_succ _), ?_⟩
      have := HN.out.below
      rw [hbx] at this; exact this
end Go.Proofs.Ytonkecfgopbclaa
