/- The walks of markOf and kindOf: what tells a message's Kind. -/
import Derived.Test.YtonkecfgopbclaaFp
namespace Go.Proofs.Ytonkecfgopbclaa
open Go.RowKit

set_option maxHeartbeats 1000000 in
theorem markof_any (k : Int) (w : World) :
    Calls Try.prog 27 #[.int .i64 k] w fun e w' => e = .returned (.agg #[.int .u8 (typM k : Nat), .int .u8 (cntM k : Nat)]) ∧ Below w.heap.size w w' := by
  by_cases h1 : k = 1
  · subst h1
    rw [show typM 1 = 206 from rfl, show cntM 1 = 1 from rfl]
    refine calls_q fun Q HQ => ?_
    go_enter Try.func27, Try.ntmps27
    go_wp2_with fail
    refine bodyPost_ret (v := .agg #[.int .u8 206, .int .u8 1]) (by simp [results, Try.results27, go_sem]; try rfl) rfl ?_
    exact HQ.out _ _ ⟨rfl, below_alloc _⟩
  · by_cases h2 : k = 2
    · subst h2
      rw [show typM 2 = 206 from rfl, show cntM 2 = 4 from rfl]
      refine calls_q fun Q HQ => ?_
      go_enter Try.func27, Try.ntmps27
      go_wp2_with fail
      refine bodyPost_ret (v := .agg #[.int .u8 206, .int .u8 4]) (by simp [results, Try.results27, go_sem]; try rfl) rfl ?_
      exact HQ.out _ _ ⟨rfl, below_alloc _⟩
    · rw [show typM k = 205 by rw [typM, if_neg h1, if_neg h2], show cntM k = 1 by rw [cntM, if_neg h1, if_neg h2]]
      refine calls_q fun Q HQ => ?_
      go_enter Try.func27, Try.ntmps27
      go_wp2_with fail
      refine bodyPost_ret (v := .agg #[.int .u8 205, .int .u8 1]) (by simp [results, Try.results27, go_sem]; try rfl) rfl ?_
      exact HQ.out _ _ ⟨rfl, below_alloc _⟩
/-- a chunk's box -/
structure KdS (w0 : World) (bx n y : Nat) (v : Value) (w : World) : Prop where
  p : w.heap[bx]? = some (.cells #[.int .u8 (n : Nat), .int .u8 (y : Nat), v] 29 (0, 0))
  below : Below w0.heap.size w0 w
theorem KdS.after {w0 w w' : World} {bx n y : Nat} {v : Value} (h : KdS w0 bx n y v w) (hb : Below w.heap.size w w') : KdS w0 bx n y v w' :=
  ⟨(Fr.of hb).heap h.p (fun h => h), h.below.trans (hb.mono h.below.size)⟩
theorem KdS.cells {w0 w : World} {bx n y : Nat} {v : Value} (h : KdS w0 bx n y v w) : KdS w0 bx n y v w ∧ w.cell? ⟨bx, 0, none⟩ = some (.int .u8 (n : Nat)) ∧ w.cell? ⟨bx, 1, none⟩ = some (.int .u8 (y : Nat)) :=
  ⟨h, obj_cell h.p 0, obj_cell h.p 1⟩
theorem kind_is (n y j : Nat) (h1 : 1 ≤ j) (h2 : j ≤ 3) (hn : ∀ i : Nat, 1 ≤ i → i < j → ¬ (typM i = y ∧ cntM i = n)) (h : typM j = y ∧ cntM j = n) : kindN n y = j := by
  obtain ⟨rfl, rfl⟩ := h
  exact kind_mark j (by omega)
theorem kind_none (n y : Nat) (hn : ∀ i : Nat, 1 ≤ i → i < 4 → ¬ (typM i = y ∧ cntM i = n)) : kindN n y = 0 := by
  rcases Int.decEq (kindN n y) 0 with h | h
  · obtain ⟨h1, h2, h3⟩ := mark_kind n y h
    rcases h3 with h3 | h3 | h3 <;> rw [h3] at h1 h2
    · exact absurd ⟨h2, h1⟩ (hn 1 (by omega) (by omega))
    · exact absurd ⟨h2, h1⟩ (hn 2 (by omega) (by omega))
    · exact absurd ⟨h2, h1⟩ (hn 3 (by omega) (by omega))
  · exact h
set_option maxHeartbeats 1000000 in
theorem kindof_any (n y : Nat) (v : Value) (w : World) :
    Calls Try.prog 15 #[.agg #[.int .u8 (n : Nat), .int .u8 (y : Nat), v]] w fun e w' => e = .returned (.int .i64 (kindN n y)) ∧ Below w.heap.size w w' := by
  have HS0 := Lib.hid (show KdS w w.heap.size n y v (w.alloc (.cells #[.int .u8 (n : Nat), .int .u8 (y : Nat), v] 29 (0, 0))) from ⟨heap_alloc_new _ _, below_alloc _⟩)
  refine calls_q fun Q HQ => ?_
  go_enter Try.func15, Try.ntmps15
  go_wp2_with fail
  rw [show (w.alloc (.cells #[.int .u8 (n : Nat), .int .u8 (y : Nat), v] 29)) = (w.alloc (.cells #[.int .u8 (n : Nat), .int .u8 (y : Nat), v] 29 (0, 0))) from rfl]
  generalize (w.alloc (.cells #[.int .u8 (n : Nat), .int .u8 (y : Nat), v] 29 (0, 0))) = w2 at *
  generalize hbx : w.heap.size = bx at *
  go_loopw [3] (fun i wr => ∃ j : Nat, 1 ≤ j ∧ j ≤ 4 ∧ i = .int .i64 j ∧ (∀ i : Nat, 1 ≤ i → i < j → ¬ (typM i = y ∧ cntM i = n)) ∧ KdS w bx n y v wr) (fun i _ => 4 - (intOf i).toNat)
  case atStart => exact ⟨1, by omega, by omega, rfl, fun i _ _ => by omega, HS0.out⟩
  case round =>
    obtain ⟨j, hj1, hj, rfl, hn, hs⟩ := hrel
    have HS := Lib.hid hs
    by_cases hlt : j < 4
    · have h4 : (j : Int) ≤ 3 := by omega
      have HK := Lib.hid (kind_is n y j hj1 (by omega) hn)
      have HN := Lib.hid (show ¬ (typM j = y ∧ cntM j = n) → ∀ i : Nat, 1 ≤ i → i < j + 1 → ¬ (typM i = y ∧ cntM i = n) from fun h i h1 h2 => by
        rcases Nat.lt_or_ge i j with h3 | h3
        · exact hn i h1 h3
        · obtain rfl : i = j := by omega
          exact h)
      have HM := Lib.hid (fun w => markof_any j w)
      clear hn hs
      generalize typM j = ty at *
      generalize cntM j = ct at *
      by_cases he : ty = y ∧ ct = n
      · obtain ⟨rfl, rfl⟩ := he
        have HE := Lib.hid (HK.out ⟨rfl, rfl⟩)
        clear HK HN
        go_wp2_with fail
        go_region_held3 (fun w' => KdS w bx ct ty v w' ∧ w'.cell? ⟨bx, 0, none⟩ = some (.int .u8 (ct : Nat)) ∧ w'.cell? ⟨bx, 1, none⟩ = some (.int .u8 (ty : Nat))) (first | exact ((‹KdS _ _ _ _ _ _ ∧ _›).1.after (by assumption)).cells | exact (HS.out.after (below_drewN (Below.refl _ _) 1)).cells) (first | (go_at_call 27; refine (HM.out _).mono ?_; rintro e w9 ⟨rfl, hb⟩))
        have hh := (‹KdS _ _ _ _ _ _ ∧ _›).1
        go_wp2_with fail
        refine HQ.out _ _ ⟨ret_int HE.out.symm, ?_⟩
        have := hh.below
        rw [hbx] at this; exact this
      · have HE := Lib.hid (HN.out he)
        clear HK HN
        by_cases he1 : ty = y
        · obtain rfl := he1
          have he2 : ¬ ((ct : Nat) : Int) = (n : Nat) := by omega
          clear he
          go_wp2_with fail
          go_region_held3 (fun w' => KdS w bx n ty v w' ∧ w'.cell? ⟨bx, 0, none⟩ = some (.int .u8 (n : Nat)) ∧ w'.cell? ⟨bx, 1, none⟩ = some (.int .u8 (ty : Nat))) (first | exact ((‹KdS _ _ _ _ _ _ ∧ _›).1.after (by assumption)).cells | exact (HS.out.after (below_drewN (Below.refl _ _) 1)).cells) (first | (go_at_call 27; refine (HM.out _).mono ?_; rintro e w9 ⟨rfl, hb⟩))
          have hh := (‹KdS _ _ _ _ _ _ ∧ _›).1
          go_wp2_with fail
          go_roundw
          case rel => exact ⟨j + 1, by omega, by omega, by go_num, HE.out, hh⟩
          case measure => simp [intOf]; omega
        · have he2 : ¬ ((ty : Nat) : Int) = (y : Nat) := by omega
          clear he he1
          go_wp2_with fail
          go_region_held3 (fun w' => KdS w bx n y v w' ∧ w'.cell? ⟨bx, 0, none⟩ = some (.int .u8 (n : Nat)) ∧ w'.cell? ⟨bx, 1, none⟩ = some (.int .u8 (y : Nat))) (first | exact ((‹KdS _ _ _ _ _ _ ∧ _›).1.after (by assumption)).cells | exact (HS.out.after (below_drewN (Below.refl _ _) 1)).cells) (first | (go_at_call 27; refine (HM.out _).mono ?_; rintro e w9 ⟨rfl, hb⟩))
          have hh := (‹KdS _ _ _ _ _ _ ∧ _›).1
          go_wp2_with fail
          go_roundw
          case rel => exact ⟨j + 1, by omega, by omega, by go_num, HE.out, hh⟩
          case measure => simp [intOf]; omega
    · obtain rfl : j = 4 := by omega
      have HE := Lib.hid (kind_none n y hn)
      clear hn
      go_wp2_with fail
      refine HQ.out _ _ ⟨ret_int HE.out.symm, ?_⟩
      have := HS.out.below
      rw [hbx] at this; exact this
end Go.Proofs.Ytonkecfgopbclaa
