/- The walk of the document's Same: reports held against each other. -/
import Derived.Test.YthgajlmhgbhmlaaRpRd
import Derived.Test.YthgajlmhgbhmlaaBSameB
namespace Go.Proofs.Ythgajlmhgbhmlaa
open Go.RowKit

theorem btake_step {l m : List DB} {j : Nat} (h1 : j < l.length) (h2 : j < m.length) (h : l.take j = m.take j) (he : l[j] = m[j]) : l.take (j + 1) = m.take (j + 1) := by
  rw [List.take_succ_eq_append_getElem h1, List.take_succ_eq_append_getElem h2, h, he]
set_option maxHeartbeats 4000000 in
theorem rpsame_is {r : Bool} (sd : Bool) (so i0 i1 i2 i3 i4 : Nat) (bl : List DB) (A : Option Addr) (c : Nat) (td : Bool) (tz j0 j1 j2 j3 j4 : Nat) (bm : List DB) (A2 : Option Addr) (c2 : Nat) (w : World)
    (hs : BlS w (.slice A bl.length c) bl) (ht : BlS w (.slice A2 bm.length c2) bm) (h : r = true ↔ (⟨sd, so, i0, i1, i2, i3, i4, bl⟩ : DR) = ⟨td, tz, j0, j1, j2, j3, j4, bm⟩) :
    Calls Try.prog 15 #[.agg #[.bool sd, .int .u32 (so : Nat), .int .u32 (i0 : Nat), .int .u32 (i1 : Nat), .int .u32 (i2 : Nat), .int .u32 (i3 : Nat), .int .u32 (i4 : Nat), .slice A bl.length c],
        .agg #[.bool td, .int .u32 (tz : Nat), .int .u32 (j0 : Nat), .int .u32 (j1 : Nat), .int .u32 (j2 : Nat), .int .u32 (j3 : Nat), .int .u32 (j4 : Nat), .slice A2 bm.length c2]] w
      fun e w' => e = .returned (.bool r) ∧ Below w.heap.size w w' := by
  have HS := Lib.hid hs
  have HT := Lib.hid ht
  obtain ⟨_, _, he, _, _, hA⟩ := hs.parts
  simp only [Value.slice.injEq, true_and] at he
  obtain ⟨rfl, rfl⟩ := he
  obtain ⟨_, _, he, _, _, hB⟩ := ht.parts
  simp only [Value.slice.injEq, true_and] at he
  obtain ⟨rfl, rfl⟩ := he
  have HA := Lib.hid hA
  have HB := Lib.hid hB
  clear hs ht hA hB
  simp only [DR.mk.injEq] at h
  refine calls_q fun Q HQ => ?_
  by_cases hx : sd = td ∧ so = tz ∧ i0 = j0 ∧ i1 = j1 ∧ i2 = j2 ∧ i3 = j3 ∧ i4 = j4 ∧ bl.length = bm.length
  · obtain ⟨rfl, rfl, rfl, rfl, rfl, rfl, rfl, hl⟩ := hx
    have hli : ((bl.length : Int) != (bm.length : Int)) = false := by rw [hl]; simp
    have HL := Lib.hid hl
    have HR := Lib.hid (show r = true ↔ bl = bm by simpa using h)
    clear hl h
    go_enter Try.func15, Try.ntmps15
    go_wp2_with fail
    have hx1 := (Fr.alloc (w.alloc (.cells #[.bool sd, .int .u32 (so : Nat), .int .u32 (i0 : Nat), .int .u32 (i1 : Nat), .int .u32 (i2 : Nat), .int .u32 (i3 : Nat), .int .u32 (i4 : Nat), .slice A bl.length c] 41 (0, 0))) (.cells #[.bool sd, .int .u32 (so : Nat), .int .u32 (i0 : Nat), .int .u32 (i1 : Nat), .int .u32 (i2 : Nat), .int .u32 (i3 : Nat), .int .u32 (i4 : Nat), .slice A2 bm.length c2] 41 (0, 0))).heap (heap_alloc_new w (.cells #[.bool sd, .int .u32 (so : Nat), .int .u32 (i0 : Nat), .int .u32 (i1 : Nat), .int .u32 (i2 : Nat), .int .u32 (i3 : Nat), .int .u32 (i4 : Nat), .slice A bl.length c] 41 (0, 0))) (fun h => h)
    have hx2 := heap_alloc_new (w.alloc (.cells #[.bool sd, .int .u32 (so : Nat), .int .u32 (i0 : Nat), .int .u32 (i1 : Nat), .int .u32 (i2 : Nat), .int .u32 (i3 : Nat), .int .u32 (i4 : Nat), .slice A bl.length c] 41 (0, 0))) (.cells #[.bool sd, .int .u32 (so : Nat), .int .u32 (i0 : Nat), .int .u32 (i1 : Nat), .int .u32 (i2 : Nat), .int .u32 (i3 : Nat), .int .u32 (i4 : Nat), .slice A2 bm.length c2] 41 (0, 0))
    rw [World.size_alloc] at hx2
    have hb := (below_alloc (w := w) (.cells #[.bool sd, .int .u32 (so : Nat), .int .u32 (i0 : Nat), .int .u32 (i1 : Nat), .int .u32 (i2 : Nat), .int .u32 (i3 : Nat), .int .u32 (i4 : Nat), .slice A bl.length c] 41 (0, 0))).alloc (below_alloc (.cells #[.bool sd, .int .u32 (so : Nat), .int .u32 (i0 : Nat), .int .u32 (i1 : Nat), .int .u32 (i2 : Nat), .int .u32 (i3 : Nat), .int .u32 (i4 : Nat), .slice A bl.length c] 41 (0, 0))).size (.cells #[.bool sd, .int .u32 (so : Nat), .int .u32 (i0 : Nat), .int .u32 (i1 : Nat), .int .u32 (i2 : Nat), .int .u32 (i3 : Nat), .int .u32 (i4 : Nat), .slice A2 bm.length c2] 41 (0, 0))
    have HBl := Lib.hid hb
    have HX1 := Lib.hid hx1
    have HX2 := Lib.hid hx2
    rw [show (w.alloc (.cells #[.bool sd, .int .u32 (so : Nat), .int .u32 (i0 : Nat), .int .u32 (i1 : Nat), .int .u32 (i2 : Nat), .int .u32 (i3 : Nat), .int .u32 (i4 : Nat), .slice A bl.length c] 41)).alloc (.cells #[.bool sd, .int .u32 (so : Nat), .int .u32 (i0 : Nat), .int .u32 (i1 : Nat), .int .u32 (i2 : Nat), .int .u32 (i3 : Nat), .int .u32 (i4 : Nat), .slice A2 bm.length c2] 41) = (w.alloc (.cells #[.bool sd, .int .u32 (so : Nat), .int .u32 (i0 : Nat), .int .u32 (i1 : Nat), .int .u32 (i2 : Nat), .int .u32 (i3 : Nat), .int .u32 (i4 : Nat), .slice A bl.length c] 41 (0, 0))).alloc (.cells #[.bool sd, .int .u32 (so : Nat), .int .u32 (i0 : Nat), .int .u32 (i1 : Nat), .int .u32 (i2 : Nat), .int .u32 (i3 : Nat), .int .u32 (i4 : Nat), .slice A2 bm.length c2] 41 (0, 0)) from rfl]
    clear hx1 hx2 hb
    generalize (w.alloc (.cells #[.bool sd, .int .u32 (so : Nat), .int .u32 (i0 : Nat), .int .u32 (i1 : Nat), .int .u32 (i2 : Nat), .int .u32 (i3 : Nat), .int .u32 (i4 : Nat), .slice A bl.length c] 41 (0, 0))).alloc (.cells #[.bool sd, .int .u32 (so : Nat), .int .u32 (i0 : Nat), .int .u32 (i1 : Nat), .int .u32 (i2 : Nat), .int .u32 (i3 : Nat), .int .u32 (i4 : Nat), .slice A2 bm.length c2] 41 (0, 0)) = wl at *
    generalize w.heap.size + 1 = by_ at *
    generalize hbx : w.heap.size = bx at HX1 HX2 ⊢
    have HBx := Lib.hid hbx
    clear hbx
    have kx := (cells8 HX1.out).2.2.2.2.2.2.2
    have ky := (cells8 HX2.out).2.2.2.2.2.2.2
    go_loopw [5] (fun i wr => ∃ j d : Nat, j ≤ bl.length ∧ i = .int .i64 j ∧ bl.take j = bm.take j ∧ wr = wl.drewN d) (fun i _ => bl.length - (intOf i).toNat)
    case atStart => exact ⟨0, 0, Nat.zero_le _, rfl, by simp, rfl⟩
    case round =>
      obtain ⟨j, d, hj, rfl, hst, rfl⟩ := hrel
      have HSt := Lib.hid hst
      clear hst
      by_cases hlt : j < bl.length
      · have hlt2 : j < bm.length := by have := HL.out; omega
        obtain ⟨b, o, rfl, hbl⟩ := HA.out (by omega)
        obtain ⟨b2, o2, rfl, hbl2⟩ := HB.out (by omega)
        obtain ⟨c0, c1, c2', c3, c4, c5, c6⟩ := (HS.out.below HBl.out).at j hlt
        obtain ⟨d0, d1, d2, d3, d4, d5, d6⟩ := (HT.out.below HBl.out).at j hlt2
        have g1 := Nat.lt_of_lt_of_le hbl HBl.out.size
        have g2 := Nat.lt_of_lt_of_le hbl2 HBl.out.size
        have h0 : (0 : Int) ≤ (j : Int) := by omega
        have h1 : (j : Int) < (bl.length : Int) := by omega
        have h2 : (j : Int) < (bm.length : Int) := by omega
        have HStep := Lib.hid (fun e => btake_step hlt hlt2 HSt.out e)
        have HNe := Lib.hid (fun (hn : bl[j] ≠ bm[j]) => (by
          have : ¬ bl = bm := fun e => hn (by subst e; rfl)
          cases r
          · rfl
          · exact absurd (HR.out.1 rfl) this : r = false))
        generalize bl[j] = x at *
        generalize bm[j] = y at *
        obtain ⟨s, p, m, h, jj, la, dd⟩ := x
        obtain ⟨s2, p2, m2, hh2, jj2, la2, dd2⟩ := y
        by_cases he : s = s2 ∧ p = p2 ∧ m = m2 ∧ h = hh2 ∧ jj = jj2 ∧ la = la2 ∧ dd = dd2
        · obtain ⟨rfl, rfl, rfl, rfl, rfl, rfl, rfl⟩ := he
          have HSt2 := Lib.hid (HStep.out rfl)
          clear HStep HNe
          go_wp2_with fail
          go_quiet (fail)
          go_wp2_with fail
          go_roundw
          case rel => exact ⟨j + 1, _, by omega, by go_num, HSt2.out, rfl⟩
          case measure => simp [intOf]; omega
        · have hr := HNe.out (by simp only [ne_eq, DB.mk.injEq]; exact he)
          subst hr
          clear HStep HNe HR
          rcases (show (¬ ((s : Nat) : Int) = ((s2 : Nat) : Int)) ∨ (s = s2 ∧ ¬ ((p : Nat) : Int) = ((p2 : Nat) : Int)) ∨ (s = s2 ∧ p = p2 ∧ ¬ m = m2) ∨ (s = s2 ∧ p = p2 ∧ m = m2 ∧ ¬ ((h : Nat) : Int) = ((hh2 : Nat) : Int)) ∨ (s = s2 ∧ p = p2 ∧ m = m2 ∧ h = hh2 ∧ ¬ ((jj : Nat) : Int) = ((jj2 : Nat) : Int)) ∨ (s = s2 ∧ p = p2 ∧ m = m2 ∧ h = hh2 ∧ jj = jj2 ∧ ¬ ((la : Nat) : Int) = ((la2 : Nat) : Int)) ∨ (s = s2 ∧ p = p2 ∧ m = m2 ∧ h = hh2 ∧ jj = jj2 ∧ la = la2 ∧ ¬ ((dd : Nat) : Int) = ((dd2 : Nat) : Int)) by omega) with e | ⟨rfl, e⟩ | ⟨rfl, rfl, e⟩ | ⟨rfl, rfl, rfl, e⟩ | ⟨rfl, rfl, rfl, rfl, e⟩ | ⟨rfl, rfl, rfl, rfl, rfl, e⟩ | ⟨rfl, rfl, rfl, rfl, rfl, rfl, e⟩
          all_goals
            clear he
            go_wp2_with fail
            go_quiet (fail)
            go_wp2_with fail
            exact HQ.out _ _ ⟨rfl, by first | exact HBl.out | exact below_drewN HBl.out _ | exact below_drewN (below_drewN HBl.out _) _⟩
      · have : j = bl.length := by omega
        subst this
        have hr : r = true := by
          have h1 := HSt.out
          have h2 := HL.out
          rw [List.take_of_length_le (Nat.le_refl _), List.take_of_length_le (by omega)] at h1
          exact HR.out.2 h1
        subst hr
        go_wp2_with fail
        exact HQ.out _ _ ⟨rfl, by first | exact HBl.out | exact below_drewN HBl.out _ | exact below_drewN (below_drewN HBl.out _) _⟩
  · have hr : r = false := by
      cases r
      · rfl
      · obtain ⟨e0, e1, e2, e3, e4, e5, e6, e7⟩ := h.1 rfl
        exact absurd ⟨e0, e1, e2, e3, e4, e5, e6, by rw [e7]⟩ hx
    subst hr
    clear h
    rcases (show sd ≠ td ∨ (sd = td ∧ so ≠ tz) ∨ (sd = td ∧ so = tz ∧ i0 ≠ j0) ∨ (sd = td ∧ so = tz ∧ i0 = j0 ∧ i1 ≠ j1) ∨ (sd = td ∧ so = tz ∧ i0 = j0 ∧ i1 = j1 ∧ i2 ≠ j2) ∨ (sd = td ∧ so = tz ∧ i0 = j0 ∧ i1 = j1 ∧ i2 = j2 ∧ i3 ≠ j3) ∨ (sd = td ∧ so = tz ∧ i0 = j0 ∧ i1 = j1 ∧ i2 = j2 ∧ i3 = j3 ∧ i4 ≠ j4) ∨ (sd = td ∧ so = tz ∧ i0 = j0 ∧ i1 = j1 ∧ i2 = j2 ∧ i3 = j3 ∧ i4 = j4 ∧ bl.length ≠ bm.length) by
      by_cases e0 : sd = td
      · by_cases e1 : so = tz
        · simp only [e0, e1, true_and, ne_eq, not_true_eq_false, false_or] at hx ⊢
          omega
        · exact .inr (.inl ⟨e0, e1⟩)
      · exact .inl e0) with e | ⟨rfl, e⟩ | ⟨rfl, rfl, e⟩ | ⟨rfl, rfl, rfl, e⟩ | ⟨rfl, rfl, rfl, rfl, e⟩ | ⟨rfl, rfl, rfl, rfl, rfl, e⟩ | ⟨rfl, rfl, rfl, rfl, rfl, rfl, e⟩ | ⟨rfl, rfl, rfl, rfl, rfl, rfl, rfl, e⟩
    · obtain rfl : td = !sd := by cases sd <;> cases td <;> simp_all
      clear hx e
      cases sd
      all_goals
        go_enter Try.func15, Try.ntmps15
        go_wp2_with fail
        exact HQ.out _ _ ⟨rfl, (below_alloc _).alloc (below_alloc _).size _⟩
    · have e' := num_ne1 e
      have e2 : ¬ ((so : Nat) : Int) = ((tz : Nat) : Int) := by omega
      clear hx e
      go_enter Try.func15, Try.ntmps15
      go_wp2_with fail
      exact HQ.out _ _ ⟨rfl, (below_alloc _).alloc (below_alloc _).size _⟩
    rotate_right
    · have e' : ((bl.length : Int) != (bm.length : Int)) = true := by simp; omega
      clear hx e
      go_enter Try.func15, Try.ntmps15
      go_wp2_with fail
      exact HQ.out _ _ ⟨rfl, (below_alloc _).alloc (below_alloc _).size _⟩
    all_goals
      clear hx
      go_enter Try.func15, Try.ntmps15
      go_wp2_with fail
      exact HQ.out _ _ ⟨rfl, (below_alloc _).alloc (below_alloc _).size _⟩
end Go.Proofs.Ythgajlmhgbhmlaa
