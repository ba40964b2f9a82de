/- The walks of rises and fits: may lost numbers be? -/
import Derived.Test.YtonkecfgopbclaaFp
namespace Go.Proofs.Ytonkecfgopbclaa
open Go.RowKit

theorem pairs_pos (l : List Int) : (pairsL l).length = 0 ↔ l = [] := by
  constructor
  · intro h
    have := pairs_len l
    exact List.eq_nil_of_length_eq_zero (by omega)
  · rintro rfl; rfl
set_option maxHeartbeats 1000000 in
theorem fits_any (l : List Int) (v : Value) (w : World) (h : SV w v (ints .u16 l)) :
    Calls Try.prog 23 #[v] w fun e w' => e = .returned (.bool (fitsL l)) ∧ Below w.heap.size w w' := by
  have hx := h.x
  clear h
  have HX := Lib.hid hx
  obtain ⟨A, c, rfl, _, _, _⟩ := LoG.parts hx
  clear hx
  obtain ⟨F, hF⟩ : ∃ F : Nat, F = (pairsL l).length := ⟨_, rfl⟩
  have HL := Lib.hid hF
  clear hF
  refine calls_q fun Q HQ => ?_
  go_enter Try.func23, Try.ntmps23
  go_wp2_with fail
  go_loopw [0, 3] (fun v i wr => ∃ (j : Nat) (t : List Int), j ≤ 47 ∧ i = .int .i64 j ∧ LoG (fun k => k < w.heap.size) wr v t ∧ F = j + (pairsL t).length ∧ Below w.heap.size w wr) (fun _ i _ => 47 - (intOf i).toNat)
  case atStart => exact ⟨0, l, by omega, rfl, HX.out, by rw [HL.out]; omega, Below.refl _ _⟩
  case round =>
    obtain ⟨j, t, hj, rfl, hv, hf, hb⟩ := hrel
    obtain ⟨A1, c1, rfl, _, _, _⟩ := LoG.parts hv
    have HV := Lib.hid hv
    have HF := Lib.hid hf
    have HB := Lib.hid hb
    clear hv hf hb
    by_cases hlt : (j : Int) < 47
    · cases t with
      | nil =>
        simp only [List.length_nil]
        go_wp2_with fail
        refine HQ.out _ _ ⟨ret_bool ?_, HB.out⟩
        have := HF.out
        rw [fitsL, ← HL.out, this, pairsL_nil]; simp; omega
      | cons x t =>
        have hl0 : (x :: t).length = t.length + 1 := rfl
        rw [hl0] at HV ⊢
        have h0 : (0 : Int) < (t.length : Int) + 1 := by omega
        go_wp2_with fail
        refine (firstpair_any _ x t _ wr HV.out).mono ?_
        rintro e w1 ⟨u, rfl, hu, hb1⟩
        have HU := Lib.hid hu
        have HB1 := Lib.hid (HB.out.trans (hb1.mono HB.out.size))
        have HF1 := Lib.hid (show F = j + 1 + (pairsL (fp x t).2).length by have := HF.out; rw [pairsL_cons, List.length_cons] at this; omega)
        generalize fp x t = s at *
        clear hu hb1
        go_wp2_with fail
        go_roundw
        case rel => exact ⟨j + 1, s.2, by omega, by go_num, HU.out, HF1.out, HB1.out⟩
        case measure => simp [intOf]; omega
    · obtain rfl : j = 47 := by omega
      go_wp2_with fail
      refine HQ.out _ _ ⟨ret_bool ?_, HB.out⟩
      have := HF.out
      have h2 := HL.out
      have h3 := pairs_pos t
      rw [fitsL, Bool.eq_iff_iff]
      simp only [decide_eq_true_eq, beq_iff_eq]
      constructor
      · intro h
        have : t = [] := List.eq_nil_of_length_eq_zero (by omega)
        have := h3.2 this
        omega
      · intro h
        have : t = [] := h3.1 (by omega)
        subst this; rfl
theorem risB_false (l : List Int) (k : Nat) (h : k + 1 < l.length) (hn : ¬ 0 < ahd 65536 l[k] l[k + 1]) : risB l = false := by
  rcases hb : risB l with _ | _
  · rfl
  · exact absurd ((risB_iff l).1 hb k h) hn
set_option maxHeartbeats 1000000 in
theorem rises_any (l : List Int) (v : Value) (w : World) (h : SV w v (ints .u16 l)) :
    Calls Try.prog 22 #[v] w fun e w' => e = .returned (.bool (risB l)) ∧ Below w.heap.size w w' := by
  have hx := h.x
  clear h
  obtain ⟨A, c, rfl, _, _, hp⟩ := LoG.parts hx
  have HX := Lib.hid hx
  have h63 := hx.1.len
  rw [ints_len] at h63
  clear hx hp
  refine calls_q fun Q HQ => ?_
  go_enter Try.func22, Try.ntmps22
  go_wp2_with fail
  go_loopw [3] (fun i wr => ∃ j : Nat, (∀ k (h : k + 1 < l.length), k + 1 < j → 0 < ahd 65536 l[k] l[k + 1]) ∧ 1 ≤ j ∧ (j = 1 ∨ j ≤ l.length) ∧ i = .int .i64 j ∧ Below w.heap.size w wr) (fun i _ => l.length + 1 - (intOf i).toNat)
  case atStart => exact ⟨1, fun k h hk => by omega, Nat.le_refl _, .inl rfl, rfl, Below.refl _ _⟩
  case round =>
    obtain ⟨j, hall, hj1, hjl, rfl, hbw⟩ := hrel
    have hx2 := LoG.below HX.out hbw
    obtain ⟨_, _, he, _, _, hp2⟩ := LoG.parts hx2
    simp only [Value.slice.injEq, true_and] at he
    obtain ⟨rfl, rfl⟩ := he
    have HB := Lib.hid hbw
    have HA := Lib.hid hall
    have HJ := Lib.hid hjl
    clear hall hjl hx2
    by_cases hlt : (j : Int) < (l.length : Int)
    · obtain ⟨b, o, rfl, hb, _, hcell⟩ := hp2 (by omega)
      have hc0 := hcell (j - 1) (by omega)
      have hc1 := hcell j (by omega)
      obtain ⟨k, rfl⟩ : ∃ k, j = k + 1 := ⟨j - 1, by omega⟩
      simp only [Nat.add_sub_cancel] at hc0
      have hk0 : (0 : Int) ≤ (k : Int) := by omega
      have hn := HA.out
      have hfal := risB_false l k (by omega)
      have hstep : 0 < ahd 65536 (l[k]'(by omega)) (l[k + 1]'(by omega)) → ∀ i (h : i + 1 < l.length), i + 1 < k + 1 + 1 → 0 < ahd 65536 l[i] l[i + 1] := by
        intro h1 i hi hi2
        rcases Nat.lt_or_ge (i + 1) (k + 1) with h3 | h3
        · exact hn i hi h3
        · obtain rfl : i = k := by omega
          exact h1
      generalize l[k]'(by omega) = x at *
      generalize l[k + 1]'(by omega) = y at *
      have HF := Lib.hid hfal
      have HS := Lib.hid hstep
      clear hcell hn hfal hstep hp2 hbw
      have hks : IntKind.i64.wrap (k : Int) = (k : Int) := by simp [IntKind.wrap, IntKind.bits, IntKind.signed]; omega
      rw [show ((k + 1 : Nat) : Int) = (k : Int) + 1 by omega] at *
      by_cases hd : 0 < ahd 65536 x y
      · have hdd := decide_eq_true hd
        have HD := Lib.hid (HS.out hd)
        have HN := Lib.hid (fun w => newer_any x y w)
        generalize ahd 65536 x y = z at *
        clear hd HS HF
        go_wp2_with fail
        go_quiet ((go_at_call 39; exact Calls.quiet_of_same (HN.out _)))
        go_wp2_with fail
        go_roundw
        case rel => exact ⟨k + 2, HD.out, by omega, .inr (by omega), by go_num, below_drewN HB.out _⟩
        case measure => simp [intOf]; omega
      · have hdd := decide_eq_false hd
        have HD := Lib.hid (HF.out hd)
        have HN := Lib.hid (fun w => newer_any x y w)
        generalize ahd 65536 x y = z at *
        clear hd HS HF
        go_wp2_with fail
        go_quiet ((go_at_call 39; exact Calls.quiet_of_same (HN.out _)))
        go_wp2_with fail
        exact HQ.out _ _ ⟨ret_bool HD.out.symm, below_drewN HB.out _⟩
    · have HR := Lib.hid (show risB l = true from (risB_iff l).2 fun k hk => HA.out k hk (by have := HJ.out; omega))
      clear hp2
      go_wp2_with fail
      exact HQ.out _ _ ⟨ret_bool HR.out.symm, HB.out⟩
end Go.Proofs.Ytonkecfgopbclaa
