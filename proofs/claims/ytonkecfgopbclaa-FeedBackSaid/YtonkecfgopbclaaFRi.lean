/- The walks of the document's Ahead and Rise. -/
import Derived.Test.YtonkecfgopbclaaFRt
namespace Go.Proofs.Ytonkecfgopbclaa
open Go.RowKit

theorem ahd_lo (a b : Int) (ha : Fits 65536 a) (hb : Fits 65536 b) : ahd 65536 a b = (if 32767 < b - a then b - a - 65536 else if b - a < -32768 then b - a + 65536 else b - a) := by
  have h1 := ha.lo; have h2 := ha.hi; have h3 := hb.lo; have h4 := hb.hi
  unfold ahd
  split <;> split <;> (try split) <;> omega
set_option maxHeartbeats 400000 in
theorem rahead_any (a b : Int) (w : World) (ha : Fits 65536 a) (hb : Fits 65536 b) :
    Calls Try.prog 31 #[.int .u16 a, .int .u16 b] w fun e w' => e = .returned (.int .i64 (ahd 65536 a b)) ∧ w' = w := by
  have HE := Lib.hid (ahd_lo a b ha hb)
  have h1 := ha.lo; have h2 := ha.hi; have h3 := hb.lo; have h4 := hb.hi
  have q1 : wrap64 (b - a) = b - a := by unfold wrap64; omega
  have q2 : wrap64 (b - a - 65536) = b - a - 65536 := by unfold wrap64; omega
  have q3 : wrap64 (b - a + 65536) = b - a + 65536 := by unfold wrap64; omega
  have q4 : wrap64 a = a := by unfold wrap64; omega
  have q5 : wrap64 b = b := by unfold wrap64; omega
  refine calls_q fun Q HQ => ?_
  rw [HE.out] at HQ
  by_cases c1 : 32767 < b - a
  · have c2 : ¬ b - a - 65536 < -32768 := by omega
    rw [if_pos c1] at HQ
    go_enter Try.func31, Try.ntmps31
    go_wp2_with fail
    exact HQ.out _ _ ⟨rfl, rfl⟩
  · rw [if_neg c1] at HQ
    by_cases c2 : b - a < -32768
    · rw [if_pos c2] at HQ
      go_enter Try.func31, Try.ntmps31
      go_wp2_with fail
      exact HQ.out _ _ ⟨rfl, rfl⟩
    · rw [if_neg c2] at HQ
      go_enter Try.func31, Try.ntmps31
      go_wp2_with fail
      exact HQ.out _ _ ⟨rfl, rfl⟩
set_option maxHeartbeats 1000000 in
theorem frise_any (l : List Int) (v : Value) (w : World) (h : SV w v (ints .u16 l)) (hfit : ∀ x ∈ l, Fits 65536 x) :
    Calls Try.prog 14 #[v] w fun e w' => e = .returned (.bool (risB l)) ∧ Below w.heap.size w w' := by
  have hx := h.x
  clear h
  obtain ⟨A, c, rfl, _, _, hp⟩ := LoG.parts hx
  have HX := Lib.hid hx
  have h63 := hx.1.len
  rw [ints_len] at h63
  clear hx hp
  refine calls_q fun Q HQ => ?_
  go_enter Try.func14, Try.ntmps14
  go_wp2_with fail
  go_loopw [3] (fun i wr => ∃ j : Nat, (∀ k (h : k + 1 < l.length), k + 1 < j → 0 < ahd 65536 l[k] l[k + 1]) ∧ 1 ≤ j ∧ (j = 1 ∨ j ≤ l.length) ∧ i = .int .i64 j ∧ Below w.heap.size w wr) (fun i _ => l.length + 1 - (intOf i).toNat)
  case atStart => exact ⟨1, fun k h hk => by omega, Nat.le_refl _, .inl rfl, rfl, Below.refl _ _⟩
  case round =>
    obtain ⟨j, hall, hj1, hjl, rfl, hbw⟩ := hrel
    have hx2 := LoG.below HX.out hbw
    obtain ⟨_, _, he, _, _, hp2⟩ := LoG.parts hx2
    simp only [Value.slice.injEq, true_and] at he
    obtain ⟨rfl, rfl⟩ := he
    have HB := Lib.hid hbw
    have HA := Lib.hid hall
    have HJ := Lib.hid hjl
    clear hall hjl hx2
    by_cases hlt : (j : Int) < (l.length : Int)
    · obtain ⟨b, o, rfl, hb, _, hcell⟩ := hp2 (by omega)
      have hc0 := hcell (j - 1) (by omega)
      have hc1 := hcell j (by omega)
      obtain ⟨k, rfl⟩ : ∃ k, j = k + 1 := ⟨j - 1, by omega⟩
      simp only [Nat.add_sub_cancel] at hc0
      have hk0 : (0 : Int) ≤ (k : Int) := by omega
      have hn := HA.out
      have hfal := risB_false l k (by omega)
      have hstep : 0 < ahd 65536 (l[k]'(by omega)) (l[k + 1]'(by omega)) → ∀ i (h : i + 1 < l.length), i + 1 < k + 1 + 1 → 0 < ahd 65536 l[i] l[i + 1] := by
        intro h1 i hi hi2
        rcases Nat.lt_or_ge (i + 1) (k + 1) with h3 | h3
        · exact hn i hi h3
        · obtain rfl : i = k := by omega
          exact h1
      have HRa := Lib.hid (fun w => rahead_any (l[k]'(by omega)) (l[k + 1]'(by omega)) w (hfit _ (List.getElem_mem _)) (hfit _ (List.getElem_mem _)))
      generalize l[k]'(by omega) = x at *
      generalize l[k + 1]'(by omega) = y at *
      have HF := Lib.hid hfal
      have HS := Lib.hid hstep
      clear hcell hn hfal hstep hp2 hbw
      have hks : IntKind.i64.wrap (k : Int) = (k : Int) := by simp [IntKind.wrap, IntKind.bits, IntKind.signed]; omega
      rw [show ((k + 1 : Nat) : Int) = (k : Int) + 1 by omega] at *
      by_cases hd : 0 < ahd 65536 x y
      · have hdd : ¬ ahd 65536 x y ≤ 0 := by omega
        have HD := Lib.hid (HS.out hd)
        generalize ahd 65536 x y = z at *
        clear hd HS HF
        go_wp2_with fail
        go_quiet ((go_at_call 31; exact Calls.quiet_of_same (HRa.out _)))
        go_wp2_with fail
        go_roundw
        case rel => exact ⟨k + 2, HD.out, by omega, .inr (by omega), by go_num, below_drewN HB.out _⟩
        case measure => simp [intOf]; omega
      · have hdd : ahd 65536 x y ≤ 0 := by omega
        have HD := Lib.hid (HF.out hd)
        generalize ahd 65536 x y = z at *
        clear hd HS HF
        go_wp2_with fail
        go_quiet ((go_at_call 31; exact Calls.quiet_of_same (HRa.out _)))
        go_wp2_with fail
        exact HQ.out _ _ ⟨ret_bool HD.out.symm, below_drewN HB.out _⟩
    · have HR := Lib.hid (show risB l = true from (risB_iff l).2 fun k hk => HA.out k hk (by have := HJ.out; omega))
      clear hp2
      go_wp2_with fail
      exact HQ.out _ _ ⟨ret_bool HR.out.symm, HB.out⟩
end Go.Proofs.Ytonkecfgopbclaa
