/- The walks of the document's Right, of reports and of chunks. -/
import Derived.Test.YthgajlmhgbhmlaaRpRd
import Derived.Deep.Cut
namespace Go.Proofs.Ythgajlmhgbhmlaa
open Go.RowKit

set_option maxHeartbeats 400000 in
theorem rcright_is {r : Bool} (n y : Nat) (v : Value) (b : List UInt8) (w : World) (h : BS w v b) (hr : rightC (n, y, b) = r) :
    Calls Try.prog 29 #[.agg #[.int .u8 (n : Nat), .int .u8 (y : Nat), v]] w fun e w' => e = .returned (.bool r) ∧ Below w.heap.size w w' := by
  obtain ⟨A, c, rfl, _, _, _⟩ := bs_parts h
  subst hr
  refine calls_q fun Q HQ => ?_
  by_cases h31 : (n : Int) ≤ 31
  · by_cases h4 : (b.length : Int) % 4 = 0
    · by_cases h196 : (b.length : Int) ≤ 196
      · go_enter Try.func29, Try.ntmps29
        go_wp2_with fail
        refine HQ.out _ _ ⟨ret_bool ?_, below_alloc _⟩
        rw [rightC, Bool.eq_iff_iff]; simp; omega
      · go_enter Try.func29, Try.ntmps29
        go_wp2_with fail
        refine HQ.out _ _ ⟨ret_bool ?_, below_alloc _⟩
        rw [rightC, Bool.eq_iff_iff]; simp; omega
    · by_cases h196 : (b.length : Int) ≤ 196
      · go_enter Try.func29, Try.ntmps29
        go_wp2_with fail
        refine HQ.out _ _ ⟨ret_bool ?_, below_alloc _⟩
        rw [rightC, Bool.eq_iff_iff]; simp; omega
      · go_enter Try.func29, Try.ntmps29
        go_wp2_with fail
        refine HQ.out _ _ ⟨ret_bool ?_, below_alloc _⟩
        rw [rightC, Bool.eq_iff_iff]; simp; omega
  · go_enter Try.func29, Try.ntmps29
    go_wp2_with fail
    refine HQ.out _ _ ⟨ret_bool ?_, below_alloc _⟩
    rw [rightC, Bool.eq_iff_iff]; simp; omega
set_option maxHeartbeats 2000000 in
theorem rrright_any (sd : Bool) (so i0 i1 i2 i3 i4 : Nat) (bl : List DB) (A : Option Addr) (c : Nat) (w : World) (h : BlS w (.slice A bl.length c) bl) :
    Calls Try.prog 13 #[.agg #[.bool sd, .int .u32 (so : Nat), .int .u32 (i0 : Nat), .int .u32 (i1 : Nat), .int .u32 (i2 : Nat), .int .u32 (i3 : Nat), .int .u32 (i4 : Nat), .slice A bl.length c]] w
      fun e w' => e = .returned (.bool (rightR ⟨sd, so, i0, i1, i2, i3, i4, bl⟩)) ∧ Below w.heap.size w w' := by
  have HT := Lib.hid h
  obtain ⟨_, _, he, _, _, hA⟩ := h.parts
  simp only [Value.slice.injEq, true_and] at he
  obtain ⟨rfl, rfl⟩ := he
  have HA := Lib.hid hA
  clear h hA
  refine calls_q fun Q HQ => ?_
  by_cases hl : mostN sd < bl.length
  · have HR := Lib.hid (show rightR ⟨sd, so, i0, i1, i2, i3, i4, bl⟩ = false by
      rw [rightR]; simp; intro _ h; omega)
    by_cases h8 : (8 : Int) < (bl.length : Int)
    · clear hl
      go_enter Try.func13, Try.ntmps13
      go_wp2_with fail
      exact HQ.out _ _ ⟨ret_bool HR.out.symm, (below_alloc _).alloc (below_alloc _).size _⟩
    · obtain rfl : sd = true := by
        cases sd
        · simp [mostN] at hl; omega
        · rfl
      have h7 : (7 : Int) < (bl.length : Int) := by simp [mostN] at hl; omega
      clear hl
      go_enter Try.func13, Try.ntmps13
      go_wp2_with fail
      exact HQ.out _ _ ⟨ret_bool HR.out.symm, (below_alloc _).alloc (below_alloc _).size _⟩
  · have h8 : ¬ (8 : Int) < (bl.length : Int) := by unfold mostN at hl; split at hl <;> omega
    by_cases hz : sd = true ∨ (i0 = 0 ∧ i1 = 0 ∧ i2 = 0 ∧ i3 = 0 ∧ i4 = 0)
    · have HN := Lib.hid (show (sd || noInfo ⟨sd, so, i0, i1, i2, i3, i4, bl⟩) = true by
        rcases hz with rfl | ⟨rfl, rfl, rfl, rfl, rfl⟩
        · rfl
        · simp [noInfo])
      have HLe := Lib.hid (Nat.le_of_not_lt hl)
      have h7 : sd = true → ¬ (7 : Int) < (bl.length : Int) := by rintro rfl; simp [mostN] at hl; omega
      clear hl
      rcases hz with rfl | ⟨rfl, rfl, rfl, rfl, rfl⟩
      rotate_left
      cases sd
      case' true => have h7 := h7 rfl
      case' inl => have h7 := h7 rfl
      all_goals
        go_enter Try.func13, Try.ntmps13
        go_wp2_with fail
        go_loopw [4] (fun i wr => ∃ j : Nat, j ≤ bl.length ∧ i = .int .i64 j ∧ Below w.heap.size w wr ∧ wr.cell? ⟨w.heap.size, 7, none⟩ = some (.slice A bl.length c) ∧ (∀ k (h : k < bl.length), k < j → missB bl[k] = true)) (fun i _ => bl.length - (intOf i).toNat)
        case atStart => exact ⟨0, Nat.zero_le _, rfl, (below_alloc _).alloc (below_alloc _).size _, obj_cell ((Fr.alloc (w.alloc _) _).heap (heap_alloc_new w _) (fun h => h)) 7, fun k _ hk => by omega⟩
        case round =>
          obtain ⟨j, hj, rfl, hb, hc7, hall⟩ := hrel
          have HB := Lib.hid hb
          have HL := Lib.hid hall
          clear hb hall
          by_cases hlt : j < bl.length
          · obtain ⟨b, o, rfl, hbl⟩ := HA.out (by omega)
            obtain ⟨c0, c1, c2, c3, c4, c5, c6⟩ := (HT.out.below HB.out).at j hlt
            have hbl2 := Nat.lt_of_lt_of_le hbl HB.out.size
            have h0 : (0 : Int) ≤ (j : Int) := by omega
            have h1 : (j : Int) < (bl.length : Int) := by omega
            have HMs := Lib.hid (show missB bl[j] = decide (-8388608 ≤ bl[j].m ∧ bl[j].m ≤ 8388607) from rfl)
            have HAl := Lib.hid (fun h : missB bl[j] = false => (List.all_eq_false.2 ⟨bl[j], List.getElem_mem hlt, by simp [h]⟩ : bl.all missB = false))
            obtain ⟨mi, hmi⟩ : ∃ mi, bl[j].m = mi := ⟨_, rfl⟩
            rw [hmi] at c2 HMs
            clear hmi c0 c1 c3 c4 c5 c6
            by_cases hm0 : mi < -8388608
            · go_wp2_with fail
              refine HQ.out _ _ ⟨ret_bool ?_, HB.out⟩
              rw [rightR, HAl.out (by rw [HMs.out]; simp; omega)]; simp
            · by_cases hm1 : (8388607 : Int) < mi
              · go_wp2_with fail
                refine HQ.out _ _ ⟨ret_bool ?_, HB.out⟩
                rw [rightR, HAl.out (by rw [HMs.out]; simp; omega)]; simp
              · go_wp2_with fail
                go_roundw
                case rel =>
                  refine ⟨j + 1, by omega, by go_num, HB.out, hc7, fun k hk hkj => ?_⟩
                  by_cases hkj2 : k = j
                  · subst hkj2; rw [HMs.out]; simp; omega
                  · exact HL.out k hk (by omega)
                case measure => simp [intOf]; omega
          · have : j = bl.length := by omega
            subst this
            go_wp2_with fail
            refine HQ.out _ _ ⟨ret_bool ?_, HB.out⟩
            symm
            rw [rightR, HN.out, Bool.true_and, Bool.and_eq_true, decide_eq_true_eq, List.all_eq_true]
            refine ⟨HLe.out, fun t ht => ?_⟩
            obtain ⟨k, hk, rfl⟩ := List.getElem_of_mem ht
            exact HL.out k hk hk
    · have HN := Lib.hid (show rightR ⟨sd, so, i0, i1, i2, i3, i4, bl⟩ = false by
        have h1 : sd = false := by cases sd <;> simp_all
        have h2 : noInfo ⟨sd, so, i0, i1, i2, i3, i4, bl⟩ = false := by
          simp only [noInfo, decide_eq_false_iff_not]; exact fun h => hz (.inr h)
        rw [rightR, h2]; simp [h1])
      obtain rfl : sd = false := by cases sd <;> simp_all
      clear hl
      rcases (show i0 ≠ 0 ∨ (i0 = 0 ∧ i1 ≠ 0) ∨ (i0 = 0 ∧ i1 = 0 ∧ i2 ≠ 0) ∨ (i0 = 0 ∧ i1 = 0 ∧ i2 = 0 ∧ i3 ≠ 0) ∨ (i0 = 0 ∧ i1 = 0 ∧ i2 = 0 ∧ i3 = 0 ∧ i4 ≠ 0) by omega) with hi | ⟨rfl, hi⟩ | ⟨rfl, rfl, hi⟩ | ⟨rfl, rfl, rfl, hi⟩ | ⟨rfl, rfl, rfl, rfl, hi⟩
      all_goals
        clear hz
        go_enter Try.func13, Try.ntmps13
        go_wp2_with fail
        exact HQ.out _ _ ⟨ret_bool HN.out.symm, (below_alloc _).alloc (below_alloc _).size _⟩
end Go.Proofs.Ythgajlmhgbhmlaa
