/- Reports as values: a slice of blocks; the walks of most and Right. -/
import Derived.Test.YthgajlmhgbhmlaaRowK
import Derived.Test.YthgajlmhgbhmlaaRp
import Derived.Deep.RegionHeld3
namespace Go.Proofs.Ythgajlmhgbhmlaa
open Go.RowKit

/-- a slice of blocks -/
def BlS (w : World) (v : Value) (bs : List DB) : Prop := RowsV 7 w v (bs.map DB.row) ∧ ∀ b ∈ bs, b.Ok
theorem BlS.fr {w w' : World} {v : Value} {bs : List DB} (h : BlS w v bs) {F : Nat → Prop} (hf : Fr F w w') (hF : ∀ b, b < w.heap.size → ¬ F b) : BlS w' v bs := ⟨h.1.fr hf hF, h.2⟩
theorem BlS.below {w w' : World} {v : Value} {bs : List DB} (h : BlS w v bs) (hb : Below w.heap.size w w') : BlS w' v bs := h.fr (Fr.of hb) (fun _ _ h => h)
theorem BlS.nil (w : World) : BlS w (.slice none 0 0) [] := ⟨⟨none, 0, rfl, Nat.le_refl _, Nat.zero_le _, fun h => absurd h (by simp)⟩, fun b hb => absurd hb (by simp)⟩
theorem BlS.parts {w : World} {v : Value} {bs : List DB} (h : BlS w v bs) : ∃ A c, v = .slice A bs.length c ∧ bs.length ≤ c ∧ c ≤ 9223372036854775807 ∧ (0 < bs.length → ∃ b o, A = some ⟨b, o, none⟩ ∧ b < w.heap.size) := by
  obtain ⟨⟨A, c, rfl, h1, h2, h3⟩, _⟩ := h
  have hl : (bs.map DB.row).length = bs.length := List.length_map ..
  refine ⟨A, c, by rw [hl], by omega, by unfold maxLen at h2; omega, fun hp => ?_⟩
  obtain ⟨b, o, rfl, hb, _⟩ := h3 (by omega)
  exact ⟨b, o, rfl, hb⟩
/-- the cells of one of them -/
theorem BlS.at {w : World} {b o : Nat} {n c : Nat} {bs : List DB} (h : BlS w (.slice (some ⟨b, o, none⟩) n c) bs) (i : Nat) (hi : i < bs.length) :
    w.cell? ⟨b, o + i * 7, none⟩ = some (.int .u32 (bs[i].s : Nat)) ∧ w.cell? ⟨b, o + i * 7 + 1, none⟩ = some (.int .u8 (bs[i].p : Nat)) ∧ w.cell? ⟨b, o + i * 7 + 2, none⟩ = some (.int .i32 bs[i].m) ∧ w.cell? ⟨b, o + i * 7 + 3, none⟩ = some (.int .u32 (bs[i].h : Nat)) ∧
      w.cell? ⟨b, o + i * 7 + 4, none⟩ = some (.int .u32 (bs[i].j : Nat)) ∧ w.cell? ⟨b, o + i * 7 + 5, none⟩ = some (.int .u32 (bs[i].l : Nat)) ∧ w.cell? ⟨b, o + i * 7 + 6, none⟩ = some (.int .u32 (bs[i].d : Nat)) := by
  obtain ⟨⟨A, c', he, _, _, hr⟩, _⟩ := h
  simp only [Value.slice.injEq] at he
  obtain ⟨b', o', hA, _, hc⟩ := hr (by simp; omega)
  rw [hA] at he
  simp only [Option.some.injEq, Addr.mk.injEq, and_true] at he
  obtain ⟨⟨rfl, rfl⟩, _⟩ := he
  have := fun j u hu => hc i (by simpa using hi) j u (by simpa using hu)
  exact ⟨this 0 _ rfl, this 1 _ rfl, this 2 _ rfl, this 3 _ rfl, this 4 _ rfl, this 5 _ rfl, this 6 _ rfl⟩
set_option maxHeartbeats 400000 in
theorem most_any (sd : Bool) (w : World) : Calls Try.prog 33 #[.bool sd] w fun e w' => e = .returned (.int .i64 (mostN sd : Nat)) ∧ w' = w := by
  refine calls_q fun Q HQ => ?_
  cases sd
  all_goals
    go_enter Try.func33, Try.ntmps33
    go_wp2_with fail
    exact HQ.out _ _ ⟨rfl, rfl⟩
set_option maxHeartbeats 1000000 in
theorem rpright_any (sd : Bool) (so i0 i1 i2 i3 i4 : Nat) (bl : List DB) (A : Option Addr) (c : Nat) (w : World) (h : BlS w (.slice A bl.length c) bl) :
    Calls Try.prog 12 #[.agg #[.bool sd, .int .u32 (so : Nat), .int .u32 (i0 : Nat), .int .u32 (i1 : Nat), .int .u32 (i2 : Nat), .int .u32 (i3 : Nat), .int .u32 (i4 : Nat), .slice A bl.length c]] w
      fun e w' => e = .returned (.bool (rightR ⟨sd, so, i0, i1, i2, i3, i4, bl⟩)) ∧ Below w.heap.size w w' := by
  have HT := Lib.hid h
  obtain ⟨_, _, he, _, _, hA⟩ := h.parts
  simp only [Value.slice.injEq, true_and] at he
  obtain ⟨rfl, rfl⟩ := he
  have HA := Lib.hid hA
  clear h hA
  refine calls_q fun Q HQ => ?_
  by_cases hz : sd = true ∨ (i0 = 0 ∧ i1 = 0 ∧ i2 = 0 ∧ i3 = 0 ∧ i4 = 0)
  · have HN := Lib.hid (show (sd || noInfo ⟨sd, so, i0, i1, i2, i3, i4, bl⟩) = true by
      rcases hz with rfl | ⟨rfl, rfl, rfl, rfl, rfl⟩
      · rfl
      · simp [noInfo])
    have HM := Lib.hid (fun w => most_any sd w)
    by_cases hl : ((mostN sd : Nat) : Int) < (bl.length : Int)
    · have HR := Lib.hid (show rightR ⟨sd, so, i0, i1, i2, i3, i4, bl⟩ = false by
        rw [rightR]; simp; intro _ h; omega)
      clear HN
      rcases hz with rfl | ⟨rfl, rfl, rfl, rfl, rfl⟩
      rotate_left
      cases sd
      all_goals
        go_enter Try.func12, Try.ntmps12
        go_wp2_with fail
        go_quiet ((go_at_call 33; exact Calls.quiet_of_same (HM.out _)))
        go_wp2_with fail
        exact HQ.out _ _ ⟨ret_bool HR.out.symm, below_drewN (below_alloc _) _⟩
    · rcases hz with rfl | ⟨rfl, rfl, rfl, rfl, rfl⟩
      rotate_left
      cases sd
      all_goals
        go_enter Try.func12, Try.ntmps12
        go_wp2_with fail
        go_quiet ((go_at_call 33; exact Calls.quiet_of_same (HM.out _)))
        go_wp2_with fail
        go_loopw [26] (fun i wr => ∃ j : Nat, j ≤ bl.length ∧ i = .int .i64 j ∧ Below w.heap.size w wr ∧ (∀ k (h : k < bl.length), k < j → missB bl[k] = true)) (fun i _ => bl.length - (intOf i).toNat)
        case atStart => exact ⟨0, Nat.zero_le _, rfl, below_drewN (below_alloc _) _, fun k _ hk => by omega⟩
        case round =>
          obtain ⟨j, hj, rfl, hb, hall⟩ := hrel
          have HB := Lib.hid hb
          have HL := Lib.hid hall
          clear hb hall
          by_cases hlt : j < bl.length
          · obtain ⟨b, o, rfl, hbl⟩ := HA.out (by omega)
            obtain ⟨c0, c1, c2, c3, c4, c5, c6⟩ := (HT.out.below HB.out).at j hlt
            have hbl2 := Nat.lt_of_lt_of_le hbl HB.out.size
            have h0 : (0 : Int) ≤ (j : Int) := by omega
            have h1 : (j : Int) < (bl.length : Int) := by omega
            have HMs := Lib.hid (show missB bl[j] = decide (-8388608 ≤ bl[j].m ∧ bl[j].m ≤ 8388607) from rfl)
            have HAl := Lib.hid (fun h : missB bl[j] = false => (List.all_eq_false.2 ⟨bl[j], List.getElem_mem hlt, by simp [h]⟩ : bl.all missB = false))
            obtain ⟨mi, hmi⟩ : ∃ mi, bl[j].m = mi := ⟨_, rfl⟩
            rw [hmi] at c2 HMs
            clear hmi
            by_cases hm0 : mi < -8388608
            · go_wp2_with fail
              refine HQ.out _ _ ⟨ret_bool ?_, HB.out.alloc HB.out.size _⟩
              rw [rightR, HAl.out (by rw [HMs.out]; simp; omega)]; simp
            · by_cases hm1 : (8388607 : Int) < mi
              · go_wp2_with fail
                refine HQ.out _ _ ⟨ret_bool ?_, HB.out.alloc HB.out.size _⟩
                rw [rightR, HAl.out (by rw [HMs.out]; simp; omega)]; simp
              · go_wp2_with fail
                go_roundw
                case rel =>
                  refine ⟨j + 1, by omega, by go_num, HB.out.alloc HB.out.size _, fun k hk hkj => ?_⟩
                  by_cases hkj2 : k = j
                  · subst hkj2; rw [HMs.out]; simp; omega
                  · exact HL.out k hk (by omega)
                case measure => simp [intOf]; omega
          · have : j = bl.length := by omega
            subst this
            go_wp2_with fail
            refine HQ.out _ _ ⟨ret_bool ?_, HB.out⟩
            symm
            rw [rightR, HN.out, Bool.true_and, Bool.and_eq_true, decide_eq_true_eq, List.all_eq_true]
            refine ⟨Int.ofNat_le.1 hl, fun t ht => ?_⟩
            obtain ⟨k, hk, rfl⟩ := List.getElem_of_mem ht
            exact HL.out k hk hk
  · have HN := Lib.hid (show rightR ⟨sd, so, i0, i1, i2, i3, i4, bl⟩ = false by
      have h1 : sd = false := by cases sd <;> simp_all
      have h2 : noInfo ⟨sd, so, i0, i1, i2, i3, i4, bl⟩ = false := by
        simp only [noInfo, decide_eq_false_iff_not]; exact fun h => hz (.inr h)
      rw [rightR, h2]; simp [h1])
    obtain rfl : sd = false := by cases sd <;> simp_all
    rcases (show i0 ≠ 0 ∨ (i0 = 0 ∧ i1 ≠ 0) ∨ (i0 = 0 ∧ i1 = 0 ∧ i2 ≠ 0) ∨ (i0 = 0 ∧ i1 = 0 ∧ i2 = 0 ∧ i3 ≠ 0) ∨ (i0 = 0 ∧ i1 = 0 ∧ i2 = 0 ∧ i3 = 0 ∧ i4 ≠ 0) by omega) with hi | ⟨rfl, hi⟩ | ⟨rfl, rfl, hi⟩ | ⟨rfl, rfl, rfl, hi⟩ | ⟨rfl, rfl, rfl, rfl, hi⟩
    all_goals
      clear hz
      go_enter Try.func12, Try.ntmps12
      go_wp2_with fail
      go_quiet (fail)
      go_wp2_with fail
      exact HQ.out _ _ ⟨ret_bool HN.out.symm, below_drewN (below_alloc _) _⟩
end Go.Proofs.Ythgajlmhgbhmlaa
