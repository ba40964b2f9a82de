/- Messages as values; the walk of Right. -/
import Derived.Test.YtonkecfgopbclaaFq
import Derived.Test.YtonkecfgopbclaaRows8
namespace Go.Proofs.Ytonkecfgopbclaa
open Go.RowKit

/-! ### asks and lost numbers as slices -/
def rowA (a : Nat × Nat) : List Value := [.int .u32 (a.1 : Nat), .int .u8 (a.2 : Nat)]
def AsS (w : World) (v : Value) (l : List (Nat × Nat)) : Prop := RowsV 2 w v (l.map rowA)
def LoS (w : World) (v : Value) (l : List Int) : Prop := SV w v (ints .u16 l)
theorem AsS.fr {w w' : World} {v : Value} {l : List (Nat × Nat)} (h : AsS w v l) {F : Nat → Prop} (hf : Fr F w w') (hF : ∀ b, b < w.heap.size → ¬ F b) : AsS w' v l := RowsV.fr h hf hF
theorem AsS.below {w w' : World} {v : Value} {l : List (Nat × Nat)} (h : AsS w v l) (hb : Below w.heap.size w w') : AsS w' v l := h.fr (Fr.of hb) (fun _ _ h => h)
theorem LoS.below {w w' : World} {v : Value} {l : List Int} (h : LoS w v l) (hb : Below w.heap.size w w') : LoS w' v l := SV.below h hb
theorem AsS.parts {w : World} {v : Value} {l : List (Nat × Nat)} (h : AsS w v l) : ∃ A c, v = .slice A l.length c ∧ l.length ≤ c ∧ c ≤ 9223372036854775807 ∧
    (0 < l.length → ∃ b o, A = some ⟨b, o, none⟩ ∧ b < w.heap.size ∧ ∀ j (h : j < l.length), w.cell? ⟨b, o + j * 2, none⟩ = some (.int .u32 (l[j].1 : Nat)) ∧ w.cell? ⟨b, o + j * 2 + 1, none⟩ = some (.int .u8 (l[j].2 : Nat))) := by
  obtain ⟨A, c, rfl, h1, h2, h3⟩ := h
  have hl : (l.map rowA).length = l.length := List.length_map ..
  refine ⟨A, c, by rw [hl], by omega, by unfold maxLen at h2; omega, fun hp => ?_⟩
  obtain ⟨b, o, rfl, hb, hc⟩ := h3 (by omega)
  refine ⟨b, o, rfl, hb, fun j hj => ?_⟩
  have := fun (k : Nat) (u : Value) (hu : (rowA l[j])[k]? = some u) => hc j (by omega) k u (by simpa using hu)
  exact ⟨this 0 _ rfl, this 1 _ rfl⟩
theorem LoS.parts {w : World} {v : Value} {l : List Int} (h : LoS w v l) : ∃ A c, v = .slice A l.length c ∧ l.length ≤ c ∧ c ≤ 9223372036854775807 := by
  obtain ⟨A, c, h1, h2, h3, _⟩ := LoG.parts (SV.x h)
  exact ⟨A, c, h1, h2, h3⟩
theorem AsS.nil (w : World) : AsS w (.slice none 0 0) [] := ⟨none, 0, rfl, Nat.le_refl _, Nat.zero_le _, fun h => absurd h (by simp)⟩
theorem LoS.nil (w : World) : LoS w (.slice none 0 0) [] := SV.nil w
theorem AsS.len {w : World} {v : Value} {l : List (Nat × Nat)} (h : AsS w v l) : l.length ≤ 9223372036854775807 := by
  obtain ⟨A, c, _, h1, h2, _⟩ := h.parts
  omega
theorem LoS.len {w : World} {v : Value} {l : List Int} (h : LoS w v l) : l.length ≤ 9223372036854775807 := by
  obtain ⟨A, c, _, h1, h2⟩ := h.parts
  omega
set_option maxRecDepth 20000 in
set_option maxHeartbeats 2000000 in
theorem fright_any (k : Int) (se me : Nat) (va vl : Value) (ak : List (Nat × Nat)) (lo : List Int) (w : World) (ha : AsS w va ak) (hl : LoS w vl lo) :
    Calls Try.prog 8 #[.agg #[.int .i64 k, .int .u32 (se : Nat), .int .u32 (me : Nat), va, vl]] w fun e w' => e = .returned (.bool (rightM ⟨k, se, me, ak, lo⟩)) ∧ Below w.heap.size w w' := by
  obtain ⟨A, c, rfl, hc1, hc2, hp⟩ := ha.parts
  obtain ⟨A2, c2, rfl, hc4, hc3⟩ := hl.parts
  clear ha hp hc1 hc4
  have hb1 := below_alloc (w := w) (.cells #[.int .i64 k, .int .u32 (se : Nat), .int .u32 (me : Nat), .slice A ak.length c, .slice A2 lo.length c2] 26)
  have HL := Lib.hid (hl.below hb1)
  have HB := Lib.hid hb1
  have HRs := Lib.hid (fun (w : World) (h : LoS w (.slice A2 lo.length c2) lo) => rises_any lo _ w h)
  have HFt := Lib.hid (fun (w : World) (h : LoS w (.slice A2 lo.length c2) lo) => fits_any lo _ w h)
  have hr1 : k = 1 → rightM ⟨k, se, me, ak, lo⟩ = (decide (ak.length = 0) && decide (lo.length = 0)) := fun h => by rw [rightM, if_pos h]
  have hr2 : k = 2 → rightM ⟨k, se, me, ak, lo⟩ = (decide (me = 0) && decide (0 < ak.length) && decide (ak.length ≤ 23) && decide (lo.length = 0)) := fun h => by subst h; rfl
  have hr3 : k = 3 → rightM ⟨k, se, me, ak, lo⟩ = (decide (ak.length = 0) && decide (0 < lo.length) && risB lo && fitsL lo) := fun h => by subst h; rfl
  have hr4 : k ≠ 1 → k ≠ 2 → k ≠ 3 → rightM ⟨k, se, me, ak, lo⟩ = false := fun h1 h2 h3 => by rw [rightM, if_neg h1, if_neg h2, if_neg h3]
  generalize rightM ⟨k, se, me, ak, lo⟩ = r at *
  generalize ak.length = na at *
  generalize hnl : lo.length = nl at *
  have HN := Lib.hid hnl
  clear hl hb1 hnl
  refine calls_q fun Q HQ => ?_
  by_cases h1 : k = 1
  · subst h1
    have hr := hr1 rfl
    clear hr1 hr2 hr3 hr4
    by_cases h2 : na = 0
    all_goals by_cases h3 : nl = 0
    all_goals
      try subst h2
      try subst h3
      have HR := Lib.hid hr
      clear hr
      go_enter Try.func8, Try.ntmps8
      go_wp2_with fail
      refine HQ.out _ _ ⟨ret_bool ?_, HB.out⟩
      rw [HR.out]; simp [*]
  · by_cases h2 : k = 2
    · subst h2
      have hr := hr2 rfl
      clear hr1 hr2 hr3 hr4
      have h4i : na ≠ 0 → (0 : Int) < (na : Int) := fun h => by omega
      by_cases h3 : (me : Int) = 0
      · by_cases h4 : na = 0
        · subst h4
          have HR := Lib.hid hr
          clear hr h4i
          go_enter Try.func8, Try.ntmps8
          go_wp2_with fail
          refine HQ.out _ _ ⟨ret_bool ?_, below_alloc _⟩
          rw [HR.out]; simp
        · have h4 := h4i h4
          clear h4i
          by_cases h5 : (na : Int) ≤ 23
          · by_cases h6 : nl = 0
            all_goals
              try subst h6
              have HR := Lib.hid hr
              clear hr
              go_enter Try.func8, Try.ntmps8
              go_wp2_with fail
              refine HQ.out _ _ ⟨ret_bool ?_, below_alloc _⟩
              have h7 : me = 0 := by omega
              have h8 : 0 < na := by omega
              have h9 : na ≤ 23 := by omega
              rw [HR.out]; simp [*]
          · have HR := Lib.hid hr
            clear hr
            go_enter Try.func8, Try.ntmps8
            go_wp2_with fail
            refine HQ.out _ _ ⟨ret_bool ?_, below_alloc _⟩
            have h9 : ¬ na ≤ 23 := by omega
            rw [HR.out]; simp [h9]
      · have HR := Lib.hid hr
        clear hr h4i
        go_enter Try.func8, Try.ntmps8
        go_wp2_with fail
        refine HQ.out _ _ ⟨ret_bool ?_, below_alloc _⟩
        have h9 : ¬ me = 0 := by omega
        rw [HR.out]; simp [h9]
    · by_cases h3 : k = 3
      · subst h3
        have hr := hr3 rfl
        clear hr1 hr2 hr3 hr4
        by_cases h4 : na = 0
        · subst h4
          by_cases h5 : nl = 0
          · subst h5
            have HR := Lib.hid hr
            clear hr
            go_enter Try.func8, Try.ntmps8
            go_wp2_with fail
            refine HQ.out _ _ ⟨ret_bool ?_, HB.out⟩
            rw [HR.out]; simp
          · have h6 : (0 : Int) < (nl : Int) := by omega
            have hr' : r = (risB lo && fitsL lo) := by rw [hr, decide_eq_true (show 0 < nl by omega)]; simp
            clear hr
            generalize risB lo = b1 at *
            generalize fitsL lo = b2 at *
            have HR := Lib.hid hr'
            clear hr' h5
            cases b1
            · go_enter Try.func8, Try.ntmps8
              go_wp2_with fail
              refine (HRs.out _ HL.out).mono ?_
              rintro e w1 ⟨rfl, hb⟩
              have HB2 := Lib.hid (HB.out.trans (hb.mono HB.out.size))
              clear hb
              go_wp2_with fail
              exact HQ.out _ _ ⟨ret_bool (by rw [HR.out]; rfl), HB2.out⟩
            · go_enter Try.func8, Try.ntmps8
              go_wp2_with fail
              refine (HRs.out _ HL.out).mono ?_
              rintro e w1 ⟨rfl, hb⟩
              have HB2 := Lib.hid (HB.out.trans (hb.mono HB.out.size))
              have HL2 := Lib.hid (HL.out.below hb)
              have k4 := (Fr.of hb).heap (heap_alloc_new w (.cells #[.int .i64 3, .int .u32 (se : Nat), .int .u32 (me : Nat), .slice A 0 c, .slice A2 nl c2] 26 (0, 0))) (fun h => h)
              have k4 := obj_cell k4 4
              simp at k4
              clear hb
              go_wp2_with fail
              refine (HFt.out _ HL2.out).mono ?_
              rintro e w2 ⟨rfl, hb⟩
              have HB3 := Lib.hid (HB2.out.trans (hb.mono HB2.out.size))
              clear hb
              go_wp2_with fail
              exact HQ.out _ _ ⟨ret_bool (by rw [HR.out]; rfl), HB3.out⟩
        · have hr' : r = false := by rw [hr]; simp [h4]
          clear hr
          subst hr'
          have h4i : ((na : Int) == 0) = false := by simp [h4]
          clear h4 HRs HFt HL HN
          go_enter Try.func8, Try.ntmps8
          go_wp2_with fail
          exact HQ.out _ _ ⟨rfl, HB.out⟩
      · have hr := hr4 h1 h2 h3
        clear hr1 hr2 hr3 hr4
        subst hr
        have b1 : (k == 1) = false := by simp [h1]
        have b2 : (k == 2) = false := by simp [h2]
        have b3 : (k == 3) = false := by simp [h3]
        clear h1 h2 h3 HRs HFt HL HN HB
        go_enter Try.func8, Try.ntmps8
        go_wp2_with fail
        exact HQ.out _ _ ⟨ret_bool rfl, below_alloc _⟩
end Go.Proofs.Ytonkecfgopbclaa
