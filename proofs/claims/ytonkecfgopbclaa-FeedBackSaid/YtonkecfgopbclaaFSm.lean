/- The walk of the document's Same: messages held against each other. -/
import Derived.Test.YtonkecfgopbclaaFOw
import Derived.Test.YtonkecfgopbclaaBSameB
namespace Go.Proofs.Ytonkecfgopbclaa
open Go.RowKit

theorem taken_step {α : Type} {l m : List α} {j : Nat} (h1 : j < l.length) (h2 : j < m.length) (h : l.take j = m.take j) (he : l[j] = m[j]) : l.take (j + 1) = m.take (j + 1) := by
  rw [List.take_succ_eq_append_getElem h1, List.take_succ_eq_append_getElem h2, h, he]
theorem taken_all {α : Type} {l m : List α} (hl : l.length = m.length) (h : l.take l.length = m.take l.length) : l = m := by
  rwa [List.take_of_length_le (Nat.le_refl _), List.take_of_length_le (by omega)] at h
set_option maxRecDepth 20000 in
set_option maxHeartbeats 4000000 in
theorem fsame_is {r : Bool} (k : Int) (se me : Nat) (va vl : Value) (ak : List (Nat × Nat)) (lo : List Int) (k' : Int) (se' me' : Nat) (ua ul : Value) (bk : List (Nat × Nat)) (mo : List Int) (w : World)
    (ha : AsS w va ak) (hl : LoS w vl lo) (hb : AsS w ua bk) (hm : LoS w ul mo) (h : r = true ↔ (⟨k, se, me, ak, lo⟩ : DM) = ⟨k', se', me', bk, mo⟩) :
    Calls Try.prog 10 #[.agg #[.int .i64 k, .int .u32 (se : Nat), .int .u32 (me : Nat), va, vl], .agg #[.int .i64 k', .int .u32 (se' : Nat), .int .u32 (me' : Nat), ua, ul]] w
      fun e w' => e = .returned (.bool r) ∧ Below w.heap.size w w' := by
  obtain ⟨A, c, rfl, y1, y2, y3⟩ := ha.parts
  obtain ⟨B, e, rfl, _, _⟩ := hl.parts
  obtain ⟨A2, c2, rfl, y4, y5, y6⟩ := hb.parts
  obtain ⟨B2, e2, rfl, _, _⟩ := hm.parts
  have HA := Lib.hid ha
  have HL := Lib.hid hl
  have HB := Lib.hid hb
  have HM := Lib.hid hm
  clear ha hl hb hm y1 y2 y3 y4 y5 y6
  simp only [DM.mk.injEq] at h
  refine calls_q fun Q HQ => ?_
  by_cases hx : k = k' ∧ se = se' ∧ me = me' ∧ ak.length = bk.length ∧ lo.length = mo.length
  · obtain ⟨rfl, rfl, rfl, hla, hlb⟩ := hx
    have hli : ((ak.length : Int) != (bk.length : Int)) = false := by rw [hla]; simp
    have hlj : ((lo.length : Int) != (mo.length : Int)) = false := by rw [hlb]; simp
    have HLa := Lib.hid hla
    have HLb := Lib.hid hlb
    have HR := Lib.hid (show r = true ↔ ak = bk ∧ lo = mo by simpa using h)
    clear hla hlb h
    have hx1 := (Fr.alloc (w.alloc (oRef k se me (.slice A ak.length c) (.slice B lo.length e))) (oRef k se me (.slice A2 bk.length c2) (.slice B2 mo.length e2))).heap (heap_alloc_new w (oRef k se me (.slice A ak.length c) (.slice B lo.length e))) (fun h => h)
    have hx2 := heap_alloc_new (w.alloc (oRef k se me (.slice A ak.length c) (.slice B lo.length e))) (oRef k se me (.slice A2 bk.length c2) (.slice B2 mo.length e2))
    rw [World.size_alloc] at hx2
    have hbl := (below_alloc (w := w) (oRef k se me (.slice A ak.length c) (.slice B lo.length e))).alloc (below_alloc (oRef k se me (.slice A ak.length c) (.slice B lo.length e))).size (oRef k se me (.slice A2 bk.length c2) (.slice B2 mo.length e2))
    have HBl := Lib.hid hbl
    have HX1 := Lib.hid hx1
    have HX2 := Lib.hid hx2
    clear hx1 hx2 hbl
    go_enter Try.func10, Try.ntmps10
    go_wp2_with fail
    rw [show (w.alloc (.cells #[.int .i64 k, .int .u32 (se : Nat), .int .u32 (me : Nat), .slice A ak.length c, .slice B lo.length e] 40)).alloc (.cells #[.int .i64 k, .int .u32 (se : Nat), .int .u32 (me : Nat), .slice A2 bk.length c2, .slice B2 mo.length e2] 40) = (w.alloc (oRef k se me (.slice A ak.length c) (.slice B lo.length e))).alloc (oRef k se me (.slice A2 bk.length c2) (.slice B2 mo.length e2)) from rfl]
    generalize (w.alloc (oRef k se me (.slice A ak.length c) (.slice B lo.length e))).alloc (oRef k se me (.slice A2 bk.length c2) (.slice B2 mo.length e2)) = wl at *
    generalize w.heap.size + 1 = by_ at *
    generalize hbx : w.heap.size = bx at HX1 HX2 ⊢
    have HBx := Lib.hid hbx
    clear hbx
    obtain ⟨_, _, _, kx, mx⟩ := cells5m HX1.out
    obtain ⟨_, _, _, ky, my⟩ := cells5m HX2.out
    go_loopw [5] (fun i wr => ∃ j d : Nat, j ≤ ak.length ∧ i = .int .i64 j ∧ ak.take j = bk.take j ∧ wr = wl.drewN d) (fun i _ => ak.length - (intOf i).toNat)
    case atStart => exact ⟨0, 0, Nat.zero_le _, rfl, by simp, rfl⟩
    case round =>
      obtain ⟨j, d, hj, rfl, hst, rfl⟩ := hrel
      have HSt := Lib.hid hst
      clear hst
      by_cases hlt : j < ak.length
      · have hlt2 : j < bk.length := by have := HLa.out; omega
        obtain ⟨_, _, he, _, _, hp⟩ := (HA.out.below HBl.out).parts
        simp only [Value.slice.injEq, true_and] at he
        obtain ⟨rfl, rfl⟩ := he
        obtain ⟨b, o, rfl, g1, hcell⟩ := hp (by omega)
        obtain ⟨c0, c1⟩ := hcell j hlt
        obtain ⟨_, _, he, _, _, hp2⟩ := (HB.out.below HBl.out).parts
        simp only [Value.slice.injEq, true_and] at he
        obtain ⟨rfl, rfl⟩ := he
        obtain ⟨b2, o2, rfl, g2, hcell2⟩ := hp2 (by omega)
        obtain ⟨d0, d1⟩ := hcell2 j hlt2
        have h0 : (0 : Int) ≤ (j : Int) := by omega
        have h1 : (j : Int) < (ak.length : Int) := by omega
        have h2 : (j : Int) < (bk.length : Int) := by omega
        have HStep := Lib.hid (fun e => taken_step hlt hlt2 HSt.out e)
        have HNe := Lib.hid (fun (hn : ak[j] ≠ bk[j]) => (by
          have : ¬ ak = bk := fun e => hn (by subst e; rfl)
          cases r
          · rfl
          · exact absurd (HR.out.1 rfl).1 this : r = false))
        clear hcell hcell2 hp hp2
        generalize ak[j] = x at *
        generalize bk[j] = y at *
        obtain ⟨s, p⟩ := x
        obtain ⟨s2, p2⟩ := y
        simp only at c0 c1 d0 d1
        by_cases he : s = s2 ∧ p = p2
        · obtain ⟨rfl, rfl⟩ := he
          have HSt2 := Lib.hid (HStep.out rfl)
          clear HStep HNe
          go_wp2_with fail
          go_quiet (fail)
          go_wp2_with fail
          go_roundw
          case rel => exact ⟨j + 1, _, by omega, by go_num, HSt2.out, rfl⟩
          case measure => simp [intOf]; omega
        · have hr := HNe.out (by simp only [ne_eq, Prod.mk.injEq]; exact he)
          subst hr
          clear HStep HNe HR
          rcases (show (¬ ((s : Nat) : Int) = ((s2 : Nat) : Int)) ∨ (s = s2 ∧ ¬ ((p : Nat) : Int) = ((p2 : Nat) : Int)) by
            by_cases e0 : s = s2
            · exact .inr ⟨e0, fun h => he ⟨e0, by omega⟩⟩
            · exact .inl (by omega)) with hn | ⟨rfl, hn⟩
          all_goals
            clear he
            go_wp2_with fail
            go_quiet (fail)
            go_wp2_with fail
            exact HQ.out _ _ ⟨rfl, by first | exact HBl.out | exact below_drewN HBl.out _ | exact below_drewN (below_drewN HBl.out _) _⟩
      · have : j = ak.length := by omega
        subst this
        have HEq := Lib.hid (taken_all HLa.out HSt.out)
        go_wp2_with fail
        generalize hwd : wl.drewN d = wd at *
        have HBd := Lib.hid (show Below w.heap.size w wd by rw [← hwd]; exact below_drewN HBl.out _)
        have mx2 : wd.cell? ⟨bx, 4, none⟩ = some (.slice B lo.length e) := by rw [← hwd]; exact mx
        have my2 : wd.cell? ⟨by_, 4, none⟩ = some (.slice B2 mo.length e2) := by rw [← hwd]; exact my
        clear hwd kx ky mx my HX1 HX2 HSt hj
        go_loopw [6] (fun i wr => ∃ j d : Nat, j ≤ lo.length ∧ i = .int .i64 j ∧ lo.take j = mo.take j ∧ wr = wd.drewN d) (fun i _ => lo.length - (intOf i).toNat)
        case atStart => exact ⟨0, 0, Nat.zero_le _, rfl, by simp, rfl⟩
        case round =>
          obtain ⟨j, d2, hj, rfl, hst, rfl⟩ := hrel
          have HSt := Lib.hid hst
          clear hst
          by_cases hlt : j < lo.length
          · have hlt2 : j < mo.length := by have := HLb.out; omega
            obtain ⟨_, _, he, _, _, hp⟩ := LoG.parts (SV.x (HL.out.below HBd.out))
            simp only [Value.slice.injEq, true_and] at he
            obtain ⟨rfl, rfl⟩ := he
            obtain ⟨b, o, rfl, g1, _, hcell⟩ := hp (by omega)
            have c0 := hcell j hlt
            obtain ⟨_, _, he, _, _, hp2⟩ := LoG.parts (SV.x (HM.out.below HBd.out))
            simp only [Value.slice.injEq, true_and] at he
            obtain ⟨rfl, rfl⟩ := he
            obtain ⟨b2, o2, rfl, g2, _, hcell2⟩ := hp2 (by omega)
            have d0 := hcell2 j hlt2
            have h0 : (0 : Int) ≤ (j : Int) := by omega
            have h1 : (j : Int) < (lo.length : Int) := by omega
            have h2 : (j : Int) < (mo.length : Int) := by omega
            have HStep := Lib.hid (fun e => taken_step hlt hlt2 HSt.out e)
            have HNe := Lib.hid (fun (hn : lo[j] ≠ mo[j]) => (by
              have : ¬ lo = mo := fun e => hn (by subst e; rfl)
              cases r
              · rfl
              · exact absurd (HR.out.1 rfl).2 this : r = false))
            clear hcell hcell2 hp hp2
            generalize lo[j] = x at *
            generalize mo[j] = y at *
            by_cases he : x = y
            · obtain rfl := he
              have HSt2 := Lib.hid (HStep.out rfl)
              clear HStep HNe
              go_wp2_with fail
              go_quiet (fail)
              go_wp2_with fail
              go_roundw
              case rel => exact ⟨j + 1, _, by omega, by go_num, HSt2.out, rfl⟩
              case measure => simp [intOf]; omega
            · have hr := HNe.out he
              subst hr
              have hxn : (x != y) = true := by simp [he]
              clear HStep HNe HR he
              go_wp2_with fail
              go_quiet (fail)
              go_wp2_with fail
              exact HQ.out _ _ ⟨rfl, by first | exact HBd.out | exact below_drewN HBd.out _ | exact below_drewN (below_drewN HBd.out _) _⟩
          · have : j = lo.length := by omega
            subst this
            have hr : r = true := HR.out.2 ⟨HEq.out, taken_all HLb.out HSt.out⟩
            subst hr
            clear HR
            go_wp2_with fail
            exact HQ.out _ _ ⟨rfl, by first | exact HBd.out | exact below_drewN HBd.out _ | exact below_drewN (below_drewN HBd.out _) _⟩
  · have hr : r = false := by
      cases r
      · rfl
      · obtain ⟨e0, e1, e2, e3, e4⟩ := h.1 rfl
        exact absurd ⟨e0, e1, e2, by rw [e3], by rw [e4]⟩ hx
    subst hr
    clear h HA HL HB HM
    generalize ak.length = na at *
    generalize lo.length = nl at *
    generalize bk.length = nb at *
    generalize mo.length = nm at *
    rcases (show ¬ k = k' ∨ (k = k' ∧ ¬ ((se : Nat) : Int) = (se' : Nat)) ∨ (k = k' ∧ se = se' ∧ ¬ ((me : Nat) : Int) = (me' : Nat)) ∨ (k = k' ∧ se = se' ∧ me = me' ∧ ¬ ((na : Nat) : Int) = (nb : Nat)) ∨ (k = k' ∧ se = se' ∧ me = me' ∧ na = nb ∧ ¬ ((nl : Nat) : Int) = (nm : Nat)) by omega) with he | ⟨rfl, he⟩ | ⟨rfl, rfl, he⟩ | ⟨rfl, rfl, rfl, he⟩ | ⟨rfl, rfl, rfl, rfl, he⟩
    all_goals
      clear hx
      go_enter Try.func10, Try.ntmps10
      go_wp2_with fail
      exact HQ.out _ _ ⟨rfl, (below_alloc _).alloc (below_alloc _).size _⟩
end Go.Proofs.Ytonkecfgopbclaa
