/- The walk of the document's Same: chunks held against each other. -/
import Derived.Test.YtonkecfgopbclaaCk
import Derived.Test.YtonkecfgopbclaaBSameB
import Derived.Deep.RegionHeld3
namespace Go.Proofs.Ytonkecfgopbclaa
open Go.RowKit

/-- two rows of chunks that stay -/
structure SmS (w0 : World) (v : Value) (ts : List Ck) (u : Value) (us : List Ck) (w : World) : Prop where
  v : CkS w v ts
  u : CkS w u us
  below : Below w0.heap.size w0 w
theorem SmS.after {w0 w w' : World} {v u : Value} {ts us : List Ck} (h : SmS w0 v ts u us w) (hb : Below w.heap.size w w') : SmS w0 v ts u us w' :=
  ⟨h.v.below hb, h.u.below hb, h.below.trans (hb.mono h.below.size)⟩
theorem SmS.drew {w0 w : World} {v u : Value} {ts us : List Ck} (h : SmS w0 v ts u us w) : SmS w0 v ts u us w.drew := h.after (below_drewN (Below.refl _ _) 1)
/-- .. and the cells of the j-th ones -/
abbrev SmC (w0 : World) (b o n c : Nat) (ts : List Ck) (b2 o2 n2 c2 : Nat) (us : List Ck) (j : Nat) (x0 x1 : Int) (a : Value) (y0 y1 : Int) (d : Value) (w : World) : Prop :=
  SmS w0 (.slice (some ⟨b, o, none⟩) n c) ts (.slice (some ⟨b2, o2, none⟩) n2 c2) us w ∧
  w.cell? ⟨b, o + j * 3, none⟩ = some (.int .u8 x0) ∧ w.cell? ⟨b, o + j * 3 + 1, none⟩ = some (.int .u8 x1) ∧ w.cell? ⟨b, o + j * 3 + 2, none⟩ = some a ∧
  w.cell? ⟨b2, o2 + j * 3, none⟩ = some (.int .u8 y0) ∧ w.cell? ⟨b2, o2 + j * 3 + 1, none⟩ = some (.int .u8 y1) ∧ w.cell? ⟨b2, o2 + j * 3 + 2, none⟩ = some d
theorem SmS.cells {w0 w : World} {b o n c : Nat} {ts : List Ck} {b2 o2 n2 c2 : Nat} {us : List Ck} (h : SmS w0 (.slice (some ⟨b, o, none⟩) n c) ts (.slice (some ⟨b2, o2, none⟩) n2 c2) us w) (j : Nat) (h1 : j < ts.length) (h2 : j < us.length) :
    SmC w0 b o n c ts b2 o2 n2 c2 us j (ts[j].n : Nat) (ts[j].y : Nat) ts[j].v (us[j].n : Nat) (us[j].y : Nat) us[j].v w := by
  obtain ⟨c0, c1, c2⟩ := h.v.at j h1
  obtain ⟨d0, d1, d2⟩ := h.u.at j h2
  exact ⟨h, c0, c1, c2, d0, d1, d2⟩
theorem dtake_step {ts us : List Ck} {j : Nat} (h1 : j < ts.length) (h2 : j < us.length) (h : ds (ts.take j) = ds (us.take j)) (he : ts[j].d = us[j].d) : ds (ts.take (j + 1)) = ds (us.take (j + 1)) := by
  rw [ds_snoc ts j h1, ds_snoc us j h2, h, he]
theorem d_ne {ts us : List Ck} {j : Nat} (h1 : j < ts.length) (h2 : j < us.length) (he : ts[j].d ≠ us[j].d) : decide (ds ts = ds us) = false := by
  rw [decide_eq_false_iff_not]
  intro h
  apply he
  have e1 : (ds ts)[j]? = some ts[j].d := by simp [ds, h1]
  have e2 : (ds us)[j]? = some us[j].d := by simp [ds, h2]
  rw [h, e2] at e1
  exact (Option.some.inj e1).symm
set_option maxHeartbeats 1000000 in
theorem csame_any (v u : Value) (ts us : List Ck) (w : World) (hv : CkS w v ts) (hu : CkS w u us) :
    Calls Try.prog 30 #[v, u] w fun e w' => e = .returned (.bool (decide (ds ts = ds us))) ∧ Below w.heap.size w w' := by
  have HS := Lib.hid (show SmS w v ts u us w from ⟨hv, hu, Below.refl _ _⟩)
  obtain ⟨A, c, rfl, hc, hcm, hA⟩ := hv.parts
  obtain ⟨A2, c2, rfl, hc2, hcm2, hA2⟩ := hu.parts
  have HA := Lib.hid hA
  have HA2 := Lib.hid hA2
  clear hv hu hA hA2
  refine calls_q fun Q HQ => ?_
  by_cases hl : ts.length = us.length
  · have hne : ((ts.length : Int) != (us.length : Int)) = false := by rw [hl]; simp
    have HL := Lib.hid hl
    clear hl
    go_enter Try.func30, Try.ntmps30
    go_wp2_with fail
    go_loopw [5] (fun i wr => ∃ j : Nat, j ≤ ts.length ∧ i = .int .i64 j ∧ ds (ts.take j) = ds (us.take j) ∧ SmS w (.slice A ts.length c) ts (.slice A2 us.length c2) us wr) (fun i _ => ts.length - (intOf i).toNat)
    case atStart => exact ⟨0, Nat.zero_le _, rfl, by simp [ds], HS.out⟩
    case round =>
      obtain ⟨j, hj, rfl, ht, hs⟩ := hrel
      have HT := Lib.hid ht
      have HSr := Lib.hid hs
      clear ht hs
      by_cases hlt : j < ts.length
      · have hlt2 : j < us.length := by have := HL.out; omega
        obtain ⟨b, o, rfl, _⟩ := HA.out (by omega)
        obtain ⟨b2, o2, rfl, _⟩ := HA2.out (by omega)
        have HB1 := Lib.hid ((HSr.out.v.2 _ (List.getElem_mem hlt)).b)
        have HB2 := Lib.hid ((HSr.out.u.2 _ (List.getElem_mem hlt2)).b)
        have hcl := HSr.out.cells j hlt hlt2
        have HC := Lib.hid (fun w' (h : SmS w (.slice (some ⟨b, o, none⟩) ts.length c) ts (.slice (some ⟨b2, o2, none⟩) us.length c2) us w') => h.cells j hlt hlt2)
        have hi0 : (0 : Int) ≤ (j : Int) := by omega
        have hi1 : (j : Int) < (ts.length : Int) := by omega
        have hi2 : (j : Int) < (us.length : Int) := by omega
        have HE := Lib.hid (dtake_step hlt hlt2 HT.out)
        have HN := Lib.hid (d_ne hlt hlt2)
        have HV1 := Lib.hid (fun w' (h : SmS w (.slice (some ⟨b, o, none⟩) ts.length c) ts (.slice (some ⟨b2, o2, none⟩) us.length c2) us w') => (h.v.2 _ (List.getElem_mem hlt)).b)
        have HV2 := Lib.hid (fun w' (h : SmS w (.slice (some ⟨b, o, none⟩) ts.length c) ts (.slice (some ⟨b2, o2, none⟩) us.length c2) us w') => (h.u.2 _ (List.getElem_mem hlt2)).b)
        simp only [Ck.d, ne_eq, Prod.mk.injEq] at HE HN
        obtain ⟨X1, z1, hv1, _, hcy1, _⟩ := bs_parts HB1.out
        obtain ⟨X2, z2, hv2, _, hcy2, _⟩ := bs_parts HB2.out
        rw [hv1, hv2] at hcl
        rw [hv1] at HC HV1
        rw [hv2] at HC HV2
        clear HB1 HB2 hv1 hv2
        generalize (ts[j]'hlt).n = n1 at *
        generalize (us[j]'hlt2).n = n2 at *
        generalize (ts[j]'hlt).y = y1 at *
        generalize (us[j]'hlt2).y = y2 at *
        generalize (ts[j]'hlt).b = l1 at *
        generalize (us[j]'hlt2).b = l2 at *
        obtain ⟨_, c0, c1, c3, d0, d1, d3⟩ := hcl
        clear c0 c1 c3 d0 d1 d3
        by_cases hn : n1 = n2
        · have hx := num_ne0 hn
          by_cases hy : y1 = y2
          · have hxy := num_ne0 hy
            by_cases hl12 : l1 = l2
            · have HX := Lib.hid (show (l1 == l2) = true by simp [hl12])
              have HY := Lib.hid (HE.out ⟨hn, hy, hl12⟩)
              clear hn hy hl12
              go_wp2_with fail
              go_region_held3 (fun w' => SmS w (.slice (some ⟨b, o, none⟩) ts.length c) ts (.slice (some ⟨b2, o2, none⟩) us.length c2) us w' ∧ w'.cell? ⟨b, o + j * 3, none⟩ = some (.int .u8 (n1 : Nat)) ∧ w'.cell? ⟨b, o + j * 3 + 1, none⟩ = some (.int .u8 (y1 : Nat)) ∧ w'.cell? ⟨b, o + j * 3 + 2, none⟩ = some (.slice X1 l1.length z1) ∧ w'.cell? ⟨b2, o2 + j * 3, none⟩ = some (.int .u8 (n2 : Nat)) ∧ w'.cell? ⟨b2, o2 + j * 3 + 1, none⟩ = some (.int .u8 (y2 : Nat)) ∧ w'.cell? ⟨b2, o2 + j * 3 + 2, none⟩ = some (.slice X2 l2.length z2)) (first | exact HC.out _ ((‹SmS _ _ _ _ _ _ ∧ _›).1.after (by assumption)) | exact HC.out _ HSr.out.drew) (first | (go_at_call 46; have hh := (‹SmS _ _ _ _ _ _ ∧ _›).1; refine (rsame_is _ _ l1 l2 _ (HV1.out _ hh) (HV2.out _ hh) HX.out).mono ?_; rintro e w9 ⟨rfl, hb⟩; clear hh))
              have hh := (‹SmS _ _ _ _ _ _ ∧ _›).1
              go_wp2_with fail
              go_roundw
              case rel => exact ⟨j + 1, by omega, by go_num, HY.out, hh⟩
              case measure => simp [intOf]; omega
            · have HX := Lib.hid (show (l1 == l2) = false by simp [hl12])
              have HY := Lib.hid (HN.out (fun h => hl12 h.2.2))
              clear hn hy hl12
              go_wp2_with fail
              go_region_held3 (fun w' => SmS w (.slice (some ⟨b, o, none⟩) ts.length c) ts (.slice (some ⟨b2, o2, none⟩) us.length c2) us w' ∧ w'.cell? ⟨b, o + j * 3, none⟩ = some (.int .u8 (n1 : Nat)) ∧ w'.cell? ⟨b, o + j * 3 + 1, none⟩ = some (.int .u8 (y1 : Nat)) ∧ w'.cell? ⟨b, o + j * 3 + 2, none⟩ = some (.slice X1 l1.length z1) ∧ w'.cell? ⟨b2, o2 + j * 3, none⟩ = some (.int .u8 (n2 : Nat)) ∧ w'.cell? ⟨b2, o2 + j * 3 + 1, none⟩ = some (.int .u8 (y2 : Nat)) ∧ w'.cell? ⟨b2, o2 + j * 3 + 2, none⟩ = some (.slice X2 l2.length z2)) (first | exact HC.out _ ((‹SmS _ _ _ _ _ _ ∧ _›).1.after (by assumption)) | exact HC.out _ HSr.out.drew) (first | (go_at_call 46; have hh := (‹SmS _ _ _ _ _ _ ∧ _›).1; refine (rsame_is _ _ l1 l2 _ (HV1.out _ hh) (HV2.out _ hh) HX.out).mono ?_; rintro e w9 ⟨rfl, hb⟩; clear hh))
              have hh := (‹SmS _ _ _ _ _ _ ∧ _›).1
              go_wp2_with fail
              exact HQ.out _ _ ⟨ret_bool HY.out.symm, hh.below⟩
          · have hxy := num_ne1 hy
            have HY := Lib.hid (HN.out (fun h => hy h.2.1))
            clear hn hy
            go_wp2_with fail
            obtain ⟨_, c0, c1, c3, d0, d1, d3⟩ := HC.out _ HSr.out
            go_quiet (fail)
            go_wp2_with fail
            exact HQ.out _ _ ⟨ret_bool HY.out.symm, (HSr.out.after (below_drewN (Below.refl _ _) _)).below⟩
        · have hx := num_ne1 hn
          have HY := Lib.hid (HN.out (fun h => hn h.1))
          clear hn
          go_wp2_with fail
          obtain ⟨_, c0, c1, c3, d0, d1, d3⟩ := HC.out _ HSr.out
          go_quiet (fail)
          go_wp2_with fail
          exact HQ.out _ _ ⟨ret_bool HY.out.symm, (HSr.out.after (below_drewN (Below.refl _ _) _)).below⟩
      · have : j = ts.length := by omega
        subst this
        go_wp2_with fail
        refine HQ.out _ _ ⟨ret_bool ?_, HSr.out.below⟩
        symm
        have h1 := HT.out
        have h2 := HL.out
        rw [List.take_of_length_le (Nat.le_refl _), List.take_of_length_le (by omega)] at h1
        rw [decide_eq_true_eq]; exact h1
  · have hne : ((ts.length : Int) != (us.length : Int)) = true := by simp; omega
    have HL := Lib.hid hl
    clear hl
    go_enter Try.func30, Try.ntmps30
    go_wp2_with fail
    refine HQ.out _ _ ⟨ret_bool ?_, Below.refl _ _⟩
    symm
    rw [decide_eq_false_iff_not]
    intro h
    have := congrArg List.length h
    rw [ds_len, ds_len] at this
    exact HL.out this
theorem csame_is {r : Bool} (v u : Value) (ts us : List Ck) (w : World) (hv : CkS w v ts) (hu : CkS w u us) (hr : decide (ds ts = ds us) = r) :
    Calls Try.prog 30 #[v, u] w fun e w' => e = .returned (.bool r) ∧ Below w.heap.size w w' := by
  subst hr; exact csame_any v u ts us w hv hu
end Go.Proofs.Ytonkecfgopbclaa
