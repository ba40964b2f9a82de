/- The walk of ReportCount. -/
import Derived.Test.YthgajlmhgbhmlaaRpAk
namespace Go.Proofs.Ythgajlmhgbhmlaa
open Go.RowKit

/-- with four bytes fewer, four more, another Count -/
theorem count_pure {r : DR} (h : rightR r = true) (ho : r.Ok) :
    rdErr (r.bl.length, typR r.sd, (encR r).take ((encR r).length - 4)) = 3 ∧
    rdErr (r.bl.length, typR r.sd, encR r ++ [0, 0, 0, 0]) = (if (encR r).length + 4 ≤ 196 then 4 else 1) ∧
    ∀ q, q < 32 → rdErr (q, typR r.sd, encR r) = if r.bl.length < q then 3 else if q < r.bl.length then 4 else 0 := by
  obtain ⟨hc, _, _, _⟩ := back_r h ho
  obtain ⟨c1, c2, c3⟩ := right_iffC.1 hc
  simp only [chunkR] at c1 c2 c3
  have hl := encR_len r
  have hi : isR (typR r.sd) = true := by unfold typR isR; cases r.sd <;> decide
  have hd : decide (typR r.sd = 200) = r.sd := by unfold typR; cases r.sd <;> decide
  have h4 : 4 ≤ aheadN r.sd := by unfold aheadN; split <;> omega
  have ha4 : aheadN r.sd % 4 = 0 := by unfold aheadN; split <;> omega
  refine ⟨?_, ?_, fun q hq => ?_⟩
  · rw [rdErr_eq, if_pos (right_iffC.2 ⟨c1, by simp only [List.length_take]; omega, by simp only [List.length_take]; omega⟩)]
    show (if isR (typR r.sd) = true then _ else _) = _
    rw [if_pos hi]
    show (if ((encR r).take ((encR r).length - 4)).length < aheadN (decide (typR r.sd = 200)) + 24 * r.bl.length then _ else _) = _
    rw [hd, if_pos (by simp only [List.length_take]; omega)]
  · have e4 : (encR r ++ [0, 0, 0, 0]).length = (encR r).length + 4 := by simp
    rw [rdErr_eq]
    by_cases h196 : (encR r).length + 4 ≤ 196
    · rw [if_pos (right_iffC.2 ⟨c1, by simp only [e4]; omega, by simp only [e4]; omega⟩), if_pos h196]
      show (if isR (typR r.sd) = true then _ else _) = _
      rw [if_pos hi]
      show (if (encR r ++ [0, 0, 0, 0]).length < aheadN (decide (typR r.sd = 200)) + 24 * r.bl.length then _ else if aheadN (decide (typR r.sd = 200)) + 24 * r.bl.length < (encR r ++ [0, 0, 0, 0]).length then _ else _) = _
      rw [hd, e4, if_neg (by omega), if_pos (by omega)]
    · have hn : rightC (r.bl.length, typR r.sd, encR r ++ [0, 0, 0, 0]) = false := by
        rw [Bool.eq_false_iff]
        intro hx
        have := (right_iffC.1 hx).2.2
        simp only [e4] at this; omega
      rw [hn, if_neg h196]
      rfl
  · rw [rdErr_eq, if_pos (right_iffC.2 ⟨by show q ≤ 31; omega, c2, c3⟩)]
    show (if isR (typR r.sd) = true then _ else _) = _
    rw [if_pos hi]
    show (if (encR r).length < aheadN (decide (typR r.sd = 200)) + 24 * q then _ else if aheadN (decide (typR r.sd = 200)) + 24 * q < (encR r).length then _ else _) = _
    rw [hd, hl]
    by_cases h1 : r.bl.length < q
    · rw [if_pos (by omega), if_pos h1]
    · rw [if_neg (by omega), if_neg h1]
      by_cases h2 : q < r.bl.length
      · rw [if_pos (by omega), if_pos h2]
      · rw [if_neg (by omega), if_neg h2]
set_option maxRecDepth 20000 in
set_option maxHeartbeats 4000000 in
theorem rpcount_any (sd : Bool) (so i0 i1 i2 i3 i4 : Nat) (bl : List DB) (v : Value) (ct : Nat) (w : World) (h : BlS w v bl) (ho : DR.Ok ⟨sd, so, i0, i1, i2, i3, i4, bl⟩) (hct : ct < 256) :
    Calls Try.prog 5 #[.agg #[.bool sd, .int .u32 (so : Nat), .int .u32 (i0 : Nat), .int .u32 (i1 : Nat), .int .u32 (i2 : Nat), .int .u32 (i3 : Nat), .int .u32 (i4 : Nat), v], .int .u8 (ct : Nat)] w
      fun r w' => r = .returned (.bool true) ∧ Below w.heap.size w w' := by
  have HV := Lib.hid h
  have HO := Lib.hid ho
  obtain ⟨A, c, rfl, _⟩ := h.parts
  have hb0 := below_alloc (w := w) (.cells #[.bool sd, .int .u32 (so : Nat), .int .u32 (i0 : Nat), .int .u32 (i1 : Nat), .int .u32 (i2 : Nat), .int .u32 (i3 : Nat), .int .u32 (i4 : Nat), .slice A bl.length c] 27 (0, 0))
  have hx0 := heap_alloc_new w (.cells #[.bool sd, .int .u32 (so : Nat), .int .u32 (i0 : Nat), .int .u32 (i1 : Nat), .int .u32 (i2 : Nat), .int .u32 (i3 : Nat), .int .u32 (i4 : Nat), .slice A bl.length c] 27 (0, 0))
  have HB0 := Lib.hid hb0
  have HX0 := Lib.hid hx0
  clear h ho hb0 hx0
  refine calls_q fun Q HQ => ?_
  go_enter Try.func5, Try.ntmps5
  go_wp2_with fail
  generalize w.alloc (.cells #[.bool sd, .int .u32 (so : Nat), .int .u32 (i0 : Nat), .int .u32 (i1 : Nat), .int .u32 (i2 : Nat), .int .u32 (i3 : Nat), .int .u32 (i4 : Nat), .slice A bl.length c] 27) = w1 at *
  generalize hbx : w.heap.size = bx at HX0 ⊢
  have HBx := Lib.hid hbx
  clear hbx
  refine (awake8_any w1).mono ?_
  rintro r w2 ⟨rfl, hb⟩
  have HX2 := Lib.hid ((Fr.of hb).heap HX0.out (fun h => h))
  have HB2 := Lib.hid (HB0.out.trans (hb.mono HB0.out.size))
  clear hb HX0 HB0
  obtain ⟨k0, k1, k2, k3, k4, k5, k6, k7⟩ := cells8 HX2.out
  by_cases h40 : (40 : Int) < (bl.length : Int)
  · go_wp2_with fail
    exact HQ.out _ _ ⟨rfl, HB2.out⟩
  · go_wp2_with fail
    refine (rpwrite_v sd so i0 i1 i2 i3 i4 bl _ w2 (HV.out.below HB2.out) HO.out).mono ?_
    unfold WritePost
    rintro r w3 ⟨u, rfl, hu, hb⟩
    have hb3 := HB2.out.trans (hb.mono HB2.out.size)
    have hx3 := (Fr.of hb).heap HX2.out (fun h => h)
    by_cases hr : rightR ⟨sd, so, i0, i1, i2, i3, i4, bl⟩ = true
    · obtain ⟨q1, q2, q3⟩ := count_pure hr HO.out
      have hl := encR_len ⟨sd, so, i0, i1, i2, i3, i4, bl⟩
      obtain ⟨hc, _, _, _⟩ := back_r hr HO.out
      have hc3 := (right_iffC.1 hc).2
      rw [show wrC ⟨sd, so, i0, i1, i2, i3, i4, bl⟩ = (bl.length, typR sd, encR ⟨sd, so, i0, i1, i2, i3, i4, bl⟩) from by rw [wrC, if_pos hr]; rfl] at hu ⊢
      rw [show wrE ⟨sd, so, i0, i1, i2, i3, i4, bl⟩ = 0 from by rw [wrE, if_pos hr]]
      simp only [chunkR] at hc3
      simp only at hu hl q1 q2 q3 ⊢
      generalize encR ⟨sd, so, i0, i1, i2, i3, i4, bl⟩ = E at *
      obtain ⟨m, hm⟩ : ∃ m, E.length = m := ⟨_, rfl⟩
      obtain ⟨Au, cu, rfl, hcu, hcum, _⟩ := bs_parts hu
      rw [hm] at hu hl q1 q2 hcu hc3 ⊢
      have hty : typR sd < 256 := by unfold typR; cases sd <;> decide
      have HTy := Lib.hid hty
      have HM := Lib.hid hm
      have HL := Lib.hid hl
      have HQ1 := Lib.hid q1
      have HQ2 := Lib.hid q2
      have HQ3 := Lib.hid q3
      have h4 : (4 : Int) ≤ (m : Int) := by have h : 4 ≤ aheadN sd := by unfold aheadN; split <;> omega
                                            omega
      have hm2 : (m : Int) ≤ 196 := by omega
      have hmod : (m : Int) % 4 = 0 := by omega
      have hlb : bl.length ≤ 8 := by omega
      clear hc hr k0 k1 k2 k3 k4 k5 k6 k7 hc3 q1 q2 q3 hl hty hm
      have ha := below_alloc (w := w3) (.cells #[.int .u8 (bl.length : Nat), .int .u8 (typR sd : Nat), .slice Au m cu] 30 (0, 0))
      have HX4 := Lib.hid ((Fr.of ha).heap hx3 (fun h => h))
      have HC4 := Lib.hid (heap_alloc_new w3 (.cells #[.int .u8 (bl.length : Nat), .int .u8 (typR sd : Nat), .slice Au m cu] 30 (0, 0)))
      have HU4 := Lib.hid (hu.x.fr (Fr.of ha) (fun _ _ _ h => h))
      have HB4 := Lib.hid (hb3.trans (ha.mono hb3.size))
      have hbc : bx < w3.heap.size ∧ w.heap.size ≤ w3.heap.size := ⟨obj_lt hx3, hb3.size⟩
      clear hu hb hb3 hx3 ha HX2 HB2
      go_upto_region 6 with fail
      rw [show w3.alloc (.cells #[.int .u8 (bl.length : Nat), .int .u8 (typR sd : Nat), .slice Au m cu] 30) = w3.alloc (.cells #[.int .u8 (bl.length : Nat), .int .u8 (typR sd : Nat), .slice Au m cu] 30 (0, 0)) from rfl]
      generalize w3.alloc (.cells #[.int .u8 (bl.length : Nat), .int .u8 (typR sd : Nat), .slice Au m cu] 30 (0, 0)) = w4 at *
      have HBc := Lib.hid hbc
      clear hbc
      generalize w3.heap.size = cb at *
      obtain ⟨k0, k1, k2, k3, k4, k5, k6, k7⟩ := cells8 HX4.out
      obtain ⟨m0, m1, m2, z0, z1, z2⟩ := cells3 HC4.out
      have hwant : (m : Int) = if sd then 4 + 24 * (bl.length : Int) + 20 else 4 + 24 * (bl.length : Int) := by have h := HL.out; unfold aheadN at h; split at h <;> simp_all <;> omega
      have hne : ((m : Int) != (m : Int)) = false := by simp
      have HK7 := Lib.hid (show ∀ w' : World, w'.heap[bx]? = some (.cells #[.bool sd, .int .u32 (so : Nat), .int .u32 (i0 : Nat), .int .u32 (i1 : Nat), .int .u32 (i2 : Nat), .int .u32 (i3 : Nat), .int .u32 (i4 : Nat), .slice A bl.length c] 27 (0, 0) : Obj) → w'.cell? ⟨bx, 7, none⟩ = some (.slice A bl.length c) from fun w' h => (cells8 h).2.2.2.2.2.2.2)
      generalize hox : (.cells #[.bool sd, .int .u32 (so : Nat), .int .u32 (i0 : Nat), .int .u32 (i1 : Nat), .int .u32 (i2 : Nat), .int .u32 (i3 : Nat), .int .u32 (i4 : Nat), .slice A bl.length c] 27 (0, 0) : Obj) = ox at HK7 HX4
      clear hox
      have HWant := Lib.hid hwant
      generalize typR sd = ty at *
      cases sd
      case' false => simp only [Bool.false_eq_true, if_false] at hwant
      case' true => simp only [if_true] at hwant
      all_goals
        go_upto_region 14 with fail
        clear hwant hne k0 k1 k2 k3 k4 k5 k6 k7
        go_upto_region 15 with fail
        obtain ⟨hbc1, hbc2⟩ := HBc.out
        have hf5 : Fr (F1 cb) w4 (w4.setCell ⟨cb, 2, none⟩ (.slice Au (m - 4) cu)) := Fr.setCell w4 ⟨cb, 2, none⟩ _
        have hu5 := HU4.out.fr hf5 (fun k _ hk (hx : k = cb) => by omega)
        have hc5 := obj_set HC4.out 2 (.slice Au (m - 4) cu)
        rw [show (#[Value.int .u8 (bl.length : Nat), .int .u8 (ty : Nat), .slice Au m cu].setIfInBounds 2 (.slice Au (m - 4) cu)) = #[.int .u8 (bl.length : Nat), .int .u8 (ty : Nat), .slice Au (m - 4) cu] from rfl] at hc5
        have hx5 := hf5.heap HX4.out (fun (hx : bx = cb) => by omega)
        have hb5 := HB4.out.trans (hf5.below HB4.out.size (fun k (hk : k = cb) => by omega))
        have ht5 : BS (w4.setCell ⟨cb, 2, none⟩ (.slice Au (m - 4) cu)) (.slice Au (m - 4) cu) (E.take (m - 4)) := by
          obtain ⟨A', c', he, _, _, hr⟩ := hu5.1
          simp only [Value.slice.injEq] at he
          rw [← he.1] at hr
          have hl : (E.take (m - 4)).length = m - 4 := by rw [List.length_take, HM.out]; omega
          exact ⟨Au, cu, by rw [hl], by rw [hl]; omega, by unfold maxLen; omega, hr.take (m - 4)⟩
        have HU5 := Lib.hid hu5
        have HC5 := Lib.hid hc5
        have HX5 := Lib.hid hx5
        have HB5 := Lib.hid hb5
        have HT5 := Lib.hid ht5
        clear hf5 hu5 hc5 hx5 hb5 ht5 hbc1 hbc2 HU4 HC4 HX4 HB4 m0 m1 m2 z0 z1 z2
        generalize w4.setCell ⟨cb, 2, none⟩ (.slice Au (m - 4) cu) = w5 at *
        obtain ⟨m0, m1, m2, z0, z1, z2⟩ := cells3 HC5.out
        go_wp2_with fail
        refine (rpread_v bl.length ty _ (E.take (m - 4)) w5 HT5.out (by omega) HTy.out (by rw [List.length_take]; omega)).mono ?_
        unfold RdPostR rval
        rw [HQ1.out]
        generalize readR (bl.length, ty, E.take (m - 4)) = r6
        rintro r w6 ⟨v6, rfl, hv6, hb6⟩
        obtain ⟨A6, c6, rfl, _⟩ := hv6.parts
        have hba := hb6.alloc hb6.size (.cells #[.bool r6.sd, .int .u32 (r6.so : Nat), .int .u32 (r6.i0 : Nat), .int .u32 (r6.i1 : Nat), .int .u32 (r6.i2 : Nat), .int .u32 (r6.i3 : Nat), .int .u32 (r6.i4 : Nat), .slice A6 r6.bl.length c6] 27)
        have HU7 := Lib.hid (HU5.out.fr (Fr.of hba) (fun _ _ _ h => h))
        have HC7 := Lib.hid ((Fr.of hba).heap HC5.out (fun h => h))
        have HX7 := Lib.hid ((Fr.of hba).heap HX5.out (fun h => h))
        have HB7 := Lib.hid (HB5.out.trans (hba.mono HB5.out.size))
        clear hv6 hb6 hba HU5 HC5 HX5 HB5 HT5 m0 m1 m2 z0 z1 z2
        go_upto_region 16 with fail
        generalize w6.alloc (.cells #[.bool r6.sd, .int .u32 (r6.so : Nat), .int .u32 (r6.i0 : Nat), .int .u32 (r6.i1 : Nat), .int .u32 (r6.i2 : Nat), .int .u32 (r6.i3 : Nat), .int .u32 (r6.i4 : Nat), .slice A6 r6.bl.length c6] 27) = w7 at *
        have hlt7 := obj_lt HC7.out
        go_wp2_with (at_builtin; refine wpl_app rfl _ _ 28 rfl w7.heap.size 5 (.int .u8 0) 1 Try.underlying28 (by kernel_rfl) rfl _ 0 [] rfl (own_empty _ _ _ (Nat.le_refl _)) _ _ _ (c8 E) rfl ?_ (c8_one _) ?_ ?_ ?_ ?_)
        · exact src_of HM.out (by
            obtain ⟨A', c', he, _, _, hr⟩ := (HU7.out.fr (Fr.alloc w7 (.cells #[] 5)) (fun _ _ _ h => h)).1
            simp only [Value.slice.injEq] at he
            rw [he.1]; exact hr)
        · unfold maxLen; omega
        · omega
        · simp
        · intro v8 w8 hown hg _
          obtain ⟨A8, c8', rfl⟩ := own_slice hown
          have hfa : Fr F0 w7 w8 := (Fr.alloc w7 (.cells #[] 5)).trans (Fr.grown hg) (fun k hk => .inr (by simp [Value.ownBlock] at hk; omega))
          have hfb := hfa.trans (Fr.alloc w8 (.cells #[.int .u8 0, .int .u8 0, .int .u8 0, .int .u8 0] 5)) (fun _ h => .inl h)
          have HU8 := Lib.hid (HU7.out.fr hfb (fun _ _ _ h => h))
          have HC8 := Lib.hid (hfb.heap HC7.out (fun h => h))
          have HX8 := Lib.hid (hfb.heap HX7.out (fun h => h))
          have HB8 := Lib.hid (HB7.out.trans (hfb.below HB7.out.size (fun _ h => h.elim)))
          have HO8 := Lib.hid ((Fr.alloc w8 (.cells #[.int .u8 0, .int .u8 0, .int .u8 0, .int .u8 0] 5)).own hown (fun _ _ h => h))
          have hsz8 := hfb.size
          have HSz := Lib.hid (show cb < w7.heap.size ∧ w7.heap.size ≤ (w8.alloc (.cells #[.int .u8 0, .int .u8 0, .int .u8 0, .int .u8 0] 5)).heap.size from ⟨hlt7, hfb.size⟩)
          have hsrc := own_bs_src (BS.lit w8 [0, 0, 0, 0] 5 (by decide))
          have HSrc := Lib.hid (show Src (w8.alloc (.cells #[.int .u8 0, .int .u8 0, .int .u8 0, .int .u8 0] 5)) (some ⟨w8.heap.size, 0, none⟩) 4 (c8 [0, 0, 0, 0]) from hsrc)
          clear hown hg hfa hfb hsz8 hsrc HU7 HC7 HX7 HB7 hlt7
          go_wp2_with (at_builtin; refine wpl_app rfl _ _ 28 rfl w7.heap.size 5 (.int .u8 0) 1 Try.underlying28 (by kernel_rfl) rfl _ _ _ rfl HO8.out _ _ _ (c8 [0, 0, 0, 0]) rfl HSrc.out (c8_one _) ?_ ?_ HSz.out.2 ?_)
          · unfold maxLen; omega
          · omega
          · intro v9 w9 hown hg _
            obtain ⟨A9, c9, rfl⟩ := own_slice hown
            obtain ⟨hbc1, hbc2⟩ := HBc.out
            have hsz := HSz.out.1
            have hlt : ∀ k, some k = (Value.slice A8 m c8').ownBlock → w7.heap.size ≤ k := fun k hk => (HO8.out.lt k hk.symm).1
            have hfg := Fr.grown hg
            have hs9 : Fr (F1 cb) w9 (w9.setCell ⟨cb, 2, none⟩ (.slice A9 (m + 4) c9)) := Fr.setCell w9 ⟨cb, 2, none⟩ _
            have hc9 := hfg.heap HC8.out (fun hk => by have := hlt _ hk; omega)
            have hc10 := obj_set hc9 2 (.slice A9 (m + 4) c9)
            rw [show (#[Value.int .u8 (bl.length : Nat), .int .u8 (ty : Nat), .slice Au (m - 4) cu].setIfInBounds 2 (.slice A9 (m + 4) c9)) = #[.int .u8 (bl.length : Nat), .int .u8 (ty : Nat), .slice A9 (m + 4) c9] from rfl] at hc10
            have hb9 := HB8.out.trans (hfg.below HB8.out.size (fun k hk => by have := hlt k hk; omega))
            rw [← c8_app] at hown
            have HC10 := Lib.hid hc10
            have HX10 := Lib.hid (hs9.heap (hfg.heap HX8.out (fun hk => by have := hlt _ hk; omega)) (fun (hx : bx = cb) => by omega))
            have HU10 := Lib.hid ((HU8.out.fr hfg (fun k _ hk hx => by have := hlt k hx; omega)).fr hs9 (fun k _ hk (hx : k = cb) => by omega))
            have HB10 := Lib.hid (hb9.trans (hs9.below hb9.size (fun k (hk : k = cb) => by omega)))
            have HT10 := Lib.hid ((own_bsx hown).fr hs9 (fun k _ hk (hx : k = cb) => by omega)).1
            obtain ⟨m0, m1, m2, z0, z1, z2⟩ := cells3 hc9
            clear hbc1 hbc2 hsz hlt hfg hs9 hc9 hc10 hb9 hown hg HU8 HC8 HX8 HB8 HO8 HSz HSrc
            go_upto_region 17 with fail
            generalize w9.setCell ⟨cb, 2, none⟩ (.slice A9 (m + 4) c9) = w10 at *
            clear m0 m1 m2 z0 z1 z2
            obtain ⟨m0, m1, m2, z0, z1, z2⟩ := cells3 HC10.out
            go_wp2_with fail
            refine (rpread_v bl.length ty _ (E ++ [0, 0, 0, 0]) w10 HT10.out (by omega) HTy.out (by rw [List.length_append, HM.out]; simp; omega)).mono ?_
            unfold RdPostR rval
            rw [HQ2.out]
            generalize readR (bl.length, ty, E ++ [0, 0, 0, 0]) = r11
            rintro r w11 ⟨v11, rfl, hv11, hb11⟩
            obtain ⟨A11, c11, rfl, _⟩ := hv11.parts
            have hba := hb11.alloc hb11.size (.cells #[.bool r11.sd, .int .u32 (r11.so : Nat), .int .u32 (r11.i0 : Nat), .int .u32 (r11.i1 : Nat), .int .u32 (r11.i2 : Nat), .int .u32 (r11.i3 : Nat), .int .u32 (r11.i4 : Nat), .slice A11 r11.bl.length c11] 27)
            have HU12 := Lib.hid (HU10.out.fr (Fr.of hba) (fun _ _ _ h => h))
            have HC12 := Lib.hid ((Fr.of hba).heap HC10.out (fun h => h))
            have HX12 := Lib.hid ((Fr.of hba).heap HX10.out (fun h => h))
            have HB12 := Lib.hid (HB10.out.trans (hba.mono HB10.out.size))
            clear hv11 hb11 hba HU10 HC10 HX10 HB10 HT10 m0 m1 m2 z0 z1 z2
            obtain ⟨g, hg⟩ : ∃ g : Int, g = (if m + 4 ≤ 196 then 4 else 1) := ⟨_, rfl⟩
            rw [← hg]
            have HG := Lib.hid hg
            clear hg
            go_upto_region 18 with fail
            generalize w11.alloc (.cells #[.bool r11.sd, .int .u32 (r11.so : Nat), .int .u32 (r11.i0 : Nat), .int .u32 (r11.i1 : Nat), .int .u32 (r11.i2 : Nat), .int .u32 (r11.i3 : Nat), .int .u32 (r11.i4 : Nat), .slice A11 r11.bl.length c11] 27) = w12 at *
            obtain ⟨m0, m1, m2, z0, z1, z2⟩ := cells3 HC12.out
            go_upto_region 20 with fail
            obtain ⟨q, hq⟩ : ∃ q : Nat, q = ct % 32 := ⟨_, rfl⟩
            have hqi : (ct : Int) % 32 = (q : Int) := by omega
            have hq32 : q < 32 := by omega
            clear hq
            rw [hqi]
            obtain ⟨hbc1, hbc2⟩ := HBc.out
            have hs1 : Fr (F1 cb) w12 (w12.setCell ⟨cb, 2, none⟩ (.slice Au m cu)) := Fr.setCell w12 ⟨cb, 2, none⟩ _
            have hs2 : Fr (F1 cb) w12 ((w12.setCell ⟨cb, 2, none⟩ (.slice Au m cu)).setCell ⟨cb, 0, none⟩ (.int .u8 (q : Nat))) := hs1.trans (Fr.setCell _ ⟨cb, 0, none⟩ _) (fun _ h => .inl h)
            have hc13 := obj_set (obj_set HC12.out 2 (.slice Au m cu)) 0 (.int .u8 (q : Nat))
            rw [show ((#[Value.int .u8 (bl.length : Nat), .int .u8 (ty : Nat), .slice A9 (m + 4) c9].setIfInBounds 2 (.slice Au m cu)).setIfInBounds 0 (.int .u8 (q : Nat))) = #[.int .u8 (q : Nat), .int .u8 (ty : Nat), .slice Au m cu] from rfl] at hc13
            have HC13 := Lib.hid hc13
            have HX13 := Lib.hid (hs2.heap HX12.out (fun (hx : bx = cb) => by omega))
            have HU13 := Lib.hid (HU12.out.fr hs2 (fun k _ hk (hx : k = cb) => by omega))
            have HB13 := Lib.hid (HB12.out.trans (hs2.below HB12.out.size (fun k (hk : k = cb) => by omega)))
            clear hbc1 hbc2 hs1 hs2 hc13 HC12 HX12 HU12 HB12 m0 m1 m2 z0 z1 z2
            generalize (w12.setCell ⟨cb, 2, none⟩ (.slice Au m cu)).setCell ⟨cb, 0, none⟩ (.int .u8 (q : Nat)) = w13 at *
            obtain ⟨m0, m1, m2, z0, z1, z2⟩ := cells3 HC13.out
            go_wp2_with fail
            have hrd := rpread_v q ty _ E w13 HU13.out.1 (by omega) HTy.out (by rw [HM.out]; omega)
            unfold RdPostR rval at hrd
            rw [HQ3.out q hq32] at hrd
            refine hrd.mono ?_
            generalize readR (q, ty, E) = r14
            rintro r w14 ⟨v14, rfl, hv14, hb14⟩
            obtain ⟨A14, c14, rfl, _⟩ := hv14.parts
            have hba := hb14.alloc hb14.size (.cells #[.bool r14.sd, .int .u32 (r14.so : Nat), .int .u32 (r14.i0 : Nat), .int .u32 (r14.i1 : Nat), .int .u32 (r14.i2 : Nat), .int .u32 (r14.i3 : Nat), .int .u32 (r14.i4 : Nat), .slice A14 r14.bl.length c14] 27)
            have HX15 := Lib.hid ((Fr.of hba).heap HX13.out (fun h => h))
            have HB15 := Lib.hid (HB13.out.trans (hba.mono HB13.out.size))
            have k7 := HK7.out _ HX15.out
            clear hv14 hb14 hba HX13 HU13 HB13 HC13 m0 m1 m2 z0 z1 z2 hrd
            have hg := HG.out
            by_cases h196 : (196 : Int) < (m : Int) + 4
            · rw [if_neg (by omega)] at hg
              subst hg
              rcases (show bl.length < q ∨ q < bl.length ∨ q = bl.length by omega) with hc | hc | hc
              · have hc1 : (bl.length : Int) < (q : Int) := by omega
                have hc2 : ¬ (q : Int) < (bl.length : Int) := by omega
                rw [if_pos hc]
                clear hc HG
                go_wp2_with fail
                exact HQ.out _ _ ⟨rfl, HB15.out⟩
              · have hc1 : ¬ (bl.length : Int) < (q : Int) := by omega
                have hc2 : (q : Int) < (bl.length : Int) := by omega
                rw [if_neg (by omega), if_pos hc]
                clear hc HG
                go_wp2_with fail
                exact HQ.out _ _ ⟨rfl, HB15.out⟩
              · have hc1 : ¬ (bl.length : Int) < (q : Int) := by omega
                have hc2 : ¬ (q : Int) < (bl.length : Int) := by omega
                rw [if_neg (by omega), if_neg (by omega)]
                clear hc HG
                go_wp2_with fail
                exact HQ.out _ _ ⟨rfl, HB15.out⟩
            · rw [if_pos (by omega)] at hg
              subst hg
              rcases (show bl.length < q ∨ q < bl.length ∨ q = bl.length by omega) with hc | hc | hc
              · have hc1 : (bl.length : Int) < (q : Int) := by omega
                have hc2 : ¬ (q : Int) < (bl.length : Int) := by omega
                rw [if_pos hc]
                clear hc HG
                go_wp2_with fail
                exact HQ.out _ _ ⟨rfl, HB15.out⟩
              · have hc1 : ¬ (bl.length : Int) < (q : Int) := by omega
                have hc2 : (q : Int) < (bl.length : Int) := by omega
                rw [if_neg (by omega), if_pos hc]
                clear hc HG
                go_wp2_with fail
                exact HQ.out _ _ ⟨rfl, HB15.out⟩
              · have hc1 : ¬ (bl.length : Int) < (q : Int) := by omega
                have hc2 : ¬ (q : Int) < (bl.length : Int) := by omega
                rw [if_neg (by omega), if_neg (by omega)]
                clear hc HG
                go_wp2_with fail
                exact HQ.out _ _ ⟨rfl, HB15.out⟩
    · rw [show wrE ⟨sd, so, i0, i1, i2, i3, i4, bl⟩ = 1 from by rw [wrE, if_neg hr]]
      rw [show wrC ⟨sd, so, i0, i1, i2, i3, i4, bl⟩ = (0, 0, []) from by rw [wrC, if_neg hr]] at hu ⊢
      obtain ⟨Au, cu, rfl, _, _, _⟩ := bs_parts hu
      have HB3 := Lib.hid hb3
      clear hu hb hb3 hx3 hr k0 k1 k2 k3 k4 k5 k6 k7
      go_wp2_with fail
      exact HQ.out _ _ ⟨rfl, HB3.out.alloc HB3.out.size _⟩
end Go.Proofs.Ythgajlmhgbhmlaa
