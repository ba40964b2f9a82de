/- The walk of SeenKnows. -/
import Derived.Test.YteoegmfhfejdkaaSnA
import Derived.Test.YteoegmfhfejdkaaSnK
import Derived.Test.YteoegmfhfejdkaaVal
namespace Go.Proofs.Yteoegmfhfejdkaa
open Go.RowKit
theorem Bw.set {w w' : World} {t : TypeId} {k : Nat} {h : Int} {b : Nat} (S : Bw w t k h b w') (hk : w.heap.size ≤ k) (h' : Int) (b' : Nat) (wf : World)
    (he : (w'.setCell ⟨k, 0, none⟩ (.int .i64 h')).setCell ⟨k, 1, none⟩ (.int .u64 (b' : Nat)) = wf) : Bw w t k h' b' wf := by
  obtain ⟨hx, hf⟩ := sn2 S.obj h' b' wf he
  exact ⟨S.bel.trans (hf.below S.bel.size (fun x (hx : x = k) => by omega)), hx⟩
theorem mem_take {zs : List Int} {j : Nat} (hj : j < zs.length) : zs.take (j + 1) = zs.take j ++ [zs[j]] := List.take_succ_eq_append_getElem hj
set_option maxRecDepth 20000 in
set_option maxHeartbeats 4000000 in
theorem knows_walk (v0 : Value) (zs : List Int) (n : Int) (w : World) (h0 : SV w v0 (ints .i64 zs)) :
    Calls Try.prog 4 #[v0, .int .i64 n] w fun e w' => e = .returned (.bool true) ∧ Below w.heap.size w w' := by
  obtain ⟨A, c, rfl, hlc, hcm, hrow⟩ := h0
  rw [ints_len] at *
  unfold maxLen at hcm
  refine calls_q fun Q HQ => ?_
  by_cases hc : 1 ≤ zs.length ∧ zs.length ≤ 100 ∧ -2305843009213693952 ≤ n ∧ n ≤ 2305843009213693952
  · obtain ⟨l1, l2, n1, n2⟩ := hc
    have hn : Nr n := ⟨n1, n2⟩
    obtain ⟨b, o, rfl, hbl, hcell⟩ := hrow (by rw [ints_len]; omega)
    have hcs : ∀ wr, Below w.heap.size w wr → ∀ j m, zs[j]? = some m → wr.cell? ⟨b, o + j, none⟩ = some (.int .i64 m) := fun wr hwr j m h => by
      obtain ⟨hj, rfl⟩ := List.getElem?_eq_some_iff.1 h
      have := hcell j (by rw [ints_len]; exact hj)
      rw [hwr.cell (p := ⟨b, o + j, none⟩) hbl, this]
      simp [ints]
    have HC := Lib.hid hcs
    clear hcs hcell hrow
    obtain ⟨z0, hz0⟩ : ∃ z, zs[0]? = some z := ⟨_, List.getElem?_eq_getElem (by omega)⟩
    have HZ0 := Lib.hid hz0
    have HLt := Lib.hid (show ∀ j, j < zs.length → ∃ m, zs[j]? = some m from fun j hj => ⟨_, List.getElem?_eq_getElem hj⟩)
    clear hz0
    generalize hL : zs.length = L at *
    have HL := Lib.hid hL
    clear hL
    go_enter Try.func4, Try.ntmps4
    go_wp2_with fail
    refine (awake11_any w).mono ?_
    rintro e w1 ⟨rfl, hb1⟩
    have HW := Lib.hid (show Bw w 24 w1.heap.size 0 0 (w1.alloc (snO 24 0 0)) from ⟨hb1.trans ((below_alloc _).mono hb1.size), sn_new w1 _ _ _⟩)
    have hbs := Lib.hid hb1.size
    clear hb1
    go_upto_if 34 with fail
    go_cut [] (fun wx => wx = w1)
    case first =>
      go_wp2_with fail
      · exfalso
        have h := ‹(((_ : Prop) ∨ _) ∨ _) ∨ _›
        simp at h
        omega
      · go_meet
        case rel => rfl
    case rest =>
    have hcut := hcut.symm
    subst hcut
    go_upto_region 6 with fail
    generalize hwa : World.alloc _ _ = wa
    have HW : Hid (Bw w 24 w1.heap.size 0 0 wa) := hwa ▸ HW
    clear hwa
    generalize w1.heap.size = bx at *
    have h00 := HC.out wa HW.out.bel 0 z0 HZ0.out
    rw [Nat.add_zero] at h00
    go_wp2_with fail
    clear h00
    go_loopw [6, 41] (fun t i wr => ∃ (j : Nat) (H Hw : Int) (B : Nat), j ≤ L ∧ i = .int .i64 j ∧ t = .int .i64 H ∧ Bw w 24 bx Hw B wr ∧ ((j = 0 ∧ H = z0 ∧ Hw = 0 ∧ B = 0) ∨ (0 < j ∧ Hw = H ∧ Wk (zs.take j) H B))) (fun _ i _ => L - (intOf i).toNat)
    case atStart => exact ⟨0, z0, 0, 0, Nat.zero_le _, rfl, rfl, HW.out, Or.inl ⟨rfl, rfl, rfl, rfl⟩⟩
    case round =>
      obtain ⟨j, H, Hw, B, hj, rfl, rfl, hbw, hcase⟩ := hrel
      by_cases hlt : j < L
      · obtain ⟨m, hm⟩ := HLt.out j hlt
        have hcm := HC.out wr hbw.bel j m hm
        have HM := Lib.hid hm
        have HB := Lib.hid hbw
        clear hm hbw
        by_cases hr : -2305843009213693952 ≤ m ∧ m ≤ 2305843009213693952
        · obtain ⟨r1, r2⟩ := hr
          have hmr : Nr m := ⟨r1, r2⟩
          rcases hcase with ⟨rfl, rfl, rfl, rfl⟩ | ⟨hj0, rfl, hwk⟩
          · obtain rfl : m = H := by have h1 := HM.out; have h2 := HZ0.out; rw [h1] at h2; simpa using h2
            rw [Nat.add_zero] at hcm
            have ht1 : zs.take (0 + 1) = [m] := by have h := HLt.out 0 hlt; have h2 := HM.out; cases zs with | nil => simp at h2 | cons a t => simp at h2; subst h2; simp
            have HT := Lib.hid ht1
            clear ht1
            go_wp2_with fail
            refine (sfirst_any m _).mono ?_
            rintro e w2 ⟨rfl, hb2⟩
            have HB2 := Lib.hid (HB.out.after hb2)
            clear hb2
            obtain ⟨q0, q1, y0, y1⟩ := snc HB2.out.obj
            unfold snV
            go_wp2_with fail
            go_roundw
            case rel => exact ⟨0 + 1, m, m, 1, by omega, by go_num, by simp, HB2.out.set hbs.out m 1 _ rfl, Or.inr ⟨by omega, rfl, by rw [HT.out]; exact Wk.one hmr⟩⟩
            case measure => simp [intOf]; omega
          · have hwk2 := hwk.mark hmr
            have htk : zs.take (j + 1) = zs.take j ++ [m] := by
              obtain ⟨hj1, rfl⟩ := List.getElem?_eq_some_iff.1 HM.out
              exact mem_take hj1
            rw [← htk] at hwk2
            have hHr := hwk.rng _ hwk.mem
            have hma := smark_any Hw m B
            have HWk := Lib.hid hwk2
            have HMa := Lib.hid (fun w => hma w hHr hmr hwk.lt)
            clear hwk2 hma htk hwk
            obtain ⟨q0, q1, y0, y1⟩ := snc HB.out.obj
            by_cases hmx : m ≤ Hw
            · rw [Int.max_eq_left hmx] at HWk HMa
              generalize markB Hw B m = B2 at *
              unfold snV at HMa
              go_wp2_with fail
              refine (HMa.out _).mono ?_
              rintro e w2 ⟨rfl, hb2⟩
              have HB2 := Lib.hid (HB.out.after hb2)
              clear hb2 q0 q1 y0 y1
              obtain ⟨q0, q1, y0, y1⟩ := snc HB2.out.obj
              go_wp2_with fail
              go_roundw
              case rel => exact ⟨j + 1, Hw, Hw, B2, by omega, by go_num, by simp, HB2.out.set hbs.out Hw B2 _ rfl, Or.inr ⟨by omega, rfl, HWk.out⟩⟩
              case measure => simp [intOf]; omega
            · rw [Int.max_eq_right (by omega)] at HWk HMa
              generalize markB Hw B m = B2 at *
              unfold snV at HMa
              go_wp2_with fail
              refine (HMa.out _).mono ?_
              rintro e w2 ⟨rfl, hb2⟩
              have HB2 := Lib.hid (HB.out.after hb2)
              clear hb2 q0 q1 y0 y1
              obtain ⟨q0, q1, y0, y1⟩ := snc HB2.out.obj
              go_wp2_with fail
              go_roundw
              case rel => exact ⟨j + 1, m, m, B2, by omega, by go_num, by simp, HB2.out.set hbs.out m B2 _ rfl, Or.inr ⟨by omega, rfl, HWk.out⟩⟩
              case measure => simp [intOf]; omega
        · clear hcase
          go_wp2_with fail
          all_goals first | exact HQ.out _ _ ⟨rfl, HB.out.bel⟩ | (exfalso; omega)
      · obtain rfl : L = j := by omega
        rcases hcase with ⟨rfl, _⟩ | ⟨_, rfl, hwk⟩
        · exfalso; omega
        have htl : zs.take L = zs := by rw [← HL.out]; exact List.take_length
        rw [htl] at hwk
        have HWk := Lib.hid hwk
        have HB := Lib.hid hbw
        have HTl := Lib.hid htl
        have hHr := hwk.rng _ hwk.mem
        have hw64 : wrap64 (Hw - 64) = Hw - 64 := by have := hHr.lo; have := hHr.hi; unfold wrap64; omega
        clear htl hwk hbw HW HZ0 hj hlt
        go_wp2_with fail
        go_loopw [9, 10, 65] (fun cm mn i wr => ∃ j : Nat, j ≤ L ∧ i = .int .i64 j ∧ cm = .bool (decide (Hw - n < 64) && decide (n ∈ zs.take j)) ∧ mn = .int .i64 (cntK (zs.take j) Hw : Nat) ∧ Bw w 24 bx Hw B wr) (fun _ _ i _ => L - (intOf i).toNat)
        case atStart => exact ⟨0, Nat.zero_le _, rfl, by simp, by rw [List.take_zero, cntK_nil]; rfl, HB.out⟩
        case round =>
          obtain ⟨j, hj, rfl, rfl, rfl, hbw⟩ := hrel
          by_cases hlt : j < L
          · obtain ⟨m, hm⟩ := HLt.out j hlt
            have hcm := HC.out _ hbw.bel j m hm
            have hmz : m ∈ zs := List.mem_of_getElem? hm
            have htk : zs.take (j + 1) = zs.take j ++ [m] := by
              obtain ⟨hj1, rfl⟩ := List.getElem?_eq_some_iff.1 hm
              exact mem_take hj1
            have hmt := HWk.out.top m hmz
            have hmr := HWk.out.rng m hmz
            have hhas := fun w => shas_any Hw m B w hHr hmr HWk.out.lt
            rw [HWk.out.know, decide_eq_true hmz, Bool.and_true, show decide (Hw - m < 64) = decide (Hw - 64 < m) by rw [Bool.eq_iff_iff]; simp; omega] at hhas
            have hr2 := came_snoc (l := zs.take j) (H := Hw) (n := n) (m := m)
            have hc1 := cntK_snoc (l := zs.take j) (H := Hw) (m := m) hmt
            rw [← htk] at hr2 hc1
            have hle := cntK_le (zs.take j) Hw
            generalize (decide (Hw - n < 64) && decide (n ∈ zs.take j)) = r at *
            generalize hR2 : (decide (Hw - n < 64) && decide (n ∈ zs.take (j + 1))) = r2 at *
            generalize hC2 : cntK (zs.take (j + 1)) Hw = c2 at *
            generalize cntK (zs.take j) Hw = c1 at *
            have HR2 := Lib.hid hR2
            have HC2 := Lib.hid hC2
            have HR := Lib.hid hr2
            have HN := Lib.hid hc1
            have HHas := Lib.hid hhas
            have HM := Lib.hid hm
            have HB := Lib.hid hbw
            clear hR2 hC2 hr2 hc1 hhas hm hbw hmz htk hmt
            have j0 : (0 : Int) ≤ (j : Nat) := by omega
            have jc : ((j : Nat) : Int) ≤ (c : Nat) := by omega
            unfold snV at HHas
            go_wp2_with fail
            go_loop [13, 74] (fun ag i => ∃ j2 : Nat, j2 ≤ j ∧ i = .int .i64 j2 ∧ ag = .bool (decide (m ∈ zs.take j2))) (fun _ i => j - (intOf i).toNat)
            case atStart => exact ⟨0, Nat.zero_le _, rfl, by simp⟩
            case round =>
              obtain ⟨j2, hj2, rfl, rfl⟩ := hrel
              by_cases hlt2 : j2 < j
              · obtain ⟨k, hk⟩ := HLt.out j2 (by omega)
                have hck := HC.out _ HB.out.bel j2 k hk
                have hm2 : decide (m ∈ zs.take (j2 + 1)) = (decide (m ∈ zs.take j2) || decide (k = m)) := by
                  obtain ⟨hj1, rfl⟩ := List.getElem?_eq_some_iff.1 hk
                  rw [mem_take hj1, mem_snoc]
                generalize hg : decide (m ∈ zs.take (j2 + 1)) = g2 at *
                generalize decide (m ∈ zs.take j2) = g at *
                have HG := Lib.hid hg
                have HM2 := Lib.hid hm2
                clear hg hm2 hk
                have HEq := Lib.hid (show (decide (k = m)) = (k == m) by rw [Bool.eq_iff_iff]; simp)
                cases g
                · go_wp2_with fail
                  go_round
                  case rel => exact ⟨j2 + 1, by omega, by go_num, by rw [HG.out, HM2.out, HEq.out]; rfl⟩
                  case measure => simp [intOf]; omega
                · go_wp2_with fail
                  go_round
                  case rel => exact ⟨j2 + 1, by omega, by go_num, by rw [HG.out, HM2.out]; rfl⟩
                  case measure => simp [intOf]; omega
              · obtain rfl : j = j2 := by omega
                generalize hG : decide (m ∈ zs.take j) = g at *
                have hn1 : (if Hw - 64 < m ∧ ¬ m ∈ zs.take j then 1 else 0) = (if Hw - 64 < m ∧ g = false then 1 else 0) := by
                  rw [← hG]; simp
                have HN2 := HN.out
                rw [hn1] at HN2
                clear hG hn1 HN
                obtain ⟨q0, q1, _, _⟩ := snc HB.out.obj
                by_cases hnear : Hw - 64 < m
                · rw [decide_eq_true hnear] at HHas HR
                  rw [Bool.and_true] at HR
                  go_wp2_with fail
                  refine (HHas.out _).mono ?_
                  rintro e w2 ⟨rfl, hb2⟩
                  have HB2 := Lib.hid (HB.out.after hb2)
                  clear hb2 q0 q1
                  have hcw : wrap64 ((c1 : Int) + 1) = ((c1 + 1 : Nat) : Int) := by unfold wrap64; omega
                  have HCW := Lib.hid hcw
                  have hjL := Lib.hid hlt
                  clear hcw HC HLt HL hcm HM HB HHas hbs HWk HTl
                  cases g
                  · rw [if_pos ⟨hnear, rfl⟩] at HN2
                    have HN2 := Lib.hid HN2
                    by_cases hmn : m = n
                    · rw [decide_eq_true hmn, Bool.or_true] at HR
                      cases r
                      · go_wp2_with fail
                        go_roundw
                        case rel => exact ⟨j + 1, by omega, by go_num, by rw [HR2.out, HR.out], by rw [HC2.out, HN2.out]; first | rfl | simp, HB2.out⟩
                        case measure => simp [intOf]; omega
                      · go_wp2_with fail
                        go_roundw
                        case rel => exact ⟨j + 1, by omega, by go_num, by rw [HR2.out, HR.out], by rw [HC2.out, HN2.out]; first | rfl | simp, HB2.out⟩
                        case measure => simp [intOf]; omega
                    · rw [decide_eq_false hmn, Bool.or_false] at HR
                      cases r
                      · go_wp2_with fail
                        go_roundw
                        case rel => exact ⟨j + 1, by omega, by go_num, by rw [HR2.out, HR.out], by rw [HC2.out, HN2.out]; first | rfl | simp, HB2.out⟩
                        case measure => simp [intOf]; omega
                      · go_wp2_with fail
                        go_roundw
                        case rel => exact ⟨j + 1, by omega, by go_num, by rw [HR2.out, HR.out], by rw [HC2.out, HN2.out]; first | rfl | simp, HB2.out⟩
                        case measure => simp [intOf]; omega
                  · rw [if_neg (by simp)] at HN2
                    have HN2 := Lib.hid HN2
                    by_cases hmn : m = n
                    · rw [decide_eq_true hmn, Bool.or_true] at HR
                      cases r
                      · go_wp2_with fail
                        go_roundw
                        case rel => exact ⟨j + 1, by omega, by go_num, by rw [HR2.out, HR.out], by rw [HC2.out, HN2.out]; first | rfl | simp, HB2.out⟩
                        case measure => simp [intOf]; omega
                      · go_wp2_with fail
                        go_roundw
                        case rel => exact ⟨j + 1, by omega, by go_num, by rw [HR2.out, HR.out], by rw [HC2.out, HN2.out]; first | rfl | simp, HB2.out⟩
                        case measure => simp [intOf]; omega
                    · rw [decide_eq_false hmn, Bool.or_false] at HR
                      cases r
                      · go_wp2_with fail
                        go_roundw
                        case rel => exact ⟨j + 1, by omega, by go_num, by rw [HR2.out, HR.out], by rw [HC2.out, HN2.out]; first | rfl | simp, HB2.out⟩
                        case measure => simp [intOf]; omega
                      · go_wp2_with fail
                        go_roundw
                        case rel => exact ⟨j + 1, by omega, by go_num, by rw [HR2.out, HR.out], by rw [HC2.out, HN2.out]; first | rfl | simp, HB2.out⟩
                        case measure => simp [intOf]; omega
                · rw [decide_eq_false hnear] at HHas HR
                  rw [Bool.and_false, Bool.or_false] at HR
                  go_wp2_with fail
                  refine (HHas.out _).mono ?_
                  rintro e w2 ⟨rfl, hb2⟩
                  have HB2 := Lib.hid (HB.out.after hb2)
                  clear hb2 q0 q1
                  rw [if_neg (fun h => by have := h.1; omega)] at HN2
                  have HN2 := Lib.hid HN2
                  clear HC HLt HL hcm HM HB HHas hbs HWk HTl
                  by_cases hmn : m = n
                  · cases r
                    · go_wp2_with fail
                      go_roundw
                      case rel => exact ⟨j + 1, by omega, by go_num, by rw [HR2.out, HR.out], by rw [HC2.out, HN2.out]; first | rfl | simp, HB2.out⟩
                      case measure => simp [intOf]; omega
                    · go_wp2_with fail
                      go_roundw
                      case rel => exact ⟨j + 1, by omega, by go_num, by rw [HR2.out, HR.out], by rw [HC2.out, HN2.out]; first | rfl | simp, HB2.out⟩
                      case measure => simp [intOf]; omega
                  · cases r
                    · go_wp2_with fail
                      go_roundw
                      case rel => exact ⟨j + 1, by omega, by go_num, by rw [HR2.out, HR.out], by rw [HC2.out, HN2.out]; first | rfl | simp, HB2.out⟩
                      case measure => simp [intOf]; omega
                    · go_wp2_with fail
                      go_roundw
                      case rel => exact ⟨j + 1, by omega, by go_num, by rw [HR2.out, HR.out], by rw [HC2.out, HN2.out]; first | rfl | simp, HB2.out⟩
                      case measure => simp [intOf]; omega
          · obtain rfl : L = j := by omega
            have hhas := fun w => shas_any Hw n B w hHr hn HWk.out.lt
            have hmany := fun w => smany_any Hw B w HWk.out.lt
            have hodd := HWk.out.odd
            rw [HWk.out.know, ← HTl.out] at hhas
            rw [HWk.out.many, ← HTl.out] at hmany
            generalize (decide (Hw - n < 64) && decide (n ∈ zs.take L)) = r at *
            generalize cntK (zs.take L) Hw = c1 at *
            have HHas := Lib.hid hhas
            have HMany := Lib.hid hmany
            have HB := Lib.hid hbw
            clear hhas hmany hbw HC HLt HL HWk HTl hbs
            obtain ⟨q0, q1, _, _⟩ := snc HB.out.obj
            unfold snV at HHas HMany
            have hodd2 : (B : Int) % 2 = 1 := by omega
            go_wp2_with fail
            refine (HHas.out _).mono ?_
            rintro e w2 ⟨rfl, hb2⟩
            have HB2 := Lib.hid (HB.out.after hb2)
            clear hb2 q0 q1
            obtain ⟨q0, q1, _, _⟩ := snc HB2.out.obj
            go_wp2_with fail
            refine (HMany.out _).mono ?_
            rintro e w3 ⟨rfl, hb3⟩
            have HB3 := Lib.hid (HB2.out.after hb3)
            clear hb3 q0 q1
            go_wp2_with fail
            exact HQ.out _ _ ⟨rfl, HB3.out.bel⟩
  · generalize zs.length = L at *
    go_enter Try.func4, Try.ntmps4
    go_wp2_with fail
    refine (awake11_any w).mono ?_
    rintro e w1 ⟨rfl, hb1⟩
    have HB := Lib.hid hb1
    clear hb1
    go_upto_region 5 with fail
    all_goals first
      | exact HQ.out _ _ ⟨rfl, HB.out⟩
      | (exfalso; have h := ‹(((_ : Prop) ∧ _) ∧ _) ∧ _›; simp at h; omega)
end Go.Proofs.Yteoegmfhfejdkaa
