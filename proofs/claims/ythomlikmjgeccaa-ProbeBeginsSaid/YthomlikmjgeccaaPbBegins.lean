/- The walk of the law ProbeBegins. -/
import Derived.Test.YthomlikmjgeccaaPbAw
import Derived.Test.YthomlikmjgeccaaPbOpen
namespace Go.Proofs.Ythomlikmjgeccaa
open Go.RowKit

theorem begins_many (d : DD) (v1 : Value) (l : List UInt8) (w : World) (hb : BS w v1 l) (hl : 300 < l.length) :
    Calls Try.prog 3 #[d.val, v1] w fun e w' => e = .returned (.bool true) ∧ Below w.heap.size w w' := by
  obtain ⟨A, c, rfl, hc, hcm, hrow⟩ := bs_parts hb
  have ha := below_alloc (w := w) (.cells d.cs 23)
  have HB := Lib.hid ha
  clear hb hrow ha
  obtain ⟨lo, st, pt, pic, wi, ba, ti, sy, ke⟩ := d
  simp only [DD.val, DD.cs] at *
  refine calls_q fun Q HQ => ?_
  go_enter Try.func3, Try.ntmps3
  go_wp2_with fail
  refine (awake6_any _).mono ?_
  rintro e w1 ⟨rfl, hb⟩
  have HB1 := Lib.hid (HB.out.trans (hb.mono HB.out.size))
  clear HB hb
  go_wp2_with fail
  exact HQ.out _ _ ⟨rfl, HB1.out⟩
set_option maxHeartbeats 2000000 in
theorem begins_few (d : DD) (v1 : Value) (l : List UInt8) (w : World) (hb : BS w v1 l) (hl : l.length ≤ 300) :
    Calls Try.prog 3 #[d.val, v1] w fun e w' => e = .returned (.bool true) ∧ Below w.heap.size w w' := by
  obtain ⟨A, c, rfl, hc, hcm, hrow⟩ := bs_parts hb
  have ha := below_alloc (w := w) (.cells d.cs 23)
  have hx := heap_alloc_new w (.cells d.cs 23)
  have HA := Lib.hid (show AwP w w.heap.size w.heap.size d.obj d.obj (.slice A l.length c) l (w.alloc (.cells d.cs 23)) from ⟨hx, hx, hb.below ha, ha⟩)
  clear hb hrow ha hx
  refine calls_q fun Q HQ => ?_
  have PB := Lib.hid (fun w => pbytes_any d w)
  unfold PbBytesPost at PB
  cases hr : rightD d
  · rw [hr] at PB
    simp only [Bool.false_eq_true, false_and, or_false, true_and] at PB
    clear hr
    obtain ⟨lo, st, pt, pic, wi, ba, ti, sy, ke⟩ := d
    simp only [DD.val, DD.cs, DD.obj] at *
    go_enter Try.func3, Try.ntmps3
    go_wp2_with fail
    refine (awake6_any _).mono ?_
    rintro e w1 ⟨rfl, hb⟩
    have HA1 := Lib.hid (HA.out.after hb)
    clear HA hb
    obtain ⟨k0, k1, k2, k3, k4, k5, k6, k7, k8⟩ := nine_cells HA1.out.x1
    go_wp2_with fail
    refine (PB.out _).mono ?_
    rintro e w2 ⟨_, hb, rfl⟩
    have HA2 := Lib.hid (HA1.out.after hb)
    clear HA1 hb k0 k1 k2 k3 k4 k5 k6 k7 k8
    go_wp2_with fail
    exact HQ.out _ _ ⟨rfl, HA2.out.below⟩
  · have hrp := right_p hr
    have HBk := Lib.hid (beg_back hrp)
    have hel := (encD_len (d := d)).2
    rw [hr] at PB
    simp only [Bool.true_eq_false, false_and, false_or, true_and] at PB
    clear hr hrp
    have hnil : begB (encD d) = false := by
      have h := HBk.out []
      rw [List.append_nil] at h
      rw [h]; simp [evenAt]
    have hone := HBk.out l
    clear HBk
    generalize encD d = en at *
    obtain ⟨lo, st, pt, pic, wi, ba, ti, sy, ke⟩ := d
    simp only [DD.val, DD.cs, DD.obj] at *
    have HN := Lib.hid hnil
    have HO := Lib.hid hone
    clear hnil hone
    go_enter Try.func3, Try.ntmps3
    go_wp2_with fail
    refine (awake6_any _).mono ?_
    rintro e w1 ⟨rfl, hb⟩
    have HA1 := Lib.hid (HA.out.after hb)
    clear HA hb
    obtain ⟨k0, k1, k2, k3, k4, k5, k6, k7, k8⟩ := nine_cells HA1.out.x1
    go_wp2_with fail
    refine (PB.out _).mono ?_
    rintro e w2 ⟨v, hb, rfl, hv⟩
    have HA2 := Lib.hid (HA1.out.after hb)
    have HV := Lib.hid hv.1
    clear HA1 hb k0 k1 k2 k3 k4 k5 k6 k7 k8 hv PB
    obtain ⟨k0, k1, k2, k3, k4, k5, k6, k7, k8⟩ := nine_cells HA2.out.x1
    go_upto_region 8 with fail
    generalize hw : (st && decide (pt = 0) && evenAt l 0) = want at *
    go_cut [7] (fun s7 wx => s7 = .bool want ∧ wx = w2)
    case first =>
      cases st
      · go_wp2_with fail
        go_meet
        case rel => exact ⟨by rw [← hw]; rfl, rfl⟩
      · by_cases hz : pt = 0
        · subst hz
          by_cases h0 : 0 < l.length
          · have hrow : Row8 w2 A l := by
              obtain ⟨A1, c1, he, _, _, hr⟩ := HA2.out.u
              simp only [Value.slice.injEq] at he
              rw [he.1]; exact hr
            obtain ⟨b, o, rfl, hbl, hcell⟩ := hrow h0
            have hc0 := hcell 0 h0
            rw [Nat.add_zero] at hc0
            have hev : evenAt l 0 = decide (l[0].toNat % 2 = 0) := by
              unfold evenAt
              simp [h0]
            rw [hev] at hw
            generalize l[0].toNat = x at *
            have hx : ((x : Int) % 2 == 0) = want := by rw [← hw, Bool.eq_iff_iff, beq_iff_eq]; simp; omega
            clear hcell hev hw hbl
            go_wp2_with fail
            go_meet
            case rel => exact ⟨by rfl, rfl⟩
          · have hwf : want = false := by rw [← hw]; unfold evenAt; simp [h0]
            subst hwf
            clear hw
            go_wp2_with fail
            go_meet
            case rel => exact ⟨rfl, rfl⟩
        · have hwf : want = false := by rw [← hw]; simp [hz]
          subst hwf
          clear hw
          go_wp2_with fail
          go_meet
          case rel => exact ⟨rfl, rfl⟩
    case rest =>
      obtain ⟨rfl, rfl⟩ := hcut
      clear k0 k1 k2 k3 k4 k5 k6 k7 k8 hw
      have HB := Lib.hid HA2.out.below
      have HU := Lib.hid HA2.out.u
      clear HA2
      obtain ⟨Av, cv, rfl, hcv, hcvm, hrv⟩ := bs_parts HV.out
      obtain ⟨_, _, hel1, _, _, hrl⟩ := HU.out
      simp only [Value.slice.injEq] at hel1
      obtain ⟨rfl, _, _⟩ := hel1
      have HRv := Lib.hid hrv
      have HRl := Lib.hid hrl
      clear hrv hrl
      go_wp2_with (at_builtin; refine wpl_app rfl _ _ 24 rfl wc.heap.size 5 (.int .u8 0) 1 Try.underlying24 (by kernel_rfl) rfl _ 0 [] rfl (own_empty _ _ _ (Nat.le_refl _)) _ _ _ (c8 en) rfl ?c1 (c8_one _) ?c2 ?c3 ?c4 ?c5)
      case c1 => exact src_of rfl (HRv.out.below (Nat.le_refl _) (below_alloc _))
      case c2 => unfold maxLen; omega
      case c3 => omega
      case c4 => simp
      case c5 =>
        intro v6 w6 hown hg _
        obtain ⟨A6, c6, rfl⟩ := own_slice hown
        have hb56 : Below wc.heap.size wc w6 := ((Below.refl _ _).alloc (Nat.le_refl _) _).grown hg (by simp) (fun k hk => by simp [Value.ownBlock] at hk; omega)
        have HB56 := Lib.hid hb56
        have HO6 := Lib.hid hown
        clear hown hg hb56
        go_wp2_with (at_builtin; refine wpl_app rfl _ _ 24 rfl wc.heap.size 5 (.int .u8 0) 1 Try.underlying24 (by kernel_rfl) rfl _ _ _ rfl HO6.out _ _ _ (c8 l) rfl ?d1 (c8_one _) ?d2 ?d3 ?d4 ?d5)
        case d1 => exact src_of rfl (HRl.out.below (Nat.le_refl _) HB56.out)
        case d2 => unfold maxLen; omega
        case d3 => omega
        case d4 => exact HB56.out.size
        case d5 =>
          intro v7 w7 hown hg _
          rw [← c8_app] at hown
          have hbs := own_bs hown
          have hb57 := HB56.out.grown hg HB56.out.size (fun k hk => (HO6.out.lt k hk).1)
          obtain ⟨A7, c7, rfl⟩ := own_slice hown
          have HB7 := Lib.hid (HB.out.trans (hb57.mono HB.out.size))
          have HV7 := Lib.hid (HV.out.below hb57)
          have HO7 := Lib.hid hbs
          clear hown hg hb57 hbs
          go_wp2_with fail
          have hc := beg_any _ _ _ HO7.out
          rw [HO.out] at hc
          refine hc.mono ?_
          rintro e w8 ⟨rfl, hb⟩
          have HB8 := Lib.hid (HB7.out.trans (hb.mono HB7.out.size))
          have HV8 := Lib.hid (HV7.out.below hb)
          clear hc hb HB7 HV7
          go_wp2_with fail
          have hc := beg_any _ _ _ HV8.out
          rw [HN.out] at hc
          refine hc.mono ?_
          rintro e w9 ⟨rfl, hb⟩
          have HB9 := Lib.hid (HB8.out.trans (hb.mono HB8.out.size))
          clear hc hb
          go_wp2_with fail
          exact HQ.out _ _ ⟨rfl, HB9.out⟩
theorem pbegins_walk (v0 : Value) (d : DD) (v1 : Value) (l : List UInt8) (w : World) (h0 : v0 = d.val) (hb : BS w v1 l) :
    Calls Try.prog 3 #[v0, v1] w fun e w' => e = .returned (.bool true) ∧ Below w.heap.size w w' := by
  subst h0
  by_cases h : l.length ≤ 300
  · exact begins_few d v1 l w hb h
  · exact begins_many d v1 l w hb (by omega)
end Go.Proofs.Ythomlikmjgeccaa
