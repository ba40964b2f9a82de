/- The walk of ExtraBack. -/
import Derived.Test.YtgcppknfigianaaExAw
namespace Go.Proofs.Ytgcppknfigianaa
open Go.RowKit

structure BkS (w0 : World) (v : Value) (ts : List It) (u : Value) (us : List It) (x : Value) (X : List UInt8) (y : Value) (Y : List UInt8) (w : World) : Prop where
  v : ItS w v ts
  u : ItS w u us
  x : BS w x X
  y : BS w y Y
  below : Below w0.heap.size w0 w
theorem BkS.after {w0 w w' : World} {v u x y : Value} {ts us : List It} {X Y : List UInt8} (h : BkS w0 v ts u us x X y Y w) (hb : Below w.heap.size w w') : BkS w0 v ts u us x X y Y w' :=
  ⟨h.v.below hb, h.u.below hb, h.x.below hb, h.y.below hb, h.below.trans (hb.mono h.below.size)⟩
theorem ex_cases (l : List DI) : (exE l ≠ 0 ∧ byV l = []) ∨ (exE l = 0 ∧ byV l = exB l ∧ l.all rightI = true ∧ (encs l).length ≤ 200) := by
  by_cases h : l.all rightI = true
  · by_cases h2 : (encs l).length ≤ 200
    · exact .inr ⟨(ex_ok h h2).1, (ex_ok h h2).2, h, h2⟩
    · have := ex_long h (by omega)
      exact .inl ⟨by rw [this.1]; decide, this.2⟩
  · have := ex_not (by simpa using h)
    exact .inl ⟨by rw [this.1]; decide, this.2⟩
theorem ilarge_is {r : Bool} (v : Value) (ts : List It) (w : World) (h : ItS w v ts) (hr : fewI ts = !r) :
    Calls Try.prog 5 #[v] w fun e w' => e = .returned (.bool r) ∧ Below w.heap.size w w' := by
  have := ilarge_any v ts w h
  rw [hr, Bool.not_not] at this
  exact this
theorem isame_is {r : Bool} (v u : Value) (ts us : List It) (w : World) (hv : ItS w v ts) (hu : ItS w u us) (hr : decide (ts.map It.d = us.map It.d) = r) :
    Calls Try.prog 8 #[v, u] w fun e w' => e = .returned (.bool r) ∧ Below w.heap.size w w' := by
  subst hr; exact isame_any v u ts us w hv hu
set_option maxHeartbeats 4000000 in
theorem eback_walk (v u : Value) (ts us : List It) (w : World) (hv : ItS w v ts) (hu : ItS w u us) :
    Calls Try.prog 3 #[v, u] w fun r w' => r = .returned (.bool true) ∧ Below w.heap.size w w' := by
  have HV := Lib.hid hv
  have HU := Lib.hid hu
  obtain ⟨A, c, rfl, _, _, _⟩ := hv.parts
  obtain ⟨A2, c2, rfl, _, _, _⟩ := hu.parts
  clear hv hu
  refine calls_q fun Q HQ => ?_
  go_enter Try.func3, Try.ntmps3
  go_wp2_with fail
  refine (awake5_any _).mono ?_
  rintro r w1 ⟨rfl, hb⟩
  have HB1 := Lib.hid hb
  clear hb
  go_wp2_with fail
  by_cases hf1 : fewI ts = true
  · refine (ilarge_is (r := false) _ ts _ (HV.out.below HB1.out) hf1).mono ?_
    rintro r w2 ⟨rfl, hb⟩
    have HB2 := Lib.hid (HB1.out.trans (hb.mono HB1.out.size))
    have HF1 := Lib.hid (few_iff.1 hf1)
    clear hb hf1
    go_wp2_with fail
    by_cases hf2 : fewI us = true
    · refine (ilarge_is (r := false) _ us _ (HU.out.below HB2.out) hf2).mono ?_
      rintro r w3 ⟨rfl, hb⟩
      have HB3 := Lib.hid (HB2.out.trans (hb.mono HB2.out.size))
      have HF2 := Lib.hid (few_iff.1 hf2)
      clear hb hf2
      go_wp2_with fail
      refine (ibytes_any _ ts _ (HV.out.below HB3.out) HF1.out.1).mono ?_
      rintro r w4 ⟨x, rfl, hx, hb⟩
      have HB4 := Lib.hid (HB3.out.trans (hb.mono HB3.out.size))
      have HX4 := Lib.hid hx
      obtain ⟨Ax, cx, rfl, _, _, _⟩ := bs_parts hx
      clear hb hx
      generalize hE1 : exE (ds ts) = e1 at *
      generalize hX1 : byV (ds ts) = X at *
      have HE1 := Lib.hid hE1
      have HX1 := Lib.hid hX1
      clear hE1 hX1
      go_wp2_with fail
      refine (ibytes_any _ us _ (HU.out.below HB4.out) HF2.out.1).mono ?_
      rintro r w5 ⟨y, rfl, hy, hb⟩
      generalize hE2 : exE (ds us) = e2 at *
      generalize hY1 : byV (ds us) = Y at *
      have HS := Lib.hid (show BkS w _ ts _ us _ X y Y w5 from ⟨HV.out.below (HB4.out.trans (hb.mono HB4.out.size)), HU.out.below (HB4.out.trans (hb.mono HB4.out.size)), HX4.out.below hb, hy, HB4.out.trans (hb.mono HB4.out.size)⟩)
      obtain ⟨Ay, cy, rfl, _, _, _⟩ := bs_parts hy
      have HE2 := Lib.hid hE2
      have HY1 := Lib.hid hY1
      clear hb hy HX4 HB4 hE2 hY1
      rcases ex_cases (ds ts) with ⟨q1, q2⟩ | ⟨q1, q2, q3, q4⟩
      · rw [HE1.out] at q1
        rw [HX1.out] at q2
        have hne : (e1 != 0) = true := by simp [q1]
        subst q2
        clear q1
        simp only [List.length_nil]
        go_wp2_with fail
        exact HQ.out _ _ ⟨rfl, HS.out.below⟩
      · rw [HE1.out] at q1
        rw [HX1.out] at q2
        subst q1
        have HRt := Lib.hid q3
        have h4 := exB_len4 (ds ts)
        have hle := exB_le _ q4
        rw [← q2] at h4 hle
        have HXe := Lib.hid q2
        have hx0 : BS w5 (.slice Ax X.length cx) (exB (ds ts)) := by rw [← q2]; exact HS.out.x
        rw [exB] at hx0
        have HX0 := Lib.hid hx0
        have HLe := Lib.hid (exB_le _ q4)
        have h4i : ((X.length : Int) % 4 == 0) = true := by simp; omega
        have hlei : (X.length : Int) ≤ 200 := by omega
        clear q2 q3 q4 hx0 h4 hle
        go_wp2_with fail
        refine (iread_any _ (ds ts) _ _ HX0.out HRt.out HLe.out).mono ?_
        rintro r w6 ⟨k, tk, rfl, hk, hds, hb⟩
        have HS6 := Lib.hid (HS.out.after hb)
        have HK6 := Lib.hid hk
        have HDk := Lib.hid hds
        clear hb hk hds HS HX0
        go_wp2_with fail
        have hlk : tk.length ≤ 40 := by have h := congrArg List.length HDk.out; rw [ds_len, ds_len] at h; rw [h]; exact HF1.out.1
        refine (iown_any _ tk _ HK6.out hlk).mono ?_
        rintro r w7 ⟨ok, rfl, ho, hb⟩
        have HS7 := Lib.hid (HS6.out.after hb)
        have HOk := Lib.hid ho
        clear ho hb HS6 HK6 hlk
        go_wp2_with fail
        refine (iown_any _ ts _ HS7.out.v HF1.out.1).mono ?_
        rintro r w8 ⟨ol, rfl, ho, hb⟩
        have HS8 := Lib.hid (HS7.out.after hb)
        have HOk8 := Lib.hid (HOk.out.below hb)
        have HOl := Lib.hid ho
        clear ho hb HS7 HOk
        go_wp2_with fail
        refine (isame_is (r := true) _ _ tk ts _ HOk8.out HOl.out (decide_eq_true HDk.out)).mono ?_
        rintro r w9 ⟨rfl, hb⟩
        have HS9 := Lib.hid (HS8.out.after hb)
        clear hb HS8 HOk8 HOl
        rcases ex_cases (ds us) with ⟨p1, p2⟩ | ⟨p1, p2, p3, p4⟩
        · rw [HE2.out] at p1
          have hne : (e2 != 0) = true := by simp [p1]
          clear p1 p2
          go_wp2_with fail
          exact HQ.out _ _ ⟨rfl, HS9.out.below⟩
        · rw [HE2.out] at p1
          rw [HY1.out] at p2
          subst p1
          have HI := Lib.hid (exB_inj (ds ts) (ds us) HRt.out p3)
          have HYe := Lib.hid p2
          clear p2 p3 p4
          by_cases hd : ds ts = ds us
          · have HEq := Lib.hid (show (X == Y) = true by rw [HXe.out, HYe.out, HI.out]; exact decide_eq_true hd)
            have HDe := Lib.hid (show decide (ts.map It.d = us.map It.d) = true from decide_eq_true hd)
            clear hd
            go_wp2_with fail
            refine (rsame_is (r := true) _ _ X Y _ HS9.out.x HS9.out.y HEq.out).mono ?_
            rintro r w10 ⟨rfl, hb⟩
            have HS10 := Lib.hid (HS9.out.after hb)
            clear hb HS9
            go_wp2_with fail
            refine (iown_any _ ts _ HS10.out.v HF1.out.1).mono ?_
            rintro r w11 ⟨o1, rfl, ho, hb⟩
            have HS11 := Lib.hid (HS10.out.after hb)
            have HO1 := Lib.hid ho
            clear ho hb HS10
            go_wp2_with fail
            refine (iown_any _ us _ HS11.out.u HF2.out.1).mono ?_
            rintro r w12 ⟨o2, rfl, ho, hb⟩
            have HS12 := Lib.hid (HS11.out.after hb)
            have HO2 := Lib.hid (HO1.out.below hb)
            have HO3 := Lib.hid ho
            clear ho hb HS11 HO1
            go_wp2_with fail
            refine (isame_is (r := true) _ _ ts us _ HO2.out HO3.out HDe.out).mono ?_
            rintro r w13 ⟨rfl, hb⟩
            have HS13 := Lib.hid (HS12.out.after hb)
            clear hb HS12
            go_wp2_with fail
            exact HQ.out _ _ ⟨rfl, HS13.out.below⟩
          · have HEq := Lib.hid (show (X == Y) = false by rw [HXe.out, HYe.out, HI.out]; exact decide_eq_false hd)
            have HDe := Lib.hid (show decide (ts.map It.d = us.map It.d) = false from decide_eq_false hd)
            clear hd
            go_wp2_with fail
            refine (rsame_is (r := false) _ _ X Y _ HS9.out.x HS9.out.y HEq.out).mono ?_
            rintro r w10 ⟨rfl, hb⟩
            have HS10 := Lib.hid (HS9.out.after hb)
            clear hb HS9
            go_wp2_with fail
            refine (iown_any _ ts _ HS10.out.v HF1.out.1).mono ?_
            rintro r w11 ⟨o1, rfl, ho, hb⟩
            have HS11 := Lib.hid (HS10.out.after hb)
            have HO1 := Lib.hid ho
            clear ho hb HS10
            go_wp2_with fail
            refine (iown_any _ us _ HS11.out.u HF2.out.1).mono ?_
            rintro r w12 ⟨o2, rfl, ho, hb⟩
            have HS12 := Lib.hid (HS11.out.after hb)
            have HO2 := Lib.hid (HO1.out.below hb)
            have HO3 := Lib.hid ho
            clear ho hb HS11 HO1
            go_wp2_with fail
            refine (isame_is (r := false) _ _ ts us _ HO2.out HO3.out HDe.out).mono ?_
            rintro r w13 ⟨rfl, hb⟩
            have HS13 := Lib.hid (HS12.out.after hb)
            clear hb HS12
            go_wp2_with fail
            exact HQ.out _ _ ⟨rfl, HS13.out.below⟩
    · refine (ilarge_is (r := true) _ us _ (HU.out.below HB2.out) (by simpa using hf2)).mono ?_
      rintro r w3 ⟨rfl, hb⟩
      have HB3 := Lib.hid (HB2.out.trans (hb.mono HB2.out.size))
      clear hb hf2
      go_wp2_with fail
      exact HQ.out _ _ ⟨rfl, HB3.out⟩
  · refine (ilarge_is (r := true) _ ts _ (HV.out.below HB1.out) (by simpa using hf1)).mono ?_
    rintro r w2 ⟨rfl, hb⟩
    have HB2 := Lib.hid (HB1.out.trans (hb.mono HB1.out.size))
    clear hb hf1
    go_wp2_with fail
    exact HQ.out _ _ ⟨rfl, HB2.out⟩
end Go.Proofs.Ytgcppknfigianaa
