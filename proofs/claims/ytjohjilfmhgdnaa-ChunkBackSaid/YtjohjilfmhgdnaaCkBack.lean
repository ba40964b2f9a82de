/- The walk of ChunkBack. -/
import Derived.Test.YtjohjilfmhgdnaaCkAw
namespace Go.Proofs.Ytjohjilfmhgdnaa
open Go.RowKit

structure BkS (w0 : World) (v : Value) (ts : List Ck) (u : Value) (us : List Ck) (x : Value) (X : List UInt8) (y : Value) (Y : List UInt8) (w : World) : Prop where
  v : CkS w v ts
  u : CkS w u us
  x : BS w x X
  y : BS w y Y
  below : Below w0.heap.size w0 w
theorem BkS.after {w0 w w' : World} {v u x y : Value} {ts us : List Ck} {X Y : List UInt8} (h : BkS w0 v ts u us x X y Y w) (hb : Below w.heap.size w w') : BkS w0 v ts u us x X y Y w' :=
  ⟨h.v.below hb, h.u.below hb, h.x.below hb, h.y.below hb, h.below.trans (hb.mono h.below.size)⟩
/-- what comes back out of bytes that were split -/
theorem back_bytes {b : List UInt8} {es : List DC} (h : SpR b 0 es) : joE es = 0 ∧ joB es = encs es ∧ (encs es).length ≤ b.length ∧ ((encs es).length = b.length → (encs es == b) = true) ∧ es.length ≤ 1000 ∧ ∀ d ∈ es, d.2.2.length ≤ 1000 := by
  obtain ⟨f1, _, f2, f3, f4⟩ := h.fine rfl
  obtain ⟨j1, j2⟩ := jo_ok f1 (by omega)
  refine ⟨j1, j2, f3, fun hx => by rw [f4 hx]; simp, by have := encs_ge es; omega, fun d hd => ?_⟩
  have := right_iffC.1 (List.all_eq_true.1 f1 d hd)
  omega
theorem body_le {ts : List Ck} (h : ∀ d ∈ ds ts, d.2.2.length ≤ 1000) : ∀ t ∈ ts, t.b.length ≤ 1000 := fun t ht => h t.d (List.mem_map.2 ⟨t, ht, rfl⟩)
set_option maxRecDepth 20000 in
set_option maxHeartbeats 4000000 in
theorem cback_walk (v u bv : Value) (ts us : List Ck) (b : List UInt8) (w : World) (hv : CkS w v ts) (hu : CkS w u us) (hb : BS w bv b) :
    Calls Try.prog 3 #[v, u, bv] w fun r w' => r = .returned (.bool true) ∧ Below w.heap.size w w' := by
  have HV := Lib.hid hv
  have HU := Lib.hid hu
  have HBv := Lib.hid hb
  obtain ⟨A, c, rfl, -⟩ := hv.parts
  obtain ⟨A2, c2, rfl, -⟩ := hu.parts
  obtain ⟨A3, c3, rfl, -⟩ := bs_parts hb
  clear hv hu hb
  refine calls_q fun Q HQ => ?_
  go_enter Try.func3, Try.ntmps3
  go_wp2_with fail
  refine (awake7_any _).mono ?_
  rintro r w1 ⟨rfl, hb⟩
  have HB1 := Lib.hid hb
  clear hb
  go_wp2_with fail
  by_cases hf1 : fewC ts = true
  · refine (clarge_is (r := false) _ ts _ (HV.out.below HB1.out) hf1).mono ?_
    rintro r w2 ⟨rfl, hb⟩
    have HB2 := Lib.hid (HB1.out.trans (hb.mono HB1.out.size))
    have HF1 := Lib.hid (few_iff.1 hf1)
    clear hb hf1
    go_wp2_with fail
    by_cases hf2 : fewC us = true
    · refine (clarge_is (r := false) _ us _ (HU.out.below HB2.out) hf2).mono ?_
      rintro r w3 ⟨rfl, hb⟩
      have HB3 := Lib.hid (HB2.out.trans (hb.mono HB2.out.size))
      have HF2 := Lib.hid (few_iff.1 hf2)
      clear hb hf2 HB1 HB2
      by_cases hbl : (400 : Int) < (b.length : Int)
      · go_wp2_with fail
        exact HQ.out _ _ ⟨rfl, HB3.out⟩
      · go_wp2_with fail
        refine (csplit_any _ b _ (HBv.out.below HB3.out)).mono ?_
        rintro r w4 ⟨k, z, tk, rfl, hk, hb, hr⟩
        have HS4 := Lib.hid (show BkS w _ ts _ us _ b _ b w4 from ⟨HV.out.below (HB3.out.trans (hb.mono HB3.out.size)), HU.out.below (HB3.out.trans (hb.mono HB3.out.size)), HBv.out.below (HB3.out.trans (hb.mono HB3.out.size)), HBv.out.below (HB3.out.trans (hb.mono HB3.out.size)), HB3.out.trans (hb.mono HB3.out.size)⟩)
        have HK := Lib.hid hk
        have HR := Lib.hid hr
        clear hk hb hr HV HU HBv HB3
        go_upto_if 36 with fail
        go_cut [] (fun wx => BkS w (.slice A ts.length c) ts (.slice A2 us.length c2) us (.slice A3 b.length c3) b (.slice A3 b.length c3) b wx)
        case first =>
          by_cases hz : z = 0
          · have hr := HR.out
            rw [hz] at hr
            have hz1 : (z == 0) = true := by simp [hz]
            obtain ⟨q1, q2, q3, q4, q5, q6⟩ := back_bytes hr
            rw [ds_len] at q5
            have hj := cjoin_any _ tk _ HK.out q5 (body_le q6)
            unfold JoPost at hj
            rw [q1, q2] at hj
            have HJ := Lib.hid hj
            have HE := Lib.hid q4
            have HLe := Lib.hid q3
            generalize encs (ds tk) = X at *
            clear hj q1 q2 q3 q4 q5 q6 HR hr hz hbl
            go_wp2_with fail
            refine HJ.out.mono ?_
            rintro r w5 ⟨x, rfl, hx, hb⟩
            obtain ⟨Ax, cx, rfl, -⟩ := bs_parts hx
            have HS5 := Lib.hid (HS4.out.after hb)
            have HX5 := Lib.hid hx
            clear hx hb HS4 HJ HK
            by_cases hl : X.length = b.length
            · have he := HE.out hl
              have HE2 := Lib.hid he
              have hli : ((X.length : Int) == (b.length : Int)) = true := by simp; omega
              have hlt : ¬ (b.length : Int) < (X.length : Int) := by omega
              clear he hl
              generalize X.length = n1 at *
              generalize b.length = n2 at *
              go_wp2_with fail
              refine (rsame_is (r := true) _ _ X b _ HX5.out HS5.out.y HE2.out).mono ?_
              rintro r w6 ⟨rfl, hb⟩
              have HS6 := Lib.hid (HS5.out.after hb)
              clear hb HS5
              go_wp2_with fail
              go_meet
              case rel => exact HS6.out
            · have hli : ((X.length : Int) == (b.length : Int)) = false := by simp; omega
              have hlt : ¬ (b.length : Int) < (X.length : Int) := by have := HLe.out; omega
              clear hl
              generalize X.length = n1 at *
              generalize b.length = n2 at *
              go_wp2_with fail
              go_meet
              case rel => exact HS5.out
          · have hz1 : (z == 0) = false := by simp [hz]
            clear hz HR
            go_wp2_with fail
            go_meet
            case rel => exact HS4.out
        case rest =>
          have HS5 := Lib.hid hcut
          clear hcut HS4 HK HR
          generalize wc = w5 at *
          have hlt : ts.length ≤ 1000 := by have := HF1.out.1; omega
          have hlu : us.length ≤ 1000 := by have := HF2.out.1; omega
          have hj := cjoin_any _ ts _ HS5.out.v hlt (fun t ht => by have := HF1.out.2 t ht; omega)
          unfold JoPost at hj
          have HJ := Lib.hid hj
          clear hj
          generalize hE1 : joE (ds ts) = e1 at *
          generalize hX1 : joB (ds ts) = X at *
          have HE1 := Lib.hid hE1
          have HX1 := Lib.hid hX1
          clear hE1 hX1
          go_wp2_with fail
          refine HJ.out.mono ?_
          rintro r w6 ⟨x, rfl, hx, hb⟩
          obtain ⟨Ax, cx, rfl, -⟩ := bs_parts hx
          have HS6 := Lib.hid (show BkS w (.slice A ts.length c) ts (.slice A2 us.length c2) us (.slice Ax X.length cx) X (.slice Ax X.length cx) X w6 from ⟨HS5.out.v.below hb, HS5.out.u.below hb, hx, hx, HS5.out.below.trans (hb.mono HS5.out.below.size)⟩)
          clear hx hb HS5 HJ
          have hj := cjoin_any _ us _ HS6.out.u hlu (fun t ht => by have := HF2.out.2 t ht; omega)
          unfold JoPost at hj
          have HJ := Lib.hid hj
          clear hj
          generalize hE2 : joE (ds us) = e2 at *
          generalize hY1 : joB (ds us) = Y at *
          have HE2 := Lib.hid hE2
          have HY1 := Lib.hid hY1
          clear hE2 hY1
          go_wp2_with fail
          refine HJ.out.mono ?_
          rintro r w7 ⟨y, rfl, hy, hb⟩
          obtain ⟨Ay, cy, rfl, -⟩ := bs_parts hy
          have HS7 := Lib.hid (show BkS w (.slice A ts.length c) ts (.slice A2 us.length c2) us (.slice Ax X.length cx) X (.slice Ay Y.length cy) Y w7 from ⟨HS6.out.v.below hb, HS6.out.u.below hb, HS6.out.x.below hb, hy, HS6.out.below.trans (hb.mono HS6.out.below.size)⟩)
          clear hy hb HS6 HJ
          rcases jo_cases (ds ts) with ⟨q1, q2⟩ | ⟨q1, q2, q3, q4⟩
          · rw [HE1.out] at q1
            rw [HX1.out] at q2
            have hne : (e1 != 0) = true := by simp [q1]
            have hx0 : ((X.length : Int) == 0) = true := by rw [q2]; rfl
            clear q1 q2
            generalize X.length = xl at *
            go_wp2_with fail
            exact HQ.out _ _ ⟨rfl, HS7.out.below⟩
          · rw [HE1.out] at q1
            rw [HX1.out] at q2
            have hne : (e1 != 0) = false := by simp [q1]
            have HRt := Lib.hid q3
            have HLe := Lib.hid q4
            have HXe := Lib.hid q2
            have HOk := Lib.hid HS7.out.v.okd
            have HOu := Lib.hid HS7.out.u.okd
            clear q1 q2 q3 q4
            go_wp2_with fail
            refine (csplit_any _ X _ HS7.out.x).mono ?_
            rintro r w8 ⟨k, z, tk, rfl, hk, hb, hr⟩
            have HS8 := Lib.hid (HS7.out.after hb)
            have HK := Lib.hid hk
            have HR := Lib.hid hr
            clear hk hb hr HS7
            by_cases h0 : ts = []
            · have hl0 : ts.length = 0 := by rw [h0]; rfl
              have hX0 : X = [] := by rw [HXe.out, h0]; rfl
              have hz := HR.out.none hX0
              have hz1 : (z == 3) = true := by simp [hz]
              have hx0 : ((X.length : Int) == 0) = true := by rw [hX0]; rfl
              have ht0 : ((ts.length : Int) == 0) = true := by rw [hl0]; rfl
              have HB := Lib.hid HS8.out.below
              clear hz hX0 hl0 h0 HS8 hlt HF1
              generalize X.length = xl at *
              generalize ts.length = tl at *
              go_wp2_with fail
              exact HQ.out _ _ ⟨rfl, HB.out⟩
            · have hne0 : ds ts ≠ [] := fun h => h0 (List.map_eq_nil_iff.1 h)
              obtain ⟨hz, hes⟩ := HR.out.back (ds ts) hne0 HRt.out HOk.out HLe.out HXe.out
              have hz1 : (z == 0) = true := by simp [hz]
              have ht0 : ((ts.length : Int) == 0) = false := by
                have : ts.length ≠ 0 := fun h => h0 (List.eq_nil_of_length_eq_zero h)
                simp; exact h0
              have hlk : tk.length ≤ 1000 := by have h := congrArg List.length hes; rw [ds_len, ds_len] at h; omega
              have HDk := Lib.hid (show decide (ds tk = ds ts) = true from decide_eq_true hes)
              clear hz hne0 h0 hes HR
              go_wp2_with fail
              refine (cown_any _ tk _ HK.out hlk).mono ?_
              rintro r w81 ⟨ok, rfl, ho, hb⟩
              have HS81 := Lib.hid (HS8.out.after hb)
              have HOk1 := Lib.hid ho
              clear ho hb HS8 HK hlk
              go_wp2_with fail
              refine (cown_any _ ts _ HS81.out.v hlt).mono ?_
              rintro r w82 ⟨ol, rfl, ho, hb⟩
              have HS82 := Lib.hid (HS81.out.after hb)
              have HOk2 := Lib.hid (HOk1.out.below hb)
              have HOl := Lib.hid ho
              clear ho hb HS81 HOk1
              go_wp2_with fail
              refine (csame_is (r := true) _ _ tk ts _ HOk2.out HOl.out HDk.out).mono ?_
              rintro r w9 ⟨rfl, hb⟩
              have HS9 := Lib.hid (HS82.out.after hb)
              clear hb HS82 HOk2 HOl
              rcases jo_cases (ds us) with ⟨p1, p2⟩ | ⟨p1, p2, p3, p4⟩
              · rw [HE2.out] at p1
                have hne2 : (e2 != 0) = true := by simp [p1]
                clear p1 p2
                go_wp2_with fail
                exact HQ.out _ _ ⟨rfl, HS9.out.below⟩
              · rw [HE2.out] at p1
                rw [HY1.out] at p2
                have hne2 : (e2 != 0) = false := by simp [p1]
                have HI := Lib.hid (encs_inj (ds ts) (ds us) HRt.out p3 HOk.out HOu.out)
                have HYe := Lib.hid p2
                clear p1 p2 p3 p4
                by_cases hd : ds ts = ds us
                · have HEq := Lib.hid (show (X == Y) = true by rw [HXe.out, HYe.out, hd]; simp)
                  have HDe := Lib.hid (show decide (ds ts = ds us) = true from decide_eq_true hd)
                  clear hd
                  go_wp2_with fail
                  refine (rsame_is (r := true) _ _ X Y _ HS9.out.x HS9.out.y HEq.out).mono ?_
                  rintro r w10 ⟨rfl, hb⟩
                  have HS10 := Lib.hid (HS9.out.after hb)
                  clear hb HS9
                  go_wp2_with fail
                  refine (cown_any _ ts _ HS10.out.v hlt).mono ?_
                  rintro r w11 ⟨o1, rfl, ho, hb⟩
                  have HS11 := Lib.hid (HS10.out.after hb)
                  have HO1 := Lib.hid ho
                  clear ho hb HS10
                  go_wp2_with fail
                  refine (cown_any _ us _ HS11.out.u hlu).mono ?_
                  rintro r w12 ⟨o2, rfl, ho, hb⟩
                  have HS12 := Lib.hid (HS11.out.after hb)
                  have HO2 := Lib.hid (HO1.out.below hb)
                  have HO3 := Lib.hid ho
                  clear ho hb HS11 HO1
                  go_wp2_with fail
                  refine (csame_is (r := true) _ _ ts us _ HO2.out HO3.out HDe.out).mono ?_
                  rintro r w13 ⟨rfl, hb⟩
                  have HS13 := Lib.hid (HS12.out.after hb)
                  clear hb HS12
                  go_wp2_with fail
                  exact HQ.out _ _ ⟨rfl, HS13.out.below⟩
                · have HEq := Lib.hid (show (X == Y) = false by rw [HXe.out, HYe.out, beq_eq_false_iff_ne]; exact fun h => hd (HI.out h))
                  have HDe := Lib.hid (show decide (ds ts = ds us) = false from decide_eq_false hd)
                  clear hd
                  go_wp2_with fail
                  refine (rsame_is (r := false) _ _ X Y _ HS9.out.x HS9.out.y HEq.out).mono ?_
                  rintro r w10 ⟨rfl, hb⟩
                  have HS10 := Lib.hid (HS9.out.after hb)
                  clear hb HS9
                  go_wp2_with fail
                  refine (cown_any _ ts _ HS10.out.v hlt).mono ?_
                  rintro r w11 ⟨o1, rfl, ho, hb⟩
                  have HS11 := Lib.hid (HS10.out.after hb)
                  have HO1 := Lib.hid ho
                  clear ho hb HS10
                  go_wp2_with fail
                  refine (cown_any _ us _ HS11.out.u hlu).mono ?_
                  rintro r w12 ⟨o2, rfl, ho, hb⟩
                  have HS12 := Lib.hid (HS11.out.after hb)
                  have HO2 := Lib.hid (HO1.out.below hb)
                  have HO3 := Lib.hid ho
                  clear ho hb HS11 HO1
                  go_wp2_with fail
                  refine (csame_is (r := false) _ _ ts us _ HO2.out HO3.out HDe.out).mono ?_
                  rintro r w13 ⟨rfl, hb⟩
                  have HS13 := Lib.hid (HS12.out.after hb)
                  clear hb HS12
                  go_wp2_with fail
                  exact HQ.out _ _ ⟨rfl, HS13.out.below⟩
    · refine (clarge_is (r := true) _ us _ (HU.out.below HB2.out) (by simpa using hf2)).mono ?_
      rintro r w3 ⟨rfl, hb⟩
      have HB3 := Lib.hid (HB2.out.trans (hb.mono HB2.out.size))
      clear hb hf2
      go_wp2_with fail
      exact HQ.out _ _ ⟨rfl, HB3.out⟩
  · refine (clarge_is (r := true) _ ts _ (HV.out.below HB1.out) (by simpa using hf1)).mono ?_
    rintro r w2 ⟨rfl, hb⟩
    have HB2 := Lib.hid (HB1.out.trans (hb.mono HB1.out.size))
    clear hb hf1
    go_wp2_with fail
    exact HQ.out _ _ ⟨rfl, HB2.out⟩
end Go.Proofs.Ytjohjilfmhgdnaa
