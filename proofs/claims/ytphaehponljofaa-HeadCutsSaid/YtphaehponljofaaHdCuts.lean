/- The walk of HeadCuts. -/
import Derived.Test.YtphaehponljofaaHdAw
namespace Go.Proofs.Ytphaehponljofaa
open Go.RowKit

theorem enc_len {d : PD} (hR : d.Right) : (encP d).length = d.size ∧ 12 + d.pl.length ≤ (encP d).length := by
  have h1 := encP_len d
  have h2 := hR.has
  have h3 : d.size = 12 + 4 * d.srcs.length + d.ex.length + d.pl.length + (if d.has then 4 else 0) := rfl
  cases hh : d.has
  · rw [hh] at h1 h2 h3
    simp at h1 h2 h3
    rw [h2.2] at h1 h3
    simp at h1 h3
    omega
  · rw [hh] at h1 h3
    simp at h1 h3
    omega
theorem enc_form (d : PD) : encP d = headB d ++ ((srcB d.srcs ++ extB d) ++ d.pl) := by simp [encP]
/-- what is read of a packet's bytes that are cut off -/
theorem cut_read {d : PD} (hR : d.Right) (hW : d.Wf) (n : Nat) (hn : n ≤ (encP d).length) :
    (n < (encP d).length - d.pl.length → readE ((encP d).take n) = 3 ∧ readP ((encP d).take n) = PD.zero) ∧
    ((encP d).length - d.pl.length ≤ n → readE ((encP d).take n) = 0 ∧ readP ((encP d).take n) = { d with pl := ((encP d).take n).drop ((encP d).length - d.pl.length) }) := by
  obtain ⟨e1, e2⟩ := enc_len hR
  have h200 := hR.size
  have hm : (srcB d.srcs ++ extB d).length = (encP d).length - d.pl.length - 12 := by
    have := congrArg List.length (enc_form d)
    simp only [List.length_append, headB_len] at this ⊢
    omega
  refine ⟨fun h => ?_, fun h => ?_⟩
  · have h3 : readE ((encP d).take n) = 3 := by
      by_cases h12 : n < 12
      · exact read_short _ (by simp; omega)
      · have e : (encP d).take n = headB d ++ (srcB d.srcs ++ extB d).take (n - 12) := by
          rw [enc_form, List.take_append, headB_len, List.take_of_length_le (by rw [headB_len]; omega), List.take_append_of_le_length (by omega)]
        rw [e]
        refine read_cut1 hR _ ((srcB d.srcs ++ extB d).drop (n - 12)) ?_ (List.take_append_drop _ _) (by simp; omega)
        intro hx
        have := congrArg List.length hx
        simp only [List.length_drop, List.length_nil] at this
        omega
    exact ⟨h3, by rw [readP, if_neg (by rw [h3]; decide)]⟩
  · have e : (encP d).take n = headB d ++ (srcB d.srcs ++ extB d ++ d.pl.take (n - ((encP d).length - d.pl.length))) := by
      rw [enc_form, List.take_append, headB_len, List.take_of_length_le (by rw [headB_len]; omega), List.take_append, List.take_of_length_le (by omega)]
      congr 3
      simp only [List.length_append, headB_len] at hm ⊢
      omega
    have hd : ((encP d).take n).drop ((encP d).length - d.pl.length) = d.pl.take (n - ((encP d).length - d.pl.length)) := by
      rw [e, ← List.append_assoc]
      refine drop_app _ _ _ ?_
      rw [List.length_append, headB_len, hm]; omega
    rw [hd, e]
    refine read_cut2 hR hW _ _ rfl ?_
    simp only [List.length_append, List.length_take] at hm ⊢
    omega
set_option maxHeartbeats 2000000 in
theorem cuts_walk (v : Value) (d : PD) (cut : Nat) (w : World) (hv : PV w v d) (hw : d.Wf) (hc : cut < 256) :
    Calls Try.prog 4 #[v, .int .u8 (cut : Nat)] w fun r w' => r = .returned (.bool true) ∧ Below w.heap.size w w' := by
  have HV := Lib.hid hv
  have HW := Lib.hid hw
  obtain ⟨As, cs, Ae, ce, Ap, cp, rfl, ⟨a1, a2, a3⟩, ⟨b1, b2, b3⟩, c1, c2, c3⟩ := hv.parts
  clear hv a3 b3 c3 hw
  have HX := Lib.hid (heap_alloc_new w (.cells #[.bool d.m, .int .u8 (d.ty : Nat), .int .u16 (d.seq : Nat), .int .u32 (d.st : Nat), .int .u32 (d.so : Nat), .slice As d.srcs.length cs, .bool d.has, .int .u16 (d.prof : Nat), .slice Ae d.ex.length ce, .slice Ap d.pl.length cp] 29 (0, 0)))
  have HB := Lib.hid (below_alloc (w := w) (.cells #[.bool d.m, .int .u8 (d.ty : Nat), .int .u16 (d.seq : Nat), .int .u32 (d.st : Nat), .int .u32 (d.so : Nat), .slice As d.srcs.length cs, .bool d.has, .int .u16 (d.prof : Nat), .slice Ae d.ex.length ce, .slice Ap d.pl.length cp] 29 (0, 0)))
  unfold pcells at *
  refine calls_q fun Q HQ => ?_
  go_enter Try.func4, Try.ntmps4
  go_wp2_with fail
  refine (awake4_any _).mono ?_
  rintro r w1 ⟨rfl, hb⟩
  have HX1 := Lib.hid ((Fr.of hb).heap HX.out (fun h => h))
  have HB1 := Lib.hid (HB.out.trans (hb.mono HB.out.size))
  clear hb HX HB
  obtain ⟨k0, k1, k2, k3, k4, k5, k6, k7, k8, k9⟩ := ten_cells HX1.out
  go_wp2_with fail
  have hcl := hlarge_any _ d _ (HV.out.below HB1.out)
  unfold pcells at hcl
  by_cases hl : largeB d = true
  · rw [hl] at hcl
    refine hcl.mono ?_
    rintro r w2 ⟨rfl, hb⟩
    have HB2 := Lib.hid (HB1.out.trans (hb.mono HB1.out.size))
    clear hb hcl hl
    go_wp2_with fail
    exact HQ.out _ _ ⟨rfl, HB2.out⟩
  · have hl' : largeB d = false := by simpa using hl
    have HFw := Lib.hid (large_few hl')
    rw [hl'] at hcl
    refine hcl.mono ?_
    rintro r w2 ⟨rfl, hb⟩
    have HX2 := Lib.hid ((Fr.of hb).heap HX1.out (fun h => h))
    have HB2 := Lib.hid (HB1.out.trans (hb.mono HB1.out.size))
    clear hb hcl hl hl' HX1 HB1 k0 k1 k2 k3 k4 k5 k6 k7 k8 k9
    obtain ⟨k0, k1, k2, k3, k4, k5, k6, k7, k8, k9⟩ := ten_cells HX2.out
    have HLt2 := Lib.hid (obj_lt HX2.out)
    go_wp2_with fail
    refine (hbytes_any _ d _ (HV.out.below HB2.out) HFw.out HW.out).mono ?_
    rintro r w3 ⟨vb, rfl, hvb, hb⟩
    have HX3 := Lib.hid ((Fr.of hb).heap HX2.out (fun h => h))
    have HB3 := Lib.hid (HB2.out.trans (hb.mono HB2.out.size))
    have HLt3 := Lib.hid (obj_lt HX3.out)
    clear hb HX2 HB2 k0 k1 k2 k3 k4 k5 k6 k7 k8 k9
    obtain ⟨k0, k1, k2, k3, k4, k5, k6, k7, k8, k9⟩ := ten_cells HX3.out
    by_cases hr : rightB d = true
    · have HR := Lib.hid (right_iff.1 hr)
      rw [hr] at hvb ⊢
      rw [if_pos rfl] at hvb
      rw [if_pos rfl]
      obtain ⟨Ab, cb, rfl, hcb, hcb2, hrb⟩ := bs_parts hvb.1
      have HVb := Lib.hid hvb
      have HRb := Lib.hid hrb
      obtain ⟨e1, e2⟩ := enc_len HR.out
      have h200 := HR.out.size
      rw [← e1] at h200
      clear hvb hrb hr e1
      have HRd := Lib.hid (fun h => cut_read HR.out HW.out cut h)
      have HEn := Lib.hid (rfl : encP d = encP d)
      generalize hE : encP d = E at *
      clear hE HEn
      by_cases hcE : cut ≤ E.length
      · have hcE' : ¬ ((E.length : Int) < (cut : Int)) := by omega
        obtain ⟨HR1, HR2⟩ := HRd.out hcE
        have HR1 := Lib.hid HR1
        have HR2 := Lib.hid HR2
        have hcb3 : cut ≤ cb := by omega
        have HVc := Lib.hid (show BS w3 (.slice Ab cut cb) (E.take cut) from ⟨Ab, cb, by rw [List.length_take, Nat.min_eq_left hcE], by rw [List.length_take]; omega, by unfold maxLen; omega, HRb.out.take cut⟩)
        go_wp2_with fail
        refine (hread_any _ (E.take cut) _ HVc.out).mono ?_
        rintro r w4 ⟨vq, rfl, hq, hb⟩
        have HX4 := Lib.hid ((Fr.of hb).heap HX3.out (fun h => h))
        have HB4 := Lib.hid (HB3.out.trans (hb.mono HB3.out.size))
        have HB34 := Lib.hid hb
        clear hb HX3 HB3 k0 k1 k2 k3 k4 k5 k6 k7 k8 k9
        by_cases hce : cut < E.length - d.pl.length
        · obtain ⟨r1, r2⟩ := HR1.out hce
          rw [r2] at hq
          have hq := hq.pv
          rw [r1]
          obtain ⟨Qs, qs, Qe, qe, Qp, qp, rfl, _, _, _⟩ := hq.parts
          have hlt : (cut : Int) < (E.length : Int) - (d.pl.length : Int) := by omega
          have hqb := below_alloc (w := w4) (.cells #[.bool PD.zero.m, .int .u8 (PD.zero.ty : Nat), .int .u16 (PD.zero.seq : Nat), .int .u32 (PD.zero.st : Nat), .int .u32 (PD.zero.so : Nat), .slice Qs PD.zero.srcs.length qs, .bool PD.zero.has, .int .u16 (PD.zero.prof : Nat), .slice Qe PD.zero.ex.length qe, .slice Qp PD.zero.pl.length qp] 29 (0, 0))
          have HQv := Lib.hid (hq.below hqb)
          have HX5 := Lib.hid ((Fr.of hqb).heap HX4.out (fun h => h))
          have HY5 := Lib.hid (heap_alloc_new w4 (.cells #[.bool PD.zero.m, .int .u8 (PD.zero.ty : Nat), .int .u16 (PD.zero.seq : Nat), .int .u32 (PD.zero.st : Nat), .int .u32 (PD.zero.so : Nat), .slice Qs PD.zero.srcs.length qs, .bool PD.zero.has, .int .u16 (PD.zero.prof : Nat), .slice Qe PD.zero.ex.length qe, .slice Qp PD.zero.pl.length qp] 29 (0, 0)))
          have HB5 := Lib.hid (HB4.out.trans (hqb.mono HB4.out.size))
          clear r1 r2 hq hqb
          unfold pcells at *
          obtain ⟨k0, k1, k2, k3, k4, k5, k6, k7, k8, k9⟩ := ten_cells HX5.out
          go_wp2_with fail
          refine (own_any _ PD.zero _ HQv.out).mono ?_
          rintro r w6 ⟨rfl, hb⟩
          have HB6 := Lib.hid (HB5.out.trans (hb.mono HB5.out.size))
          have HQ6 := Lib.hid (HQv.out.below hb)
          clear hb
          go_wp2_with fail
          refine (psame_refl _ _ PD.zero _ HQ6.out (pv_zero _)).mono ?_
          rintro r w7 ⟨rfl, hb⟩
          have HB7 := Lib.hid (HB6.out.trans (hb.mono HB6.out.size))
          clear hb
          go_wp2_with fail
          exact HQ.out _ _ ⟨rfl, HB7.out⟩
        · obtain ⟨r1, r2⟩ := HR2.out (by omega)
          rw [r2] at hq
          rw [r1]
          have hlt : ¬ (cut : Int) < (E.length : Int) - (d.pl.length : Int) := by omega
          have hPLl : ((E.take cut).drop (E.length - d.pl.length)).length = cut - (E.length - d.pl.length) := by simp; omega
          have HPc := Lib.hid (fun (A' : Option Addr) (c' : Nat) hA hcc hm => BSx.piece (A' := A') (c' := c') HVb.out (show E.length - d.pl.length ≤ cut by omega) hcE hA hcc hm)
          have HF34 := Lib.hid (Fr.of HB34.out)
          generalize (E.take cut).drop (E.length - d.pl.length) = PL at *
          obtain ⟨Qs, qs, Qe, qe, Qp, qp, hvq, _, _, _⟩ := hq.pv.parts
          unfold pcells at *
          simp only at hvq
          rw [hPLl] at hvq
          subst hvq
          have HPLl := Lib.hid hPLl
          clear hPLl
          have hqb := below_alloc (w := w4) (.cells #[.bool d.m, .int .u8 (d.ty : Nat), .int .u16 (d.seq : Nat), .int .u32 (d.st : Nat), .int .u32 (d.so : Nat), .slice Qs d.srcs.length qs, .bool d.has, .int .u16 (d.prof : Nat), .slice Qe d.ex.length qe, .slice Qp (cut - (E.length - d.pl.length)) qp] 29 (0, 0))
          have HQv := Lib.hid (hq.below hqb)
          have HX5 := Lib.hid ((Fr.of hqb).heap HX4.out (fun h => h))
          have HY5 := Lib.hid (heap_alloc_new w4 (.cells #[.bool d.m, .int .u8 (d.ty : Nat), .int .u16 (d.seq : Nat), .int .u32 (d.st : Nat), .int .u32 (d.so : Nat), .slice Qs d.srcs.length qs, .bool d.has, .int .u16 (d.prof : Nat), .slice Qe d.ex.length qe, .slice Qp (cut - (E.length - d.pl.length)) qp] 29 (0, 0)))
          have HB5 := Lib.hid (HB4.out.trans (hqb.mono HB4.out.size))
          have HF45 := Lib.hid (Fr.of hqb)
          clear r1 r2 hq hqb
          obtain ⟨k0, k1, k2, k3, k4, k5, k6, k7, k8, k9⟩ := ten_cells HX5.out
          obtain ⟨z0, z1, z2, z3, z4, z5, z6, z7, z8, z9⟩ := ten_frozen HX5.out
          have hi0 : (0 : Int) ≤ (E.length : Int) - (d.pl.length : Int) := by omega
          have hi1 : (E.length : Int) - (d.pl.length : Int) ≤ (cut : Int) := by omega
          have hi2 : ((E.length : Int) - (d.pl.length : Int)).toNat = E.length - d.pl.length := by omega
          by_cases hcap : cb = E.length - d.pl.length
          · have hz0 : cut - (E.length - d.pl.length) = 0 := by omega
            have HZ0 := Lib.hid hz0
            clear hz0
            have hP5 := ((HPc.out (Ab) (0) (.inl HZ0.out) (by omega) (by unfold maxLen; omega)).fr HF34.out (fun _ _ _ h => h)).fr HF45.out (fun _ _ _ h => h)
            have hset := obj_set HX5.out 9 (.slice Ab (cut - (E.length - d.pl.length)) 0)
            have hfs : Fr (F1 w.heap.size) (w4.alloc (.cells #[.bool d.m, .int .u8 (d.ty : Nat), .int .u16 (d.seq : Nat), .int .u32 (d.st : Nat), .int .u32 (d.so : Nat), .slice Qs d.srcs.length qs, .bool d.has, .int .u16 (d.prof : Nat), .slice Qe d.ex.length qe, .slice Qp (cut - (E.length - d.pl.length)) qp] 29 (0, 0))) ((w4.alloc (.cells #[.bool d.m, .int .u8 (d.ty : Nat), .int .u16 (d.seq : Nat), .int .u32 (d.st : Nat), .int .u32 (d.so : Nat), .slice Qs d.srcs.length qs, .bool d.has, .int .u16 (d.prof : Nat), .slice Qe d.ex.length qe, .slice Qp (cut - (E.length - d.pl.length)) qp] 29 (0, 0))).setCell ⟨w.heap.size, 9, none⟩ (.slice Ab (cut - (E.length - d.pl.length)) 0)) := Fr.setCell _ ⟨w.heap.size, 9, none⟩ _
            have hlt4 := obj_lt HX4.out
            have hlt2 := HLt2.out
            have hlt3 := HLt3.out
            have hP6 := hP5.fr hfs (fun k _ hk (h : k = w.heap.size) => by have hk2 : w2.heap.size ≤ k := hk; omega)
            have hB6 := HB5.out.trans (hfs.below HB5.out.size (fun k (h : k = w.heap.size) => by omega))
            have hV6 := HV.out.below hB6
            have hQ6 := (HQv.out.fr hfs (fun k _ hk (h : k = w.heap.size) => by omega)).pv
            have HA : Hid (ASt w w.heap.size w4.heap.size (.cells #[.bool d.m, .int .u8 (d.ty : Nat), .int .u16 (d.seq : Nat), .int .u32 (d.st : Nat), .int .u32 (d.so : Nat), .slice As d.srcs.length cs, .bool d.has, .int .u16 (d.prof : Nat), .slice Ae d.ex.length ce, .slice Ab (cut - (E.length - d.pl.length)) 0] 29 (0, 0)) (.cells #[.bool d.m, .int .u8 (d.ty : Nat), .int .u16 (d.seq : Nat), .int .u32 (d.st : Nat), .int .u32 (d.so : Nat), .slice Qs d.srcs.length qs, .bool d.has, .int .u16 (d.prof : Nat), .slice Qe d.ex.length qe, .slice Qp (cut - (E.length - d.pl.length)) qp] 29 (0, 0)) (.slice none 0 0) [] (.agg #[.bool d.m, .int .u8 (d.ty : Nat), .int .u16 (d.seq : Nat), .int .u32 (d.st : Nat), .int .u32 (d.so : Nat), .slice As d.srcs.length cs, .bool d.has, .int .u16 (d.prof : Nat), .slice Ae d.ex.length ce, .slice Ab (cut - (E.length - d.pl.length)) 0]) { d with pl := PL } (.agg #[.bool d.m, .int .u8 (d.ty : Nat), .int .u16 (d.seq : Nat), .int .u32 (d.st : Nat), .int .u32 (d.so : Nat), .slice Qs d.srcs.length qs, .bool d.has, .int .u16 (d.prof : Nat), .slice Qe d.ex.length qe, .slice Qp (cut - (E.length - d.pl.length)) qp]) { d with pl := PL } ((w4.alloc (.cells #[.bool d.m, .int .u8 (d.ty : Nat), .int .u16 (d.seq : Nat), .int .u32 (d.st : Nat), .int .u32 (d.so : Nat), .slice Qs d.srcs.length qs, .bool d.has, .int .u16 (d.prof : Nat), .slice Qe d.ex.length qe, .slice Qp (cut - (E.length - d.pl.length)) qp] 29 (0, 0))).setCell ⟨w.heap.size, 9, none⟩ (.slice Ab (cut - (E.length - d.pl.length)) 0))) := Lib.hid (by
              refine ⟨by simpa using hset, hfs.heap HY5.out (fun (h : w4.heap.size = w.heap.size) => by omega), BS.nil _, ?_, hQ6, hB6⟩
              obtain ⟨v1, v2, v3, he, s1, s2, _⟩ := hV6
              unfold pcells at he
              simp only [Value.agg.injEq, Array.mk.injEq, List.cons.injEq, true_and, and_true] at he
              obtain ⟨h1, h2, _⟩ := he
              exact ⟨_, _, _, rfl, by rw [h1]; exact s1, by rw [h2]; exact s2, hP6.1⟩)
            clear hP5 hset hfs hP6 hB6 hV6 hQ6 hlt4 hlt2 hlt3
            go_wp2_with fail
            generalize (w4.alloc (.cells #[.bool d.m, .int .u8 (d.ty : Nat), .int .u16 (d.seq : Nat), .int .u32 (d.st : Nat), .int .u32 (d.so : Nat), .slice Qs d.srcs.length qs, .bool d.has, .int .u16 (d.prof : Nat), .slice Qe d.ex.length qe, .slice Qp (cut - (E.length - d.pl.length)) qp] 29 (0, 0))).setCell ⟨w.heap.size, 9, none⟩ (.slice Ab (cut - (E.length - d.pl.length)) 0) = wz at *
            generalize hb0 : w.heap.size = b0 at *
            have HB0 := Lib.hid hb0
            clear hb0
            generalize w4.heap.size = b4 at *
            go_region_held3 (fun w' => ASt w b0 b4 (.cells #[.bool d.m, .int .u8 (d.ty : Nat), .int .u16 (d.seq : Nat), .int .u32 (d.st : Nat), .int .u32 (d.so : Nat), .slice As d.srcs.length cs, .bool d.has, .int .u16 (d.prof : Nat), .slice Ae d.ex.length ce, .slice Ab (cut - (E.length - d.pl.length)) 0] 29 (0, 0)) (.cells #[.bool d.m, .int .u8 (d.ty : Nat), .int .u16 (d.seq : Nat), .int .u32 (d.st : Nat), .int .u32 (d.so : Nat), .slice Qs d.srcs.length qs, .bool d.has, .int .u16 (d.prof : Nat), .slice Qe d.ex.length qe, .slice Qp (cut - (E.length - d.pl.length)) qp] 29 (0, 0)) (.slice none 0 0) [] (.agg #[.bool d.m, .int .u8 (d.ty : Nat), .int .u16 (d.seq : Nat), .int .u32 (d.st : Nat), .int .u32 (d.so : Nat), .slice As d.srcs.length cs, .bool d.has, .int .u16 (d.prof : Nat), .slice Ae d.ex.length ce, .slice Ab (cut - (E.length - d.pl.length)) 0]) { d with pl := PL } (.agg #[.bool d.m, .int .u8 (d.ty : Nat), .int .u16 (d.seq : Nat), .int .u32 (d.st : Nat), .int .u32 (d.so : Nat), .slice Qs d.srcs.length qs, .bool d.has, .int .u16 (d.prof : Nat), .slice Qe d.ex.length qe, .slice Qp (cut - (E.length - d.pl.length)) qp]) { d with pl := PL } w' ∧ w'.cell? ⟨b0, 0, none⟩ = some (.bool d.m) ∧ w'.cell? ⟨b0, 1, none⟩ = some (.int .u8 (d.ty : Nat)) ∧ w'.cell? ⟨b0, 2, none⟩ = some (.int .u16 (d.seq : Nat)) ∧ w'.cell? ⟨b0, 3, none⟩ = some (.int .u32 (d.st : Nat)) ∧ w'.cell? ⟨b0, 4, none⟩ = some (.int .u32 (d.so : Nat)) ∧ w'.cell? ⟨b0, 5, none⟩ = some (.slice As d.srcs.length cs) ∧ w'.cell? ⟨b0, 6, none⟩ = some (.bool d.has) ∧ w'.cell? ⟨b0, 7, none⟩ = some (.int .u16 (d.prof : Nat)) ∧ w'.cell? ⟨b0, 8, none⟩ = some (.slice Ae d.ex.length ce) ∧ w'.cell? ⟨b0, 9, none⟩ = some (.slice Ab (cut - (E.length - d.pl.length)) 0) ∧ w'.cell? ⟨b4, 0, none⟩ = some (.bool d.m) ∧ w'.cell? ⟨b4, 1, none⟩ = some (.int .u8 (d.ty : Nat)) ∧ w'.cell? ⟨b4, 2, none⟩ = some (.int .u16 (d.seq : Nat)) ∧ w'.cell? ⟨b4, 3, none⟩ = some (.int .u32 (d.st : Nat)) ∧ w'.cell? ⟨b4, 4, none⟩ = some (.int .u32 (d.so : Nat)) ∧ w'.cell? ⟨b4, 5, none⟩ = some (.slice Qs d.srcs.length qs) ∧ w'.cell? ⟨b4, 6, none⟩ = some (.bool d.has) ∧ w'.cell? ⟨b4, 7, none⟩ = some (.int .u16 (d.prof : Nat)) ∧ w'.cell? ⟨b4, 8, none⟩ = some (.slice Qe d.ex.length qe) ∧ w'.cell? ⟨b4, 9, none⟩ = some (.slice Qp (cut - (E.length - d.pl.length)) qp)) (first | exact (((‹ASt w b0 b4 _ _ _ _ _ _ _ _ _ ∧ _›).1).after (by assumption)).cells | exact (HA.out.drew).cells) (first
              | (go_at_call 9; have hh := (‹ASt w b0 b4 _ _ _ _ _ _ _ _ _ ∧ _›).1; refine (own_raw _ _ _ _ _ _ _ _ _ _ _ _ _ _ _ _ _).mono ?_; rintro e w9 ⟨rfl, hb⟩; clear hh)
              | (go_at_call 15; have hh := (‹ASt w b0 b4 _ _ _ _ _ _ _ _ _ ∧ _›).1; refine (psame_refl _ _ { d with pl := PL } _ hh.p4 hh.p1).mono ?_; rintro e w9 ⟨rfl, hb⟩; clear hh))
            have hh := (‹ASt w b0 b4 _ _ _ _ _ _ _ _ _ ∧ _›).1
            go_wp2_with fail
            exact HQ.out _ _ ⟨rfl, by rw [← HB0.out]; exact hh.below⟩
          · have hcap' : E.length - d.pl.length ≤ cb := by omega
            have hP5 := ((HPc.out ((Ab.map (fun x => x.add (E.length - d.pl.length)))) ((cb - (E.length - d.pl.length))) (.inr rfl) (by omega) (by unfold maxLen; omega)).fr HF34.out (fun _ _ _ h => h)).fr HF45.out (fun _ _ _ h => h)
            have hset := obj_set HX5.out 9 (.slice (Ab.map (fun x => x.add (E.length - d.pl.length))) (cut - (E.length - d.pl.length)) (cb - (E.length - d.pl.length)))
            have hfs : Fr (F1 w.heap.size) (w4.alloc (.cells #[.bool d.m, .int .u8 (d.ty : Nat), .int .u16 (d.seq : Nat), .int .u32 (d.st : Nat), .int .u32 (d.so : Nat), .slice Qs d.srcs.length qs, .bool d.has, .int .u16 (d.prof : Nat), .slice Qe d.ex.length qe, .slice Qp (cut - (E.length - d.pl.length)) qp] 29 (0, 0))) ((w4.alloc (.cells #[.bool d.m, .int .u8 (d.ty : Nat), .int .u16 (d.seq : Nat), .int .u32 (d.st : Nat), .int .u32 (d.so : Nat), .slice Qs d.srcs.length qs, .bool d.has, .int .u16 (d.prof : Nat), .slice Qe d.ex.length qe, .slice Qp (cut - (E.length - d.pl.length)) qp] 29 (0, 0))).setCell ⟨w.heap.size, 9, none⟩ (.slice (Ab.map (fun x => x.add (E.length - d.pl.length))) (cut - (E.length - d.pl.length)) (cb - (E.length - d.pl.length)))) := Fr.setCell _ ⟨w.heap.size, 9, none⟩ _
            have hlt4 := obj_lt HX4.out
            have hlt2 := HLt2.out
            have hlt3 := HLt3.out
            have hP6 := hP5.fr hfs (fun k _ hk (h : k = w.heap.size) => by have hk2 : w2.heap.size ≤ k := hk; omega)
            have hB6 := HB5.out.trans (hfs.below HB5.out.size (fun k (h : k = w.heap.size) => by omega))
            have hV6 := HV.out.below hB6
            have hQ6 := (HQv.out.fr hfs (fun k _ hk (h : k = w.heap.size) => by omega)).pv
            have HA : Hid (ASt w w.heap.size w4.heap.size (.cells #[.bool d.m, .int .u8 (d.ty : Nat), .int .u16 (d.seq : Nat), .int .u32 (d.st : Nat), .int .u32 (d.so : Nat), .slice As d.srcs.length cs, .bool d.has, .int .u16 (d.prof : Nat), .slice Ae d.ex.length ce, .slice (Ab.map (fun x => x.add (E.length - d.pl.length))) (cut - (E.length - d.pl.length)) (cb - (E.length - d.pl.length))] 29 (0, 0)) (.cells #[.bool d.m, .int .u8 (d.ty : Nat), .int .u16 (d.seq : Nat), .int .u32 (d.st : Nat), .int .u32 (d.so : Nat), .slice Qs d.srcs.length qs, .bool d.has, .int .u16 (d.prof : Nat), .slice Qe d.ex.length qe, .slice Qp (cut - (E.length - d.pl.length)) qp] 29 (0, 0)) (.slice none 0 0) [] (.agg #[.bool d.m, .int .u8 (d.ty : Nat), .int .u16 (d.seq : Nat), .int .u32 (d.st : Nat), .int .u32 (d.so : Nat), .slice As d.srcs.length cs, .bool d.has, .int .u16 (d.prof : Nat), .slice Ae d.ex.length ce, .slice (Ab.map (fun x => x.add (E.length - d.pl.length))) (cut - (E.length - d.pl.length)) (cb - (E.length - d.pl.length))]) { d with pl := PL } (.agg #[.bool d.m, .int .u8 (d.ty : Nat), .int .u16 (d.seq : Nat), .int .u32 (d.st : Nat), .int .u32 (d.so : Nat), .slice Qs d.srcs.length qs, .bool d.has, .int .u16 (d.prof : Nat), .slice Qe d.ex.length qe, .slice Qp (cut - (E.length - d.pl.length)) qp]) { d with pl := PL } ((w4.alloc (.cells #[.bool d.m, .int .u8 (d.ty : Nat), .int .u16 (d.seq : Nat), .int .u32 (d.st : Nat), .int .u32 (d.so : Nat), .slice Qs d.srcs.length qs, .bool d.has, .int .u16 (d.prof : Nat), .slice Qe d.ex.length qe, .slice Qp (cut - (E.length - d.pl.length)) qp] 29 (0, 0))).setCell ⟨w.heap.size, 9, none⟩ (.slice (Ab.map (fun x => x.add (E.length - d.pl.length))) (cut - (E.length - d.pl.length)) (cb - (E.length - d.pl.length))))) := Lib.hid (by
              refine ⟨by simpa using hset, hfs.heap HY5.out (fun (h : w4.heap.size = w.heap.size) => by omega), BS.nil _, ?_, hQ6, hB6⟩
              obtain ⟨v1, v2, v3, he, s1, s2, _⟩ := hV6
              unfold pcells at he
              simp only [Value.agg.injEq, Array.mk.injEq, List.cons.injEq, true_and, and_true] at he
              obtain ⟨h1, h2, _⟩ := he
              exact ⟨_, _, _, rfl, by rw [h1]; exact s1, by rw [h2]; exact s2, hP6.1⟩)
            clear hP5 hset hfs hP6 hB6 hV6 hQ6 hlt4 hlt2 hlt3
            go_wp2_with fail
            generalize (w4.alloc (.cells #[.bool d.m, .int .u8 (d.ty : Nat), .int .u16 (d.seq : Nat), .int .u32 (d.st : Nat), .int .u32 (d.so : Nat), .slice Qs d.srcs.length qs, .bool d.has, .int .u16 (d.prof : Nat), .slice Qe d.ex.length qe, .slice Qp (cut - (E.length - d.pl.length)) qp] 29 (0, 0))).setCell ⟨w.heap.size, 9, none⟩ (.slice (Ab.map (fun x => x.add (E.length - d.pl.length))) (cut - (E.length - d.pl.length)) (cb - (E.length - d.pl.length))) = wz at *
            generalize hb0 : w.heap.size = b0 at *
            have HB0 := Lib.hid hb0
            clear hb0
            generalize w4.heap.size = b4 at *
            go_region_held3 (fun w' => ASt w b0 b4 (.cells #[.bool d.m, .int .u8 (d.ty : Nat), .int .u16 (d.seq : Nat), .int .u32 (d.st : Nat), .int .u32 (d.so : Nat), .slice As d.srcs.length cs, .bool d.has, .int .u16 (d.prof : Nat), .slice Ae d.ex.length ce, .slice (Ab.map (fun x => x.add (E.length - d.pl.length))) (cut - (E.length - d.pl.length)) (cb - (E.length - d.pl.length))] 29 (0, 0)) (.cells #[.bool d.m, .int .u8 (d.ty : Nat), .int .u16 (d.seq : Nat), .int .u32 (d.st : Nat), .int .u32 (d.so : Nat), .slice Qs d.srcs.length qs, .bool d.has, .int .u16 (d.prof : Nat), .slice Qe d.ex.length qe, .slice Qp (cut - (E.length - d.pl.length)) qp] 29 (0, 0)) (.slice none 0 0) [] (.agg #[.bool d.m, .int .u8 (d.ty : Nat), .int .u16 (d.seq : Nat), .int .u32 (d.st : Nat), .int .u32 (d.so : Nat), .slice As d.srcs.length cs, .bool d.has, .int .u16 (d.prof : Nat), .slice Ae d.ex.length ce, .slice (Ab.map (fun x => x.add (E.length - d.pl.length))) (cut - (E.length - d.pl.length)) (cb - (E.length - d.pl.length))]) { d with pl := PL } (.agg #[.bool d.m, .int .u8 (d.ty : Nat), .int .u16 (d.seq : Nat), .int .u32 (d.st : Nat), .int .u32 (d.so : Nat), .slice Qs d.srcs.length qs, .bool d.has, .int .u16 (d.prof : Nat), .slice Qe d.ex.length qe, .slice Qp (cut - (E.length - d.pl.length)) qp]) { d with pl := PL } w' ∧ w'.cell? ⟨b0, 0, none⟩ = some (.bool d.m) ∧ w'.cell? ⟨b0, 1, none⟩ = some (.int .u8 (d.ty : Nat)) ∧ w'.cell? ⟨b0, 2, none⟩ = some (.int .u16 (d.seq : Nat)) ∧ w'.cell? ⟨b0, 3, none⟩ = some (.int .u32 (d.st : Nat)) ∧ w'.cell? ⟨b0, 4, none⟩ = some (.int .u32 (d.so : Nat)) ∧ w'.cell? ⟨b0, 5, none⟩ = some (.slice As d.srcs.length cs) ∧ w'.cell? ⟨b0, 6, none⟩ = some (.bool d.has) ∧ w'.cell? ⟨b0, 7, none⟩ = some (.int .u16 (d.prof : Nat)) ∧ w'.cell? ⟨b0, 8, none⟩ = some (.slice Ae d.ex.length ce) ∧ w'.cell? ⟨b0, 9, none⟩ = some (.slice (Ab.map (fun x => x.add (E.length - d.pl.length))) (cut - (E.length - d.pl.length)) (cb - (E.length - d.pl.length))) ∧ w'.cell? ⟨b4, 0, none⟩ = some (.bool d.m) ∧ w'.cell? ⟨b4, 1, none⟩ = some (.int .u8 (d.ty : Nat)) ∧ w'.cell? ⟨b4, 2, none⟩ = some (.int .u16 (d.seq : Nat)) ∧ w'.cell? ⟨b4, 3, none⟩ = some (.int .u32 (d.st : Nat)) ∧ w'.cell? ⟨b4, 4, none⟩ = some (.int .u32 (d.so : Nat)) ∧ w'.cell? ⟨b4, 5, none⟩ = some (.slice Qs d.srcs.length qs) ∧ w'.cell? ⟨b4, 6, none⟩ = some (.bool d.has) ∧ w'.cell? ⟨b4, 7, none⟩ = some (.int .u16 (d.prof : Nat)) ∧ w'.cell? ⟨b4, 8, none⟩ = some (.slice Qe d.ex.length qe) ∧ w'.cell? ⟨b4, 9, none⟩ = some (.slice Qp (cut - (E.length - d.pl.length)) qp)) (first | exact (((‹ASt w b0 b4 _ _ _ _ _ _ _ _ _ ∧ _›).1).after (by assumption)).cells | exact (HA.out.drew).cells) (first
              | (go_at_call 9; have hh := (‹ASt w b0 b4 _ _ _ _ _ _ _ _ _ ∧ _›).1; refine (own_raw _ _ _ _ _ _ _ _ _ _ _ _ _ _ _ _ _).mono ?_; rintro e w9 ⟨rfl, hb⟩; clear hh)
              | (go_at_call 15; have hh := (‹ASt w b0 b4 _ _ _ _ _ _ _ _ _ ∧ _›).1; refine (psame_refl _ _ { d with pl := PL } _ hh.p4 hh.p1).mono ?_; rintro e w9 ⟨rfl, hb⟩; clear hh))
            have hh := (‹ASt w b0 b4 _ _ _ _ _ _ _ _ _ ∧ _›).1
            go_wp2_with fail
            exact HQ.out _ _ ⟨rfl, by rw [← HB0.out]; exact hh.below⟩
      · have hcE' : ((E.length : Int) < (cut : Int)) := by omega
        go_wp2_with fail
        exact HQ.out _ _ ⟨rfl, HB3.out⟩
    · rw [show rightB d = false by simpa using hr] at hvb ⊢
      rw [if_neg (by decide)] at hvb
      rw [if_neg (by decide)]
      obtain ⟨Ab, cb, rfl, hcb, hcb2, hrb⟩ := bs_parts hvb.1
      clear hvb hrb hr
      go_wp2_with fail
      exact HQ.out _ _ ⟨rfl, HB3.out⟩
theorem cuts_law (v : Value) (d : PD) (cut : Int) (w : World) (h : PV w v d ∧ d.Wf) (hc : Fits 256 cut) :
    Calls Try.prog 4 #[v, .int .u8 cut] w fun r w' => r = .returned (.bool true) ∧ Below w.heap.size w w' := by
  obtain ⟨n, rfl⟩ := Int.eq_ofNat_of_zero_le hc.lo
  exact cuts_walk v d n w h.1 h.2 (by have := hc.hi; omega)
end Go.Proofs.Ytphaehponljofaa
