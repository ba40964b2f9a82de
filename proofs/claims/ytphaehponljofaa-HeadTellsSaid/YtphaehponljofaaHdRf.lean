/- The walk of head.Read, of bytes whose first one is fine. -/
import Derived.Test.YtphaehponljofaaHdRe
namespace Go.Proofs.Ytphaehponljofaa
open Go.RowKit

/-- the packet's cells, read so far -/
abbrev hd29 (l : List UInt8) (sv has prof ve vp : Value) : Obj :=
  T29o (.bool (decide (128 ≤ secondN l))) (.int .u8 ((secondN l : Int) % 128)) (.int .u16 (rdN 2 (l.drop 2) : Nat)) (.int .u32 (rdN 4 (l.drop 4) : Nat)) (.int .u32 (rdN 4 (l.drop 8) : Nat)) sv has prof ve vp
set_option maxHeartbeats 2000000 in
theorem hread_fine (v : Value) (l : List UInt8) (w : World) (hv : BS w v l) (h : 12 ≤ l.length) (h2 : l.length ≤ 200) (hf : ¬ (firstN l < 128 ∨ 191 < firstN l)) :
    Calls Try.prog 10 #[v] w (ReadPost w l) := by
  have hv0 := hv.below (below_alloc zero29)
  have hE := Lib.hid (read_fine l h h2 hf)
  have hn := new_any v l _ hv0 (by omega)
  obtain ⟨A, c, rfl, hc, hcm, hr⟩ := bs_parts hv
  have HN := Lib.hid hn
  have HX := Lib.hid (heap_alloc_new w zero29)
  have HR := Lib.hid hr
  clear hv hr hv0 hn
  have hl : ¬ (200 : Int) < (l.length : Int) := by omega
  have hl2 : ¬ (l.length : Int) < 12 := by omega
  have hflt := firstN_lt l
  have hu := u64_id (u64n _ hflt)
  have hq : (((firstN l / 2 ^ 6 % 2 ^ 2 : Nat) : Int) != 2) = false := by simp; omega
  have hfl := fun w => fld_any (firstN l) 6 2 hflt (by omega) (by omega) w
  generalize firstN l / 2 ^ 6 % 2 ^ 2 = fq at *
  have hfl2 := fun w => fld_any (firstN l) 0 4 hflt (by omega) (by omega) w
  rw [show firstN l / 2 ^ 0 % 2 ^ 4 = firstN l % 16 by omega] at hfl2
  have HFl := Lib.hid hfl
  have HFl2 := Lib.hid hfl2
  clear hfl hf hfl2
  refine calls_q fun Q HQ => ?_
  go_enter Try.func10, Try.ntmps10
  go_wp2_with fail
  refine HN.out.mono ?_
  rintro r w1 ⟨rb, rfl, hr, hb, hsz⟩
  have HB := Lib.hid hb
  have HS := Lib.hid (show RSt w1 (w.alloc zero29).heap.size rb (l.drop 0) 0 w1 from ⟨hr, Fr.refl _ _⟩)
  have hrb := hr.lt
  clear hr hb
  go_wp2_with fail
  refine (rbyte_at HS.out (m := 1) (by omega) rfl).mono ?_
  rintro r w2 ⟨rfl, hs⟩
  rw [show rdN 1 (l.drop 0) = firstN l from rfl]
  have HS2 := Lib.hid hs
  clear hs
  go_wp2_with fail
  refine (HFl.out _).mono ?_
  rintro r w3 ⟨rfl, n1, rfl⟩
  go_wp2_with fail
  have hs3 := HS2.out.fr0 (Fr.drewN w2 n1)
  refine (rhead_any _ _ l _ hs3.rd h).mono ?_
  rintro r w4 ⟨rfl, hrd, hfr⟩
  have hf14 := hs3.fr.trans hfr (fun _ h => .inl h)
  have HR4 := Lib.hid hrd
  have HF4 := Lib.hid hf14
  clear hs3 hrd hfr hf14
  go_wp2_with fail
  have hsz2 := World.size_alloc w zero29
  have hp0 : PSt w (w.alloc zero29).heap.size rb w4.heap.size (l.drop 12) 0 (hd29 l (.slice none 0 0) (.bool false) (.int .u16 0) (.slice none 0 0) (.slice none 0 0)) (.slice none 0 0) [] (w4.alloc (hd29 l (.slice none 0 0) (.bool false) (.int .u16 0) (.slice none 0 0) (.slice none 0 0))) := by
    have ha := Fr.alloc w4 (hd29 l (.slice none 0 0) (.bool false) (.int .u16 0) (.slice none 0 0) (.slice none 0 0))
    have hb0 := (below_alloc (w := w) zero29).trans (HB.out.mono (by simp))
    have hb1 := hb0.trans (HF4.out.below hb0.size (fun k (hk : k = rb) => by omega))
    have hrb4 := HR4.out.lt
    exact ⟨HR4.out.fr0 ha, heap_alloc_new w4 _, ha.heap (HF4.out.heap ((Fr.of HB.out).heap HX.out (fun h => h)) (fun (h : w.heap.size = rb) => by omega)) (fun h => h), World.ownsRow_nil _ _ _ _, hb1.alloc hb1.size _, by omega, by omega, by omega⟩
  have HP0 := Lib.hid hp0
  have hlo : (w.alloc zero29).heap.size = w.heap.size + 1 := by simp
  clear hp0
  refine (HFl2.out _).mono ?_
  rintro r w5 ⟨rfl, n2, rfl⟩
  have HP := Lib.hid (HP0.out.fr0 (Fr.drewN _ n2))
  generalize (w4.alloc (hd29 l (.slice none 0 0) (.bool false) (.int .u16 0) (.slice none 0 0) (.slice none 0 0))).drewN n2 = w5 at *
  generalize w4.heap.size = pb at *
  clear HP0 HFl HFl2 HR4 HF4 HS HS2 HN HX hsz hrb
  go_wp2_with fail
  have hc16 : firstN l % 16 < 16 := Nat.mod_lt _ (by decide)
  go_loopw [31] (fun i wr => ∃ (j : Nat) (sv : Value), j ≤ firstN l % 16 ∧ i = .int .u64 j ∧ PSt w (w.alloc zero29).heap.size rb pb (itR j (l.drop 12)) (itE j (l.drop 12) 0) (hd29 l sv (.bool false) (.int .u16 0) (.slice none 0 0) (.slice none 0 0)) sv (itS j (l.drop 12)) wr) (fun i _ => firstN l % 16 - (intOf i).toNat)
  case atStart => exact ⟨0, (.slice none 0 0), Nat.zero_le _, rfl, HP.out⟩
  case round =>
    obtain ⟨j, sv, hj, rfl, hs⟩ := hrel
    obtain ⟨A5, c5, rfl⟩ := own_slice hs.own
    have hjl := itS_len j (l.drop 12)
    rw [hjl] at hs
    have HSt := Lib.hid hs
    clear hs
    by_cases hlt : j < firstN l % 16
    · have hjc : (j : Int) < ((firstN l % 16 : Nat) : Int) := by omega
      go_wp2_with fail
      have HD := Lib.hid (HSt.out.fr0 (Fr.drew wr))
      have k5 := (ten_cells HD.out.p).2.2.2.2.2.1
      go_region_law (first
        | (refine step_app rfl (.tmp 34) (.tmp 37) 26 rfl (pb + 1) 23 (.int .u32 0) 4 Try.underlying26 (by kernel_rfl) rfl _ _ _ rfl HA.out.own _ _ _ _ rfl (src_one w6 _ _) (one_u32 _) (by unfold maxLen; omega) (by omega) HAb.out ?_
           intro v' w7 hown hg hblk
           obtain ⟨A7, c7, rfl⟩ := own_slice hown
           have HP7 := Lib.hid (HA.out.app hown hg)
           have k57 := (ten_cells HP7.out.p).2.2.2.2.2.1
           have z57 := (ten_frozen HP7.out.p).2.2.2.2.2.1
           clear hown hg hblk)
        | (go_simp
           go_at_call 30
           refine (rnum_any _ _ _ _ _ HD.out.rd).mono ?_
           rintro r w6 ⟨rfl, hp⟩
           have HC := Lib.hid (HD.out.call hp)
           have k56 := (ten_cells HC.out.p).2.2.2.2.2.1
           have HA := Lib.hid (HC.out.fr0 (Fr.alloc w6 (.cells #[.int .u32 (rdN 4 (itR j (l.drop 12)) : Nat)] 23)))
           have k56a := (ten_cells HA.out.p).2.2.2.2.2.1
           have HAb := Lib.hid (show pb + 1 ≤ (w6.alloc (.cells #[.int .u32 (rdN 4 (itR j (l.drop 12)) : Nat)] 23)).heap.size by rw [World.size_alloc]; have := obj_lt HC.out.p; omega)
           clear hp))
      all_goals
        (have hn := HP7.out.set5 (.slice A7 (j + 1) c7)
         rw [hjl] at hn
         have HN7 := Lib.hid hn
         clear hn
         go_wp2_with fail
         go_roundw
         case rel => exact ⟨j + 1, .slice A7 (j + 1) c7, by omega, by go_num, HN7.out⟩
         case measure => simp [intOf]; omega)
    · have : j = firstN l % 16 := by omega
      subst this
      have hS : PSt w (w.alloc zero29).heap.size rb pb (rd2L l) (rd2E l) (hd29 l (.slice A5 (firstN l % 16) c5) (.bool false) (.int .u16 0) (.slice none 0 0) (.slice none 0 0)) (.slice A5 (firstN l % 16) c5) (itS (firstN l % 16) (l.drop 12)) wr := HSt.out
      have HS := Lib.hid hS
      clear hS HSt HP
      have hq4 : (((firstN l / 2 ^ 4 % 2 ^ 1 : Nat) : Int) == 1) = hasB l := by unfold hasB; rw [Bool.eq_iff_iff]; simp; omega
      have hf4 := fun w => fld_any (firstN l) 4 1 hflt (by omega) (by omega) w
      generalize firstN l / 2 ^ 4 % 2 ^ 1 = fq4 at *
      have HF4 := Lib.hid hf4
      clear hf4
      go_wp2_with fail
      refine (HF4.out _).mono ?_
      rintro r w5 ⟨rfl, n4, rfl⟩
      have HSd := Lib.hid (HS.out.fr0 (Fr.drewN _ n4))
      clear HS HF4
      have HS := HSd
      clear HSd
      generalize wr.drewN n4 = wx at *
      cases hhs : hasB l
      · rw [hhs] at hq4
        have d1 : rd3L l = rd2L l := by unfold rd3L; rw [hhs]; simp
        have d2 : rd3E l = rd2E l := by unfold rd3E; rw [hhs]; simp
        have HExt := Lib.hid (show extOf l = srcsOf l by unfold extOf; rw [hhs]; simp)
        rw [← d1, ← d2] at HS
        clear hhs d1 d2
        have HEx := Lib.hid (BSx.nil (fun k => (w.alloc zero29).heap.size ≤ k ∧ k < rb) wx)
        have hq5 : (((firstN l / 2 ^ 5 % 2 ^ 1 : Nat) : Int) == 1) = padB l := by unfold padB; rw [Bool.eq_iff_iff]; simp; omega
        have hf5 := fun w => fld_any (firstN l) 5 1 hflt (by omega) (by omega) w
        generalize firstN l / 2 ^ 5 % 2 ^ 1 = fq5 at *
        go_wp2_with fail
        refine (hf5 _).mono ?_
        rintro r w6 ⟨rfl, n5, rfl⟩
        have HSd := Lib.hid (HS.out.fr0 (Fr.drewN _ n5))
        have HExd := Lib.hid (HEx.out.fr (Fr.drewN _ n5) (fun _ _ _ h => h))
        clear HS HEx hf5
        have HS := HSd
        have HEx := HExd
        clear HSd HExd
        generalize wx.drewN n5 = wy at *
        cases hpd : padB l
        · rw [hpd] at hq5
          have d1 : rd4L l = rd3L l := by unfold rd4L; rw [hpd]; simp
          have d2 : rd4E l = rd3E l := by unfold rd4E; rw [hpd]; simp
          have d3 : rd4N l = 0 := by unfold rd4N; rw [hpd]; simp
          rw [← d1, ← d2] at HS
          have D3 := Lib.hid d3
          clear hpd d1 d2 d3
          have hle := rd4_le l
          have hlen := rd4_len l
          go_wp2_with fail
          refine (rleft_any _ _ _ _ _ HS.out.rd).mono ?_
          rintro r w8 ⟨rfl, rfl⟩
          go_wp2_with fail
          obtain ⟨e1, e2, e3⟩ := raw_rest (rd4L l) (rd4N l) (rd4E l) hle
          have hc1 := rraw_any _ _ ((rd4L l).length - rd4N l) _ _ _ HS.out.rd (by omega)
          rw [show (((rd4L l).length - rd4N l : Nat) : Int) = ((rd4L l).length : Int) by (have D := D3.out; omega)] at hc1
          refine hc1.mono ?_
          rintro r w9 ⟨vp, rfl, hvp, hrp⟩
          rw [e1] at hvp
          generalize hPL : (rd4L l).take ((rd4L l).length - rd4N l) = PL at hvp
          have HPLe := Lib.hid hPL
          clear hPL
          have HPl := Lib.hid hvp
          have HEx9 := Lib.hid (HEx.out.keep hrp.2 (Nat.le_refl _))
          have HS9 := Lib.hid (HS.out.call hrp)
          clear hc1 hvp hrp
          obtain ⟨Ap, cp, hvpe, _, _, _⟩ := bs_parts HPl.out.1
          subst hvpe
          obtain ⟨z0, z1, z2, z3, z4, z5, z6, z7, z8, z9⟩ := ten_frozen HS9.out.p
          obtain ⟨k0, k1, k2, k3, k4, k5, k6, k7, k8, k9⟩ := ten_cells HS9.out.p
          have hs10 := HS9.out.set9 (.slice Ap PL.length cp)
          have hfp : Fr (F1 pb) w9 (w9.setCell ⟨pb, 9, none⟩ (.slice Ap PL.length cp)) := Fr.setCell w9 ⟨pb, 9, none⟩ _
          have HPl10 := Lib.hid (HPl.out.keep hfp (Nat.le_of_lt HS9.out.opb))
          have HEx10 := Lib.hid (HEx9.out.keep hfp (Nat.le_of_lt HS9.out.opb))
          have HS10 := Lib.hid hs10
          clear hs10 hfp
          go_wp2_with fail
          have hc2 := rraw_any _ _ (rd4N l) _ _ _ HS10.out.rd (by omega)
          rw [show ((rd4N l : Nat) : Int) = 0 by (have D := D3.out; omega)] at hc2
          refine Calls.mono hc2 ?_
          rintro r w11 ⟨vq, rfl, _, hrp⟩
          have hs11 := HS10.out.call hrp
          rw [e2, e3] at hs11
          have HS11 := Lib.hid hs11
          have HPl11 := Lib.hid (HPl10.out.keep hrp.2 (Nat.le_refl _))
          have HEx11 := Lib.hid (HEx10.out.keep hrp.2 (Nat.le_refl _))
          clear hs11 hrp hc2 k0 k1 k2 k3 k4 k5 k6 k7 k8 k9 z0 z1 z2 z3 z4 z5 z6 z7 z8 z9
          go_wp2_with fail
          have hce := rend_any _ _ _ _ _ HS11.out.rd
          rw [endE_nil] at hce
          refine hce.mono ?_
          rintro r w12 ⟨rfl, rfl⟩
          clear hce
          obtain ⟨z0, z1, z2, z3, z4, z5, z6, z7, z8, z9⟩ := ten_frozen HS11.out.res
          by_cases he : rd4E l = 0
          · have he' : (rd4E l != 0) = false := by simp [he]
            obtain ⟨k0, k1, k2, k3, k4, k5, k6, k7, k8, k9⟩ := ten_cells HS11.out.p
            obtain ⟨m0, m1, m2, m3, m4, m5, m6, m7, m8, m9⟩ := ten_cells HS11.out.res
            have HEq := Lib.hid he
            clear he
            go_wp2_with fail
            generalize hW : World.setCell _ _ _ = wf
            obtain ⟨hx, hfx⟩ := obj_set10 HS11.out.res _ _ _ _ _ _ _ _ _ _ wf hW.symm
            clear hW m0 m1 m2 m3 m4 m5 m6 m7 m8 m9 z0 z1 z2 z3 z4 z5 z6 z7 z8 z9
            obtain ⟨m0, m1, m2, m3, m4, m5, m6, m7, m8, m9⟩ := ten_cells hx
            have hlo2 := HS11.out.olo
            have hlo3 := HS11.out.orb
            have hlo4 := HS11.out.opb
            refine bodyPost_ret (v := .tuple #[.agg #[.bool (decide (128 ≤ secondN l)), .int .u8 ((secondN l : Int) % 128), .int .u16 (rdN 2 (l.drop 2) : Nat), .int .u32 (rdN 4 (l.drop 4) : Nat), .int .u32 (rdN 4 (l.drop 8) : Nat), .slice A5 (firstN l % 16) c5, (.bool false), (.int .u16 0), (.slice none 0 0), .slice Ap PL.length cp], .int .i64 0]) (by simp [results, Try.results10, go_sem, m0, m1, m2, m3, m4, m5, m6, m7, m8, m9]; try rfl) rfl ?_
            exact HQ.out _ _ (read_yes hE.out HEq.out (by rw [HExt.out]; rfl) (by rw [HExt.out]; rfl) (by rw [HExt.out]; rfl) HPLe.out ((own_svx (hfx.own HS11.out.own (fun k hk (h : k = w.heap.size) => by have := (HS11.out.own.lt k hk).1; omega))).mono (fun k _ hk => by omega))
              ((HEx11.out.fr hfx (fun k _ hk (h : k = w.heap.size) => by omega)).mono (fun k _ hk => by omega)) ((HPl11.out.fr hfx (fun k _ hk (h : k = w.heap.size) => by omega)).mono (fun k _ hk => by omega)) (HS11.out.below.trans (hfx.below HS11.out.below.size (fun k (hk : k = w.heap.size) => by omega))))
          · have he' : (rd4E l != 0) = true := by simp [he]
            obtain ⟨m0, m1, m2, m3, m4, m5, m6, m7, m8, m9⟩ := ten_cells HS11.out.res
            have HEq := Lib.hid he
            clear he
            go_wp2_with fail
            generalize hW : World.setCell _ _ _ = wf
            obtain ⟨hx, hfx⟩ := obj_set10 HS11.out.res _ _ _ _ _ _ _ _ _ _ wf hW.symm
            clear hW m0 m1 m2 m3 m4 m5 m6 m7 m8 m9 z0 z1 z2 z3 z4 z5 z6 z7 z8 z9
            obtain ⟨m0, m1, m2, m3, m4, m5, m6, m7, m8, m9⟩ := ten_cells hx
            refine bodyPost_ret (v := .tuple #[zeroV, .int .i64 (rd4E l)]) (by simp [results, Try.results10, go_sem, m0, m1, m2, m3, m4, m5, m6, m7, m8, m9]; try rfl) rfl ?_
            exact HQ.out _ _ (read_no hE.out HEq.out (HS11.out.below.trans (hfx.below HS11.out.below.size (fun k (hk : k = w.heap.size) => by omega))))
        · rw [hpd] at hq5
          have d1 : rd4L l = padL (rd3L l) (lastB l) := by unfold rd4L; rw [hpd]; simp
          have d2 : rd4E l = padE (rd3L l) (lastB l) (rd3E l) := by unfold rd4E; rw [hpd]; simp
          have d3 : rd4N l = padN (rd3L l) (lastB l) := by unfold rd4N; rw [hpd]; simp
          have D1 := Lib.hid d1
          have D2 := Lib.hid d2
          have D3 := Lib.hid d3
          clear hpd d1 d2 d3
          obtain ⟨bb, oo, rfl, hbb, hcell⟩ := (HR.out.below (Nat.le_refl _) HS.out.below) (by omega)
          have hlast := hcell (l.length - 1) (by omega)
          rw [← lastB_eq l (by omega)] at hlast
          have hlb : lastB l < 256 := by rw [lastB_eq l (by omega)]; exact UInt8.toNat_lt _
          clear hcell
          have hi0 : (0 : Int) ≤ (l.length : Int) - 1 := by omega
          have hi1 : (l.length : Int) - 1 < (l.length : Int) := by omega
          have hi2 : ((l.length : Int) - 1).toNat = l.length - 1 := by omega
          go_wp2_with fail
          refine (padding_any _ _ (lastB l) _ _ _ HS.out.rd hlb).mono ?_
          rintro r w7 ⟨rfl, hrp⟩
          have hs7 := HS.out.call hrp
          rw [← D1.out, ← D2.out] at hs7
          rw [← D3.out]
          have HS7 := Lib.hid hs7
          have HEx7 := Lib.hid (HEx.out.keep hrp.2 (Nat.le_refl _))
          clear HS HEx hs7 hrp
          have HS := HS7
          have HEx := HEx7
          clear HS7 HEx7
          have hle := rd4_le l
          have hlen := rd4_len l
          go_wp2_with fail
          refine (rleft_any _ _ _ _ _ HS.out.rd).mono ?_
          rintro r w8 ⟨rfl, rfl⟩
          go_wp2_with fail
          obtain ⟨e1, e2, e3⟩ := raw_rest (rd4L l) (rd4N l) (rd4E l) hle
          have hc1 := rraw_any _ _ ((rd4L l).length - rd4N l) _ _ _ HS.out.rd (by omega)
          rw [show (((rd4L l).length - rd4N l : Nat) : Int) = ((rd4L l).length : Int) - (rd4N l : Int) by (have D := D3.out; omega)] at hc1
          refine hc1.mono ?_
          rintro r w9 ⟨vp, rfl, hvp, hrp⟩
          rw [e1] at hvp
          generalize hPL : (rd4L l).take ((rd4L l).length - rd4N l) = PL at hvp
          have HPLe := Lib.hid hPL
          clear hPL
          have HPl := Lib.hid hvp
          have HEx9 := Lib.hid (HEx.out.keep hrp.2 (Nat.le_refl _))
          have HS9 := Lib.hid (HS.out.call hrp)
          clear hc1 hvp hrp
          obtain ⟨Ap, cp, hvpe, _, _, _⟩ := bs_parts HPl.out.1
          subst hvpe
          obtain ⟨z0, z1, z2, z3, z4, z5, z6, z7, z8, z9⟩ := ten_frozen HS9.out.p
          obtain ⟨k0, k1, k2, k3, k4, k5, k6, k7, k8, k9⟩ := ten_cells HS9.out.p
          have hs10 := HS9.out.set9 (.slice Ap PL.length cp)
          have hfp : Fr (F1 pb) w9 (w9.setCell ⟨pb, 9, none⟩ (.slice Ap PL.length cp)) := Fr.setCell w9 ⟨pb, 9, none⟩ _
          have HPl10 := Lib.hid (HPl.out.keep hfp (Nat.le_of_lt HS9.out.opb))
          have HEx10 := Lib.hid (HEx9.out.keep hfp (Nat.le_of_lt HS9.out.opb))
          have HS10 := Lib.hid hs10
          clear hs10 hfp
          go_wp2_with fail
          have hc2 := rraw_any _ _ (rd4N l) _ _ _ HS10.out.rd (by omega)
          refine Calls.mono hc2 ?_
          rintro r w11 ⟨vq, rfl, _, hrp⟩
          have hs11 := HS10.out.call hrp
          rw [e2, e3] at hs11
          have HS11 := Lib.hid hs11
          have HPl11 := Lib.hid (HPl10.out.keep hrp.2 (Nat.le_refl _))
          have HEx11 := Lib.hid (HEx10.out.keep hrp.2 (Nat.le_refl _))
          clear hs11 hrp hc2 k0 k1 k2 k3 k4 k5 k6 k7 k8 k9 z0 z1 z2 z3 z4 z5 z6 z7 z8 z9
          go_wp2_with fail
          have hce := rend_any _ _ _ _ _ HS11.out.rd
          rw [endE_nil] at hce
          refine hce.mono ?_
          rintro r w12 ⟨rfl, rfl⟩
          clear hce
          obtain ⟨z0, z1, z2, z3, z4, z5, z6, z7, z8, z9⟩ := ten_frozen HS11.out.res
          by_cases he : rd4E l = 0
          · have he' : (rd4E l != 0) = false := by simp [he]
            obtain ⟨k0, k1, k2, k3, k4, k5, k6, k7, k8, k9⟩ := ten_cells HS11.out.p
            obtain ⟨m0, m1, m2, m3, m4, m5, m6, m7, m8, m9⟩ := ten_cells HS11.out.res
            have HEq := Lib.hid he
            clear he
            go_wp2_with fail
            generalize hW : World.setCell _ _ _ = wf
            obtain ⟨hx, hfx⟩ := obj_set10 HS11.out.res _ _ _ _ _ _ _ _ _ _ wf hW.symm
            clear hW m0 m1 m2 m3 m4 m5 m6 m7 m8 m9 z0 z1 z2 z3 z4 z5 z6 z7 z8 z9
            obtain ⟨m0, m1, m2, m3, m4, m5, m6, m7, m8, m9⟩ := ten_cells hx
            have hlo2 := HS11.out.olo
            have hlo3 := HS11.out.orb
            have hlo4 := HS11.out.opb
            refine bodyPost_ret (v := .tuple #[.agg #[.bool (decide (128 ≤ secondN l)), .int .u8 ((secondN l : Int) % 128), .int .u16 (rdN 2 (l.drop 2) : Nat), .int .u32 (rdN 4 (l.drop 4) : Nat), .int .u32 (rdN 4 (l.drop 8) : Nat), .slice A5 (firstN l % 16) c5, (.bool false), (.int .u16 0), (.slice none 0 0), .slice Ap PL.length cp], .int .i64 0]) (by simp [results, Try.results10, go_sem, m0, m1, m2, m3, m4, m5, m6, m7, m8, m9]; try rfl) rfl ?_
            exact HQ.out _ _ (read_yes hE.out HEq.out (by rw [HExt.out]; rfl) (by rw [HExt.out]; rfl) (by rw [HExt.out]; rfl) HPLe.out ((own_svx (hfx.own HS11.out.own (fun k hk (h : k = w.heap.size) => by have := (HS11.out.own.lt k hk).1; omega))).mono (fun k _ hk => by omega))
              ((HEx11.out.fr hfx (fun k _ hk (h : k = w.heap.size) => by omega)).mono (fun k _ hk => by omega)) ((HPl11.out.fr hfx (fun k _ hk (h : k = w.heap.size) => by omega)).mono (fun k _ hk => by omega)) (HS11.out.below.trans (hfx.below HS11.out.below.size (fun k (hk : k = w.heap.size) => by omega))))
          · have he' : (rd4E l != 0) = true := by simp [he]
            obtain ⟨m0, m1, m2, m3, m4, m5, m6, m7, m8, m9⟩ := ten_cells HS11.out.res
            have HEq := Lib.hid he
            clear he
            go_wp2_with fail
            generalize hW : World.setCell _ _ _ = wf
            obtain ⟨hx, hfx⟩ := obj_set10 HS11.out.res _ _ _ _ _ _ _ _ _ _ wf hW.symm
            clear hW m0 m1 m2 m3 m4 m5 m6 m7 m8 m9 z0 z1 z2 z3 z4 z5 z6 z7 z8 z9
            obtain ⟨m0, m1, m2, m3, m4, m5, m6, m7, m8, m9⟩ := ten_cells hx
            refine bodyPost_ret (v := .tuple #[zeroV, .int .i64 (rd4E l)]) (by simp [results, Try.results10, go_sem, m0, m1, m2, m3, m4, m5, m6, m7, m8, m9]; try rfl) rfl ?_
            exact HQ.out _ _ (read_no hE.out HEq.out (HS11.out.below.trans (hfx.below HS11.out.below.size (fun k (hk : k = w.heap.size) => by omega))))
      · rw [hhs] at hq4
        have d1 : rd3L l = rawR (exN l) (rawR 2 (rawR 2 (rd2L l))) := by unfold rd3L; rw [hhs]; simp
        have d2 : rd3E l = rawE (exN l) (rawR 2 (rawR 2 (rd2L l))) (rawE 2 (rawR 2 (rd2L l)) (rawE 2 (rd2L l) (rd2E l))) := by unfold rd3E; rw [hhs]; simp
        have HExt := Lib.hid (show extOf l = { srcsOf l with has := true, prof := rdN 2 (rd2L l), ex := rawL (exN l) (rawR 2 (rawR 2 (rd2L l))) } by unfold extOf; rw [hhs]; simp)
        have D1 := Lib.hid d1
        have D2 := Lib.hid d2
        clear hhs d1 d2
        obtain ⟨z0, z1, z2, z3, z4, z5, z6, z7, z8, z9⟩ := ten_frozen HS.out.p
        obtain ⟨k0, k1, k2, k3, k4, k5, k6, k7, k8, k9⟩ := ten_cells HS.out.p
        have HSa := Lib.hid (HS.out.set6 (.bool true))
        go_wp2_with fail
        refine (rshort_any _ _ _ _ _ HSa.out.rd).mono ?_
        rintro r wa ⟨rfl, hrp⟩
        have HSb := Lib.hid (HSa.out.call hrp)
        clear hrp HS HSa z0 z1 z2 z3 z4 z5 z6 z7 z8 z9 k0 k1 k2 k3 k4 k5 k6 k7 k8 k9
        obtain ⟨z0, z1, z2, z3, z4, z5, z6, z7, z8, z9⟩ := ten_frozen HSb.out.p
        obtain ⟨k0, k1, k2, k3, k4, k5, k6, k7, k8, k9⟩ := ten_cells HSb.out.p
        have HSc := Lib.hid (HSb.out.set7 (.int .u16 (rdN 2 (rd2L l) : Nat)))
        go_wp2_with fail
        refine (rshort_any _ _ _ _ _ HSc.out.rd).mono ?_
        rintro r wb ⟨rfl, hrp⟩
        have HSd := Lib.hid (HSc.out.call hrp)
        clear hrp HSb HSc z0 z1 z2 z3 z4 z5 z6 z7 z8 z9 k0 k1 k2 k3 k4 k5 k6 k7 k8 k9
        have hx16 : rdN 2 (rawR 2 (rd2L l)) < 65536 := rdN_lt 2 _
        go_wp2_with fail
        have hc0 := rraw_any _ _ (exN l) _ _ _ HSd.out.rd (by unfold exN; omega)
        rw [show ((exN l : Nat) : Int) = 4 * (rdN 2 (rawR 2 (rd2L l)) : Int) by unfold exN; omega] at hc0
        refine hc0.mono ?_
        rintro r wc ⟨ve, rfl, hve, hrp⟩
        have hse := HSd.out.call hrp
        rw [← D1.out, ← D2.out] at hse
        have HSe := Lib.hid hse
        generalize hex : rawL (exN l) (rawR 2 (rawR 2 (rd2L l))) = ex at *
        clear hrp hc0 hse HSd
        obtain ⟨Ae, ce, hvee, _, _, _⟩ := bs_parts hve.1
        subst hvee
        obtain ⟨z0, z1, z2, z3, z4, z5, z6, z7, z8, z9⟩ := ten_frozen HSe.out.p
        obtain ⟨k0, k1, k2, k3, k4, k5, k6, k7, k8, k9⟩ := ten_cells HSe.out.p
        have hfp : Fr (F1 pb) wc (wc.setCell ⟨pb, 8, none⟩ (.slice Ae ex.length ce)) := Fr.setCell wc ⟨pb, 8, none⟩ _
        have HEx := Lib.hid (hve.keep hfp (Nat.le_of_lt HSe.out.opb))
        have HS := Lib.hid (HSe.out.set8 (.slice Ae ex.length ce))
        clear hve hfp HSe hex D1 D2
        go_wp2_with fail
        generalize wc.setCell ⟨pb, 8, none⟩ (.slice Ae ex.length ce) = wx2 at *
        clear z0 z1 z2 z3 z4 z5 z6 z7 z8 z9 k0 k1 k2 k3 k4 k5 k6 k7 k8 k9
        have hq5 : (((firstN l / 2 ^ 5 % 2 ^ 1 : Nat) : Int) == 1) = padB l := by unfold padB; rw [Bool.eq_iff_iff]; simp; omega
        have hf5 := fun w => fld_any (firstN l) 5 1 hflt (by omega) (by omega) w
        generalize firstN l / 2 ^ 5 % 2 ^ 1 = fq5 at *
        refine (hf5 _).mono ?_
        rintro r w6 ⟨rfl, n5, rfl⟩
        have HSd := Lib.hid (HS.out.fr0 (Fr.drewN _ n5))
        have HExd := Lib.hid (HEx.out.fr (Fr.drewN _ n5) (fun _ _ _ h => h))
        clear HS HEx hf5
        have HS := HSd
        have HEx := HExd
        clear HSd HExd
        generalize wx2.drewN n5 = wy at *
        cases hpd : padB l
        · rw [hpd] at hq5
          have d1 : rd4L l = rd3L l := by unfold rd4L; rw [hpd]; simp
          have d2 : rd4E l = rd3E l := by unfold rd4E; rw [hpd]; simp
          have d3 : rd4N l = 0 := by unfold rd4N; rw [hpd]; simp
          rw [← d1, ← d2] at HS
          have D3 := Lib.hid d3
          clear hpd d1 d2 d3
          have hle := rd4_le l
          have hlen := rd4_len l
          go_wp2_with fail
          refine (rleft_any _ _ _ _ _ HS.out.rd).mono ?_
          rintro r w8 ⟨rfl, rfl⟩
          go_wp2_with fail
          obtain ⟨e1, e2, e3⟩ := raw_rest (rd4L l) (rd4N l) (rd4E l) hle
          have hc1 := rraw_any _ _ ((rd4L l).length - rd4N l) _ _ _ HS.out.rd (by omega)
          rw [show (((rd4L l).length - rd4N l : Nat) : Int) = ((rd4L l).length : Int) by (have D := D3.out; omega)] at hc1
          refine hc1.mono ?_
          rintro r w9 ⟨vp, rfl, hvp, hrp⟩
          rw [e1] at hvp
          generalize hPL : (rd4L l).take ((rd4L l).length - rd4N l) = PL at hvp
          have HPLe := Lib.hid hPL
          clear hPL
          have HPl := Lib.hid hvp
          have HEx9 := Lib.hid (HEx.out.keep hrp.2 (Nat.le_refl _))
          have HS9 := Lib.hid (HS.out.call hrp)
          clear hc1 hvp hrp
          obtain ⟨Ap, cp, hvpe, _, _, _⟩ := bs_parts HPl.out.1
          subst hvpe
          obtain ⟨z0, z1, z2, z3, z4, z5, z6, z7, z8, z9⟩ := ten_frozen HS9.out.p
          obtain ⟨k0, k1, k2, k3, k4, k5, k6, k7, k8, k9⟩ := ten_cells HS9.out.p
          have hs10 := HS9.out.set9 (.slice Ap PL.length cp)
          have hfp : Fr (F1 pb) w9 (w9.setCell ⟨pb, 9, none⟩ (.slice Ap PL.length cp)) := Fr.setCell w9 ⟨pb, 9, none⟩ _
          have HPl10 := Lib.hid (HPl.out.keep hfp (Nat.le_of_lt HS9.out.opb))
          have HEx10 := Lib.hid (HEx9.out.keep hfp (Nat.le_of_lt HS9.out.opb))
          have HS10 := Lib.hid hs10
          clear hs10 hfp
          go_wp2_with fail
          have hc2 := rraw_any _ _ (rd4N l) _ _ _ HS10.out.rd (by omega)
          rw [show ((rd4N l : Nat) : Int) = 0 by (have D := D3.out; omega)] at hc2
          refine Calls.mono hc2 ?_
          rintro r w11 ⟨vq, rfl, _, hrp⟩
          have hs11 := HS10.out.call hrp
          rw [e2, e3] at hs11
          have HS11 := Lib.hid hs11
          have HPl11 := Lib.hid (HPl10.out.keep hrp.2 (Nat.le_refl _))
          have HEx11 := Lib.hid (HEx10.out.keep hrp.2 (Nat.le_refl _))
          clear hs11 hrp hc2 k0 k1 k2 k3 k4 k5 k6 k7 k8 k9 z0 z1 z2 z3 z4 z5 z6 z7 z8 z9
          go_wp2_with fail
          have hce := rend_any _ _ _ _ _ HS11.out.rd
          rw [endE_nil] at hce
          refine hce.mono ?_
          rintro r w12 ⟨rfl, rfl⟩
          clear hce
          obtain ⟨z0, z1, z2, z3, z4, z5, z6, z7, z8, z9⟩ := ten_frozen HS11.out.res
          by_cases he : rd4E l = 0
          · have he' : (rd4E l != 0) = false := by simp [he]
            obtain ⟨k0, k1, k2, k3, k4, k5, k6, k7, k8, k9⟩ := ten_cells HS11.out.p
            obtain ⟨m0, m1, m2, m3, m4, m5, m6, m7, m8, m9⟩ := ten_cells HS11.out.res
            have HEq := Lib.hid he
            clear he
            go_wp2_with fail
            generalize hW : World.setCell _ _ _ = wf
            obtain ⟨hx, hfx⟩ := obj_set10 HS11.out.res _ _ _ _ _ _ _ _ _ _ wf hW.symm
            clear hW m0 m1 m2 m3 m4 m5 m6 m7 m8 m9 z0 z1 z2 z3 z4 z5 z6 z7 z8 z9
            obtain ⟨m0, m1, m2, m3, m4, m5, m6, m7, m8, m9⟩ := ten_cells hx
            have hlo2 := HS11.out.olo
            have hlo3 := HS11.out.orb
            have hlo4 := HS11.out.opb
            refine bodyPost_ret (v := .tuple #[.agg #[.bool (decide (128 ≤ secondN l)), .int .u8 ((secondN l : Int) % 128), .int .u16 (rdN 2 (l.drop 2) : Nat), .int .u32 (rdN 4 (l.drop 4) : Nat), .int .u32 (rdN 4 (l.drop 8) : Nat), .slice A5 (firstN l % 16) c5, (.bool true), (.int .u16 (rdN 2 (rd2L l) : Nat)), (.slice Ae ex.length ce), .slice Ap PL.length cp], .int .i64 0]) (by simp [results, Try.results10, go_sem, m0, m1, m2, m3, m4, m5, m6, m7, m8, m9]; try rfl) rfl ?_
            exact HQ.out _ _ (read_yes hE.out HEq.out (by rw [HExt.out]) (by rw [HExt.out]) (by rw [HExt.out]) HPLe.out ((own_svx (hfx.own HS11.out.own (fun k hk (h : k = w.heap.size) => by have := (HS11.out.own.lt k hk).1; omega))).mono (fun k _ hk => by omega))
              ((HEx11.out.fr hfx (fun k _ hk (h : k = w.heap.size) => by omega)).mono (fun k _ hk => by omega)) ((HPl11.out.fr hfx (fun k _ hk (h : k = w.heap.size) => by omega)).mono (fun k _ hk => by omega)) (HS11.out.below.trans (hfx.below HS11.out.below.size (fun k (hk : k = w.heap.size) => by omega))))
          · have he' : (rd4E l != 0) = true := by simp [he]
            obtain ⟨m0, m1, m2, m3, m4, m5, m6, m7, m8, m9⟩ := ten_cells HS11.out.res
            have HEq := Lib.hid he
            clear he
            go_wp2_with fail
            generalize hW : World.setCell _ _ _ = wf
            obtain ⟨hx, hfx⟩ := obj_set10 HS11.out.res _ _ _ _ _ _ _ _ _ _ wf hW.symm
            clear hW m0 m1 m2 m3 m4 m5 m6 m7 m8 m9 z0 z1 z2 z3 z4 z5 z6 z7 z8 z9
            obtain ⟨m0, m1, m2, m3, m4, m5, m6, m7, m8, m9⟩ := ten_cells hx
            refine bodyPost_ret (v := .tuple #[zeroV, .int .i64 (rd4E l)]) (by simp [results, Try.results10, go_sem, m0, m1, m2, m3, m4, m5, m6, m7, m8, m9]; try rfl) rfl ?_
            exact HQ.out _ _ (read_no hE.out HEq.out (HS11.out.below.trans (hfx.below HS11.out.below.size (fun k (hk : k = w.heap.size) => by omega))))
        · rw [hpd] at hq5
          have d1 : rd4L l = padL (rd3L l) (lastB l) := by unfold rd4L; rw [hpd]; simp
          have d2 : rd4E l = padE (rd3L l) (lastB l) (rd3E l) := by unfold rd4E; rw [hpd]; simp
          have d3 : rd4N l = padN (rd3L l) (lastB l) := by unfold rd4N; rw [hpd]; simp
          have D1 := Lib.hid d1
          have D2 := Lib.hid d2
          have D3 := Lib.hid d3
          clear hpd d1 d2 d3
          obtain ⟨bb, oo, rfl, hbb, hcell⟩ := (HR.out.below (Nat.le_refl _) HS.out.below) (by omega)
          have hlast := hcell (l.length - 1) (by omega)
          rw [← lastB_eq l (by omega)] at hlast
          have hlb : lastB l < 256 := by rw [lastB_eq l (by omega)]; exact UInt8.toNat_lt _
          clear hcell
          have hi0 : (0 : Int) ≤ (l.length : Int) - 1 := by omega
          have hi1 : (l.length : Int) - 1 < (l.length : Int) := by omega
          have hi2 : ((l.length : Int) - 1).toNat = l.length - 1 := by omega
          go_wp2_with fail
          refine (padding_any _ _ (lastB l) _ _ _ HS.out.rd hlb).mono ?_
          rintro r w7 ⟨rfl, hrp⟩
          have hs7 := HS.out.call hrp
          rw [← D1.out, ← D2.out] at hs7
          rw [← D3.out]
          have HS7 := Lib.hid hs7
          have HEx7 := Lib.hid (HEx.out.keep hrp.2 (Nat.le_refl _))
          clear HS HEx hs7 hrp
          have HS := HS7
          have HEx := HEx7
          clear HS7 HEx7
          have hle := rd4_le l
          have hlen := rd4_len l
          go_wp2_with fail
          refine (rleft_any _ _ _ _ _ HS.out.rd).mono ?_
          rintro r w8 ⟨rfl, rfl⟩
          go_wp2_with fail
          obtain ⟨e1, e2, e3⟩ := raw_rest (rd4L l) (rd4N l) (rd4E l) hle
          have hc1 := rraw_any _ _ ((rd4L l).length - rd4N l) _ _ _ HS.out.rd (by omega)
          rw [show (((rd4L l).length - rd4N l : Nat) : Int) = ((rd4L l).length : Int) - (rd4N l : Int) by (have D := D3.out; omega)] at hc1
          refine hc1.mono ?_
          rintro r w9 ⟨vp, rfl, hvp, hrp⟩
          rw [e1] at hvp
          generalize hPL : (rd4L l).take ((rd4L l).length - rd4N l) = PL at hvp
          have HPLe := Lib.hid hPL
          clear hPL
          have HPl := Lib.hid hvp
          have HEx9 := Lib.hid (HEx.out.keep hrp.2 (Nat.le_refl _))
          have HS9 := Lib.hid (HS.out.call hrp)
          clear hc1 hvp hrp
          obtain ⟨Ap, cp, hvpe, _, _, _⟩ := bs_parts HPl.out.1
          subst hvpe
          obtain ⟨z0, z1, z2, z3, z4, z5, z6, z7, z8, z9⟩ := ten_frozen HS9.out.p
          obtain ⟨k0, k1, k2, k3, k4, k5, k6, k7, k8, k9⟩ := ten_cells HS9.out.p
          have hs10 := HS9.out.set9 (.slice Ap PL.length cp)
          have hfp : Fr (F1 pb) w9 (w9.setCell ⟨pb, 9, none⟩ (.slice Ap PL.length cp)) := Fr.setCell w9 ⟨pb, 9, none⟩ _
          have HPl10 := Lib.hid (HPl.out.keep hfp (Nat.le_of_lt HS9.out.opb))
          have HEx10 := Lib.hid (HEx9.out.keep hfp (Nat.le_of_lt HS9.out.opb))
          have HS10 := Lib.hid hs10
          clear hs10 hfp
          go_wp2_with fail
          have hc2 := rraw_any _ _ (rd4N l) _ _ _ HS10.out.rd (by omega)
          refine Calls.mono hc2 ?_
          rintro r w11 ⟨vq, rfl, _, hrp⟩
          have hs11 := HS10.out.call hrp
          rw [e2, e3] at hs11
          have HS11 := Lib.hid hs11
          have HPl11 := Lib.hid (HPl10.out.keep hrp.2 (Nat.le_refl _))
          have HEx11 := Lib.hid (HEx10.out.keep hrp.2 (Nat.le_refl _))
          clear hs11 hrp hc2 k0 k1 k2 k3 k4 k5 k6 k7 k8 k9 z0 z1 z2 z3 z4 z5 z6 z7 z8 z9
          go_wp2_with fail
          have hce := rend_any _ _ _ _ _ HS11.out.rd
          rw [endE_nil] at hce
          refine hce.mono ?_
          rintro r w12 ⟨rfl, rfl⟩
          clear hce
          obtain ⟨z0, z1, z2, z3, z4, z5, z6, z7, z8, z9⟩ := ten_frozen HS11.out.res
          by_cases he : rd4E l = 0
          · have he' : (rd4E l != 0) = false := by simp [he]
            obtain ⟨k0, k1, k2, k3, k4, k5, k6, k7, k8, k9⟩ := ten_cells HS11.out.p
            obtain ⟨m0, m1, m2, m3, m4, m5, m6, m7, m8, m9⟩ := ten_cells HS11.out.res
            have HEq := Lib.hid he
            clear he
            go_wp2_with fail
            generalize hW : World.setCell _ _ _ = wf
            obtain ⟨hx, hfx⟩ := obj_set10 HS11.out.res _ _ _ _ _ _ _ _ _ _ wf hW.symm
            clear hW m0 m1 m2 m3 m4 m5 m6 m7 m8 m9 z0 z1 z2 z3 z4 z5 z6 z7 z8 z9
            obtain ⟨m0, m1, m2, m3, m4, m5, m6, m7, m8, m9⟩ := ten_cells hx
            have hlo2 := HS11.out.olo
            have hlo3 := HS11.out.orb
            have hlo4 := HS11.out.opb
            refine bodyPost_ret (v := .tuple #[.agg #[.bool (decide (128 ≤ secondN l)), .int .u8 ((secondN l : Int) % 128), .int .u16 (rdN 2 (l.drop 2) : Nat), .int .u32 (rdN 4 (l.drop 4) : Nat), .int .u32 (rdN 4 (l.drop 8) : Nat), .slice A5 (firstN l % 16) c5, (.bool true), (.int .u16 (rdN 2 (rd2L l) : Nat)), (.slice Ae ex.length ce), .slice Ap PL.length cp], .int .i64 0]) (by simp [results, Try.results10, go_sem, m0, m1, m2, m3, m4, m5, m6, m7, m8, m9]; try rfl) rfl ?_
            exact HQ.out _ _ (read_yes hE.out HEq.out (by rw [HExt.out]) (by rw [HExt.out]) (by rw [HExt.out]) HPLe.out ((own_svx (hfx.own HS11.out.own (fun k hk (h : k = w.heap.size) => by have := (HS11.out.own.lt k hk).1; omega))).mono (fun k _ hk => by omega))
              ((HEx11.out.fr hfx (fun k _ hk (h : k = w.heap.size) => by omega)).mono (fun k _ hk => by omega)) ((HPl11.out.fr hfx (fun k _ hk (h : k = w.heap.size) => by omega)).mono (fun k _ hk => by omega)) (HS11.out.below.trans (hfx.below HS11.out.below.size (fun k (hk : k = w.heap.size) => by omega))))
          · have he' : (rd4E l != 0) = true := by simp [he]
            obtain ⟨m0, m1, m2, m3, m4, m5, m6, m7, m8, m9⟩ := ten_cells HS11.out.res
            have HEq := Lib.hid he
            clear he
            go_wp2_with fail
            generalize hW : World.setCell _ _ _ = wf
            obtain ⟨hx, hfx⟩ := obj_set10 HS11.out.res _ _ _ _ _ _ _ _ _ _ wf hW.symm
            clear hW m0 m1 m2 m3 m4 m5 m6 m7 m8 m9 z0 z1 z2 z3 z4 z5 z6 z7 z8 z9
            obtain ⟨m0, m1, m2, m3, m4, m5, m6, m7, m8, m9⟩ := ten_cells hx
            refine bodyPost_ret (v := .tuple #[zeroV, .int .i64 (rd4E l)]) (by simp [results, Try.results10, go_sem, m0, m1, m2, m3, m4, m5, m6, m7, m8, m9]; try rfl) rfl ?_
            exact HQ.out _ _ (read_no hE.out HEq.out (HS11.out.below.trans (hfx.below HS11.out.below.size (fun k (hk : k = w.heap.size) => by omega))))
end Go.Proofs.Ytphaehponljofaa
