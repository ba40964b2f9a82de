/- The walk of the document's reading, of bytes whose first one is fine. -/
import Derived.Test.YtphaehponljofaaHdQ
import Derived.Deep.Cut
namespace Go.Proofs.Ytphaehponljofaa
open Go.RowKit

set_option maxRecDepth 20000 in
set_option maxHeartbeats 8000000 in
theorem rhread_fine (v : Value) (l : List UInt8) (w : World) (hv : BS w v l) (h : 12 ≤ l.length) (h2 : l.length ≤ 200) (hf : ¬ (firstN l < 128 ∨ 191 < firstN l)) :
    Calls Try.prog 11 #[v] w (ReadPost w l) := by
  have hE := Lib.hid (read_fine l h h2 hf)
  have hvx := hv.x
  obtain ⟨A, c, rfl, hc, hcm, hr⟩ := bs_parts hv
  obtain ⟨b, o, rfl, hb, hcell⟩ := hr (by omega)
  have hc0 := hcell 0 (by omega)
  have hc1 := hcell 1 (by omega)
  rw [← rdN1 l (by omega), Nat.add_zero] at hc0
  rw [show rdN 1 l = firstN l from rfl] at hc0
  have hsec : (l[1]'(by omega)).toNat = secondN l := by
    unfold secondN
    rw [rdN1 _ (by simp; omega)]
    simp
  rw [hsec] at hc1
  have HR := Lib.hid hr
  have HVx := Lib.hid hvx
  have HC0 := Lib.hid hc0
  clear hv hr hcell hvx hsec
  have hl : ¬ (200 : Int) < (l.length : Int) := by omega
  have hl2 : ¬ (l.length : Int) < 12 := by omega
  have hl3 : (0 : Int) < (l.length : Int) := by omega
  have hl4 : (1 : Int) < (l.length : Int) := by omega
  have h128 : ¬ (firstN l : Int) < 128 := by omega
  have h191 : ¬ (191 : Int) < (firstN l : Int) := by omega
  have hflt := firstN_lt l
  have hslt := secondN_lt l
  refine calls_q fun Q HQ => ?_
  go_enter Try.func11, Try.ntmps11
  go_wp2_with fail
  have hX := heap_alloc_new w zero38
  have hC1 : (w.alloc zero38).drew.cell? ⟨b, o + 1, none⟩ = some (.int .u8 (secondN l : Nat)) := by
    show (w.alloc zero38).cell? _ = _
    rw [World.cell?_of_block (w := w) (a := ⟨b, o + 1, none⟩) ((Fr.alloc w zero38).block b hb (fun h => h))]
    exact hc1
  have HX := Lib.hid hX
  have HC1 := Lib.hid hC1
  clear hX hC1
  go_region_held3 (fun w' => w'.cell? ⟨b, o + 1, none⟩ = some (.int .u8 (secondN l : Nat))) (first | exact HC1.out | go_keep) (fail)
  rename_i hHl
  clear hHl
  have hm : decide ((128 : Int) ≤ (secondN l : Int)) = decide (128 ≤ secondN l) := by rw [Bool.eq_iff_iff]; simp; omega
  have ht : ((secondN l : Nat) : Int).tmod 128 = (secondN l : Int) % 128 := Int.tmod_eq_emod_of_nonneg (by omega)
  simp only [hm, ht]
  clear hm ht
  have hq0 : QSt w (w.heap.size + 2) (w.heap.size + 1) (.slice (some ⟨b, o, none⟩) l.length c) l (l.drop 2) 0 (T38o (.bool (decide (128 ≤ secondN l))) (.int .u8 ((secondN l : Int) % 128)) (.int .u16 0) (.int .u32 0) (.int .u32 0) (.slice none 0 0) (.bool false) (.int .u16 0) (.slice none 0 0) (.slice none 0 0)) (.slice none 0 0) [] ((((w.alloc zero38).alloc (T38o (.bool (decide (128 ≤ secondN l))) (.int .u8 ((secondN l : Int) % 128)) (.int .u16 0) (.int .u32 0) (.int .u32 0) (.slice none 0 0) (.bool false) (.int .u16 0) (.slice none 0 0) (.slice none 0 0))).drew).alloc (.cells #[.slice (some ⟨b, o, none⟩) l.length c, .int .i64 2, .int .i64 0] 73 (0, 0))) := by
    have ha := Fr.alloc w zero38
    have hb2 := ha.trans (Fr.alloc (w.alloc zero38) (T38o (.bool (decide (128 ≤ secondN l))) (.int .u8 ((secondN l : Int) % 128)) (.int .u16 0) (.int .u32 0) (.int .u32 0) (.slice none 0 0) (.bool false) (.int .u16 0) (.slice none 0 0) (.slice none 0 0))) (fun _ h => .inl h)
    have hb3 := hb2.trans (Fr.drew _) (fun _ h => .inl h)
    have hb4 := hb3.trans (Fr.alloc _ (.cells #[.slice (some ⟨b, o, none⟩) l.length c, .int .i64 2, .int .i64 0] 73 (0, 0))) (fun _ h => .inl h)
    have h1 : (((w.alloc zero38).alloc (T38o (.bool (decide (128 ≤ secondN l))) (.int .u8 ((secondN l : Int) % 128)) (.int .u16 0) (.int .u32 0) (.int .u32 0) (.slice none 0 0) (.bool false) (.int .u16 0) (.slice none 0 0) (.slice none 0 0))).drew).heap.size = w.heap.size + 2 := by simp
    have h0 : (w.alloc zero38).heap.size = w.heap.size + 1 := by simp
    have hres := ((Fr.alloc (w.alloc zero38) (T38o (.bool (decide (128 ≤ secondN l))) (.int .u8 ((secondN l : Int) % 128)) (.int .u16 0) (.int .u32 0) (.int .u32 0) (.slice none 0 0) (.bool false) (.int .u16 0) (.slice none 0 0) (.slice none 0 0))).trans (Fr.drew _) (fun _ h => .inl h) |>.trans (Fr.alloc _ (.cells #[.slice (some ⟨b, o, none⟩) l.length c, .int .i64 2, .int .i64 0] 73 (0, 0))) (fun _ h => .inl h)).heap (heap_alloc_new w zero38) (fun h => h)
    have hp := ((Fr.drew ((w.alloc zero38).alloc (T38o (.bool (decide (128 ≤ secondN l))) (.int .u8 ((secondN l : Int) % 128)) (.int .u16 0) (.int .u32 0) (.int .u32 0) (.slice none 0 0) (.bool false) (.int .u16 0) (.slice none 0 0) (.slice none 0 0)))).trans (Fr.alloc _ (.cells #[.slice (some ⟨b, o, none⟩) l.length c, .int .i64 2, .int .i64 0] 73 (0, 0))) (fun _ h => .inl h)).heap (heap_alloc_new (w.alloc zero38) (T38o (.bool (decide (128 ≤ secondN l))) (.int .u8 ((secondN l : Int) % 128)) (.int .u16 0) (.int .u32 0) (.int .u32 0) (.slice none 0 0) (.bool false) (.int .u16 0) (.slice none 0 0) (.slice none 0 0))) (fun h => h)
    have hrd := heap_alloc_new (((w.alloc zero38).alloc (T38o (.bool (decide (128 ≤ secondN l))) (.int .u8 ((secondN l : Int) % 128)) (.int .u16 0) (.int .u32 0) (.int .u32 0) (.slice none 0 0) (.bool false) (.int .u16 0) (.slice none 0 0) (.slice none 0 0))).drew) (.cells #[.slice (some ⟨b, o, none⟩) l.length c, .int .i64 2, .int .i64 0] 73 (0, 0))
    rw [h1] at hrd
    rw [h0] at hp
    have hvb := HVx.out.fr hb4 (fun _ _ _ h => h)
    exact ⟨⟨2, hrd, by omega, hvb.mono (fun k _ hk => by omega), fun _ => rfl, fun h => absurd rfl h⟩, hp, hres, World.ownsRow_nil _ _ _ _, hb4.below0, hvb, by omega, by omega⟩
  have HS := Lib.hid hq0
  have HW1 := Lib.hid (show (((w.alloc zero38).alloc (T38o (.bool (decide (128 ≤ secondN l))) (.int .u8 ((secondN l : Int) % 128)) (.int .u16 0) (.int .u32 0) (.int .u32 0) (.slice none 0 0) (.bool false) (.int .u16 0) (.slice none 0 0) (.slice none 0 0))).drew).heap.size = w.heap.size + 2 by simp)
  clear hq0
  generalize ((w.alloc zero38).alloc (T38o (.bool (decide (128 ≤ secondN l))) (.int .u8 ((secondN l : Int) % 128)) (.int .u16 0) (.int .u32 0) (.int .u32 0) (.slice none 0 0) (.bool false) (.int .u16 0) (.slice none 0 0) (.slice none 0 0))).drew = w1 at *
  have HS := Lib.hid (show QSt w w1.heap.size (w.heap.size + 1) (.slice (some ⟨b, o, none⟩) l.length c) l (l.drop 2) 0 (T38o (.bool (decide (128 ≤ secondN l))) (.int .u8 ((secondN l : Int) % 128)) (.int .u16 0) (.int .u32 0) (.int .u32 0) (.slice none 0 0) (.bool false) (.int .u16 0) (.slice none 0 0) (.slice none 0 0)) (.slice none 0 0) [] (w1.alloc (.cells #[.slice (some ⟨b, o, none⟩) l.length c, .int .i64 2, .int .i64 0] 73 (0, 0))) by rw [HW1.out]; exact HS.out)
  go_wp2_with fail
  generalize w1.alloc (.cells #[.slice (some ⟨b, o, none⟩) l.length c, .int .i64 2, .int .i64 0] 73 (0, 0)) = w2 at *
  generalize w1.heap.size = rb at *
  generalize hpb : w.heap.size + 1 = pb at *
  have HPb := Lib.hid hpb
  clear hpb
  have hx := rdN_lt 2 (l.drop 2)
  refine (qnum_at HS.out (n := 2) (m := 4) (by omega) (by omega) (by omega) rfl).mono ?_
  rintro r w3 ⟨rfl, hs⟩
  clear HS
  obtain ⟨z0, z1, z2, z3, z4, z5, z6, z7, z8, z9⟩ := ten_frozen hs.p
  obtain ⟨k0, k1, k2, k3, k4, k5, k6, k7, k8, k9⟩ := ten_cells hs.p
  have HS := Lib.hid (hs.set2 (.int .u16 (rdN 2 (l.drop 2) : Nat)))
  clear hs
  go_wp2_with fail
  clear hx k0 k1 k2 k3 k4 k5 k6 k7 k8 k9 z0 z1 z2 z3 z4 z5 z6 z7 z8 z9
  generalize w3.setCell ⟨pb, 2, none⟩ (.int .u16 (rdN 2 (l.drop 2) : Nat)) = w4 at *
  have hx := rdN_lt 4 (l.drop 4)
  refine (qnum_at HS.out (n := 4) (m := 8) (by omega) (by omega) (by omega) rfl).mono ?_
  rintro r w3 ⟨rfl, hs⟩
  clear HS
  obtain ⟨z0, z1, z2, z3, z4, z5, z6, z7, z8, z9⟩ := ten_frozen hs.p
  obtain ⟨k0, k1, k2, k3, k4, k5, k6, k7, k8, k9⟩ := ten_cells hs.p
  have HS := Lib.hid (hs.set3 (.int .u32 (rdN 4 (l.drop 4) : Nat)))
  clear hs
  go_wp2_with fail
  clear hx k0 k1 k2 k3 k4 k5 k6 k7 k8 k9 z0 z1 z2 z3 z4 z5 z6 z7 z8 z9
  generalize w3.setCell ⟨pb, 3, none⟩ (.int .u32 (rdN 4 (l.drop 4) : Nat)) = w4 at *
  have hx := rdN_lt 4 (l.drop 8)
  refine (qnum_at HS.out (n := 4) (m := 12) (by omega) (by omega) (by omega) rfl).mono ?_
  rintro r w3 ⟨rfl, hs⟩
  clear HS
  obtain ⟨z0, z1, z2, z3, z4, z5, z6, z7, z8, z9⟩ := ten_frozen hs.p
  obtain ⟨k0, k1, k2, k3, k4, k5, k6, k7, k8, k9⟩ := ten_cells hs.p
  have HS := Lib.hid (hs.set4 (.int .u32 (rdN 4 (l.drop 8) : Nat)))
  clear hs
  go_wp2_with fail
  clear hx k0 k1 k2 k3 k4 k5 k6 k7 k8 k9 z0 z1 z2 z3 z4 z5 z6 z7 z8 z9
  generalize w3.setCell ⟨pb, 4, none⟩ (.int .u32 (rdN 4 (l.drop 8) : Nat)) = w4 at *
  have htm : ((firstN l : Nat) : Int).tmod 16 = ((firstN l % 16 : Nat) : Int) := by rw [Int.tmod_eq_emod_of_nonneg (by omega)]; omega
  have hc16 : firstN l % 16 < 16 := Nat.mod_lt _ (by decide)
  have Htm := Lib.hid htm
  go_loopw [6] (fun i wr => ∃ (j : Nat) (sv : Value), j ≤ firstN l % 16 ∧ i = .int .i64 j ∧ QSt w rb pb (.slice (some ⟨b, o, none⟩) l.length c) l (itR j (l.drop 12)) (itE j (l.drop 12) 0) (T38o (.bool (decide (128 ≤ secondN l))) (.int .u8 ((secondN l : Int) % 128)) (.int .u16 (rdN 2 (l.drop 2) : Nat)) (.int .u32 (rdN 4 (l.drop 4) : Nat)) (.int .u32 (rdN 4 (l.drop 8) : Nat)) sv (.bool false) (.int .u16 0) (.slice none 0 0) (.slice none 0 0)) sv (itS j (l.drop 12)) wr) (fun i _ => firstN l % 16 - (intOf i).toNat)
  case atStart => exact ⟨0, (.slice none 0 0), Nat.zero_le _, rfl, HS.out⟩
  case round =>
    obtain ⟨j, sv, hj, rfl, hs⟩ := hrel
    obtain ⟨A5, c5, rfl⟩ := own_slice hs.own
    have hjl := itS_len j (l.drop 12)
    rw [hjl] at hs
    have HSt := Lib.hid hs
    have d0 := (hs.below.cell (p := ⟨b, o, none⟩) hb).trans HC0.out
    clear hs HS
    by_cases hlt : j < firstN l % 16
    · have hjc : (j : Int) < ((firstN l % 16 : Nat) : Int) := by omega
      go_wp2_with fail
      have HD := Lib.hid (HSt.out.fr0 (Fr.drew wr))
      have k5 := (ten_cells HD.out.p).2.2.2.2.2.1
      have hw32 : IntKind.u32.wrap ((rdN 4 (itR j (l.drop 12)) : Nat) : Int) = ((rdN 4 (itR j (l.drop 12)) : Nat) : Int) := by have hx := rdN_lt 4 (itR j (l.drop 12)); rw [wrap_u32]; omega
      go_region_law (first
        | (refine step_app rfl (.tmp 67) (.tmp 71) 26 rfl (rb + 1) 23 (.int .u32 0) 4 Try.underlying26 (by kernel_rfl) rfl _ _ _ rfl HA.out.own _ _ _ _ rfl (src_one w6 _ _) (one_u32 _) (by unfold maxLen; omega) (by omega) HAb.out ?_
           intro v' w7 hown hg hblk
           obtain ⟨A7, c7, rfl⟩ := own_slice hown
           have HP7 := Lib.hid (HA.out.app hown hg)
           have k57 := (ten_cells HP7.out.p).2.2.2.2.2.1
           have z57 := (ten_frozen HP7.out.p).2.2.2.2.2.1
           clear hown hg hblk)
        | (go_simp
           go_at_call 36
           refine (qnum HD.out (by omega) 4 (by decide)).mono ?_
           rintro r w6 ⟨rfl, hp⟩
           have HC := Lib.hid hp
           have k56 := (ten_cells HC.out.p).2.2.2.2.2.1
           have HA := Lib.hid (HC.out.fr0 (Fr.alloc w6 (.cells #[.int .u32 (rdN 4 (itR j (l.drop 12)) : Nat)] 23)))
           have k56a := (ten_cells HA.out.p).2.2.2.2.2.1
           have HAb := Lib.hid (show rb + 1 ≤ (w6.alloc (.cells #[.int .u32 (rdN 4 (itR j (l.drop 12)) : Nat)] 23)).heap.size by rw [World.size_alloc]; obtain ⟨a, ha⟩ := HC.out.rd; have := obj_lt ha.box; omega)
           clear hp))
      all_goals
        (have hn := HP7.out.set5 (.slice A7 (j + 1) c7)
         rw [hjl] at hn
         have HN7 := Lib.hid hn
         clear hn
         go_wp2_with fail
         go_roundw
         case rel => exact ⟨j + 1, .slice A7 (j + 1) c7, by omega, by go_num, HN7.out⟩
         case measure => simp [intOf]; omega)
    · have : j = firstN l % 16 := by omega
      subst this
      have hS : QSt w rb pb (.slice (some ⟨b, o, none⟩) l.length c) l (rd2L l) (rd2E l) (T38o (.bool (decide (128 ≤ secondN l))) (.int .u8 ((secondN l : Int) % 128)) (.int .u16 (rdN 2 (l.drop 2) : Nat)) (.int .u32 (rdN 4 (l.drop 4) : Nat)) (.int .u32 (rdN 4 (l.drop 8) : Nat)) (.slice A5 (firstN l % 16) c5) (.bool false) (.int .u16 0) (.slice none 0 0) (.slice none 0 0)) (.slice A5 (firstN l % 16) c5) (itS (firstN l % 16) (l.drop 12)) wr := HSt.out
      have HS := Lib.hid hS
      clear hS HSt hj hlt
      obtain ⟨z0, z1, z2, z3, z4, z5, z6, z7, z8, z9⟩ := ten_frozen HS.out.p
      obtain ⟨k0, k1, k2, k3, k4, k5, k6, k7, k8, k9⟩ := ten_cells HS.out.p
      cases hhs : hasB l
      · have hq4 : ((firstN l : Int) / 16 % 2 == 1) = false := by rw [← hhs]; unfold hasB; rw [Bool.eq_iff_iff]; simp; omega
        have d1 : rd3L l = rd2L l := by unfold rd3L; rw [hhs]; simp
        have d2 : rd3E l = rd2E l := by unfold rd3E; rw [hhs]; simp
        have HExt := Lib.hid (show extOf l = srcsOf l by unfold extOf; rw [hhs]; simp)
        rw [← d1, ← d2] at HS
        have HS2 := Lib.hid (HS.out.set6 (.bool false))
        clear hhs d1 d2 HS
        have HS := HS2
        clear HS2
        have HEx := Lib.hid (BSx.nil (fun k => rb < k) (wr.setCell ⟨pb, 6, none⟩ (.bool false)))
        go_upto_region 21 with fail
        generalize wr.setCell ⟨pb, 6, none⟩ (.bool false) = wx at *
        clear k0 k1 k2 k3 k4 k5 k6 k7 k8 k9 z0 z1 z2 z3 z4 z5 z6 z7 z8 z9
        obtain ⟨at3, hrd3⟩ := HS.out.rd
        obtain ⟨q0, q1, q2⟩ := three_cells hrd3.box
        have hl3len := rd3_len l
        have HRd3 := Lib.hid hrd3
        clear hrd3
        by_cases he3 : rd3E l = 0
        · have he3' : (rd3E l != 0) = false := by simp [he3]
          have HE3 := Lib.hid he3
          have HL3 := Lib.hid (HRd3.out.left he3)
          clear he3
          go_wp2_with fail
          obtain ⟨at4, hrd4⟩ := HS.out.rd
          refine (rrleft_any _ _ _ _ _ _ _ hrd4 (by omega)).mono ?_
          rintro r w6 ⟨rfl, n6, rfl⟩
          have HS6 := Lib.hid (HS.out.fr0 (Fr.drewN _ n6))
          have HEx6 := Lib.hid (HEx.out.fr (Fr.drewN _ n6) (fun _ _ _ h => h))
          clear hrd4 HS HEx q0 q1 q2 HRd3
          generalize wx.drewN n6 = wy at *
          go_wp2_with fail
          refine (qraw HS6.out (by omega) (rd3L l).length (by omega)).mono ?_
          rintro r w7 ⟨vp, rfl, hvp, hs7, hf7⟩
          rw [show rawL (rd3L l).length (rd3L l) = rd3L l by simp [rawL]] at hvp
          obtain ⟨Ap, cp, rfl, hcp, hcp2, _⟩ := bs_parts hvp.1
          have hHE7 := HEx6.out.fr hf7 (fun k _ hk (h : k = rb) => by omega)
          have hob7 := hs7.ob
          obtain ⟨z0, z1, z2, z3, z4, z5, z6, z7, z8, z9⟩ := ten_frozen hs7.p
          obtain ⟨k0, k1, k2, k3, k4, k5, k6, k7, k8, k9⟩ := ten_cells hs7.p
          have HF7 : Fr (F1 pb) w7 (w7.setCell ⟨pb, 9, none⟩ (.slice Ap (rd3L l).length cp)) := Fr.setCell w7 ⟨pb, 9, none⟩ _
          have HEx7 := Lib.hid (hHE7.fr HF7 (fun k _ hk (h : k = pb) => by omega))
          have HPl := Lib.hid (hvp.fr HF7 (fun k _ hk (h : k = pb) => by omega))
          have HS7 := Lib.hid (hs7.set9 (.slice Ap (rd3L l).length cp))
          have d7 := (HS7.out.below.cell (p := ⟨b, o, none⟩) hb).trans HC0.out
          have d7' := (hs7.below.cell (p := ⟨b, o, none⟩) hb).trans HC0.out
          clear hvp hs7 hf7 hHE7 HF7 HS6 HEx6 hob7 d0
          cases hpd : padB l
          · have hq5 : ((firstN l : Int) / 32 % 2 == 1) = false := by rw [← hpd]; unfold padB; rw [Bool.eq_iff_iff]; simp; omega
            have HNp := Lib.hid (rd4_nopad hpd HE3.out)
            clear hpd
            go_upto_region 32 with fail
            clear d7' k0 k1 k2 k3 k4 k5 k6 k7 k8 k9 z0 z1 z2 z3 z4 z5 z6 z7 z8 z9
            generalize w7.setCell ⟨pb, 9, none⟩ (.slice Ap (rd3L l).length cp) = w8 at *
            obtain ⟨y0, y1, y2, y3, y4, y5, y6, y7, y8, y9⟩ := ten_frozen HS7.out.res
            obtain ⟨m0, m1, m2, m3, m4, m5, m6, m7, m8, m9⟩ := ten_cells HS7.out.res
            obtain ⟨k0, k1, k2, k3, k4, k5, k6, k7, k8, k9⟩ := ten_cells HS7.out.p
            go_wp2_with fail
            generalize hW : World.setCell _ _ _ = wf
            obtain ⟨hx, hfx⟩ := obj_set10 HS7.out.res _ _ _ _ _ _ _ _ _ _ wf hW.symm
            clear hW y0 y1 y2 y3 y4 y5 y6 y7 y8 y9 m0 m1 m2 m3 m4 m5 m6 m7 m8 m9 k0 k1 k2 k3 k4 k5 k6 k7 k8 k9
            obtain ⟨m0, m1, m2, m3, m4, m5, m6, m7, m8, m9⟩ := ten_cells hx
            have hop := HS7.out.op
            have hob := HS7.out.ob
            refine bodyPost_ret (v := .tuple #[(.agg #[.bool (decide (128 ≤ secondN l)), .int .u8 ((secondN l : Int) % 128), .int .u16 (rdN 2 (l.drop 2) : Nat), .int .u32 (rdN 4 (l.drop 4) : Nat), .int .u32 (rdN 4 (l.drop 8) : Nat), .slice A5 (firstN l % 16) c5, .bool false, .int .u16 0, .slice none 0 0, .slice Ap (rd3L l).length cp]), .int .i64 0]) (by simp [results, Try.results11, go_sem, m0, m1, m2, m3, m4, m5, m6, m7, m8, m9]; try rfl) rfl ?_
            exact HQ.out _ _ (read_yes hE.out HNp.out.1 (by rw [HExt.out]; rfl) (by rw [HExt.out]; rfl) (by rw [HExt.out]; rfl) HNp.out.2 ((own_svx (hfx.own HS7.out.own (fun k hk (h : k = w.heap.size) => by have := (HS7.out.own.lt k hk).1; omega))).mono (fun k _ hk => by omega))
              ((HEx7.out.fr hfx (fun k _ hk (h : k = w.heap.size) => by omega)).mono (fun k _ hk => by omega)) ((HPl.out.fr hfx (fun k _ hk (h : k = w.heap.size) => by omega)).mono (fun k _ hk => by omega)) (HS7.out.below.trans (hfx.below HS7.out.below.size (fun k (hk : k = w.heap.size) => by omega))))
          · have hq5 : ((firstN l : Int) / 32 % 2 == 1) = true := by rw [← hpd]; unfold padB; rw [Bool.eq_iff_iff]; simp; omega
            have HPd := Lib.hid hpd
            clear hpd
            go_upto_region 25 with fail
            clear d7' k0 k1 k2 k3 k4 k5 k6 k7 k8 k9 z0 z1 z2 z3 z4 z5 z6 z7 z8 z9
            generalize w7.setCell ⟨pb, 9, none⟩ (.slice Ap (rd3L l).length cp) = w8 at *
            obtain ⟨k0, k1, k2, k3, k4, k5, k6, k7, k8, k9⟩ := ten_cells HS7.out.p
            by_cases hz : (rd3L l).length = 0
            · have hz0 : (((rd3L l).length : Int) == 0) = true := beq_iff_eq.2 (by omega)
              have HBad := Lib.hid (rd4_bad HPd.out HE3.out (by omega))
              clear k0 k1 k2 k3 k4 k5 k6 k7 k8 k9
              obtain ⟨k0, k1, k2, k3, k4, k5, k6, k7, k8, k9⟩ := ten_cells HS7.out.p
              obtain ⟨y0, y1, y2, y3, y4, y5, y6, y7, y8, y9⟩ := ten_frozen HS7.out.res
              obtain ⟨m0, m1, m2, m3, m4, m5, m6, m7, m8, m9⟩ := ten_cells HS7.out.res
              go_wp2_with fail
              generalize hW : World.setCell _ _ _ = wf
              obtain ⟨hx, hfx⟩ := obj_set10 HS7.out.res _ _ _ _ _ _ _ _ _ _ wf hW.symm
              clear hW y0 y1 y2 y3 y4 y5 y6 y7 y8 y9 m0 m1 m2 m3 m4 m5 m6 m7 m8 m9
              obtain ⟨m0, m1, m2, m3, m4, m5, m6, m7, m8, m9⟩ := ten_cells hx
              have hop := HS7.out.op
              refine bodyPost_ret (v := .tuple #[zeroV, .int .i64 (2)]) (by simp [results, Try.results11, go_sem, m0, m1, m2, m3, m4, m5, m6, m7, m8, m9]; try rfl) rfl ?_
              exact HQ.out _ _ (read_no (hE.out.trans HBad.out) (by decide) (HS7.out.below.trans (hfx.below HS7.out.below.size (fun k (hk : k = w.heap.size) => by omega))))
            · have hz0 : (((rd3L l).length : Int) == 0) = false := by simp only [beq_eq_false_iff_ne, ne_eq]; omega
              obtain ⟨b9, o9, hAp, hb9, hcell9⟩ := (show Row8 w8 Ap (rd3L l) from by obtain ⟨A3, c3, he4, _, _, hr3⟩ := HPl.out.1; simp only [Value.slice.injEq] at he4; obtain ⟨rfl, _, _⟩ := he4; exact hr3) (by omega)
              subst hAp
              have hc9 := hcell9 ((rd3L l).length - 1) (by omega)
              have hlast : (((rd3L l)[(rd3L l).length - 1]'(by omega)).toNat : Nat) = lastB l := by
                have hd := HL3.out
                have h1 := last_drop l at3 (by rw [← hd]; omega)
                rw [← h1]
                congr 1
                simp only [hd]
              rw [hlast] at hc9
              have hlb : lastB l < 256 := by rw [← hlast]; exact UInt8.toNat_lt _
              clear hcell9 hlast
              have hi0 : (0 : Int) ≤ ((rd3L l).length : Int) - 1 := by omega
              have hi1 : ((rd3L l).length : Int) - 1 < ((rd3L l).length : Int) := by omega
              have hi2 : (((rd3L l).length : Int) - 1).toNat = (rd3L l).length - 1 := by omega
              by_cases hk0 : lastB l = 0
              · have hk0' : ((lastB l : Int) == 0) = true := by simp; omega
                have HBad := Lib.hid (rd4_bad HPd.out HE3.out (.inl hk0))
                clear hk0
                obtain ⟨y0, y1, y2, y3, y4, y5, y6, y7, y8, y9⟩ := ten_frozen HS7.out.res
                obtain ⟨m0, m1, m2, m3, m4, m5, m6, m7, m8, m9⟩ := ten_cells HS7.out.res
                go_wp2_with fail
                generalize hW : World.setCell _ _ _ = wf
                obtain ⟨hx, hfx⟩ := obj_set10 HS7.out.res _ _ _ _ _ _ _ _ _ _ wf hW.symm
                clear hW y0 y1 y2 y3 y4 y5 y6 y7 y8 y9 m0 m1 m2 m3 m4 m5 m6 m7 m8 m9
                obtain ⟨m0, m1, m2, m3, m4, m5, m6, m7, m8, m9⟩ := ten_cells hx
                have hop := HS7.out.op
                refine bodyPost_ret (v := .tuple #[zeroV, .int .i64 (2)]) (by simp [results, Try.results11, go_sem, m0, m1, m2, m3, m4, m5, m6, m7, m8, m9]; try rfl) rfl ?_
                exact HQ.out _ _ (read_no (hE.out.trans HBad.out) (by decide) (HS7.out.below.trans (hfx.below HS7.out.below.size (fun k (hk : k = w.heap.size) => by omega))))
              · have hk0' : ((lastB l : Int) == 0) = false := by simp; omega
                by_cases hkn : (rd3L l).length < lastB l
                · have hkn' : ((rd3L l).length : Int) < (lastB l : Int) := by omega
                  have HBad := Lib.hid (rd4_bad HPd.out HE3.out (.inr hkn))
                  obtain ⟨y0, y1, y2, y3, y4, y5, y6, y7, y8, y9⟩ := ten_frozen HS7.out.res
                  obtain ⟨m0, m1, m2, m3, m4, m5, m6, m7, m8, m9⟩ := ten_cells HS7.out.res
                  go_wp2_with fail
                  generalize hW : World.setCell _ _ _ = wf
                  obtain ⟨hx, hfx⟩ := obj_set10 HS7.out.res _ _ _ _ _ _ _ _ _ _ wf hW.symm
                  clear hW y0 y1 y2 y3 y4 y5 y6 y7 y8 y9 m0 m1 m2 m3 m4 m5 m6 m7 m8 m9
                  obtain ⟨m0, m1, m2, m3, m4, m5, m6, m7, m8, m9⟩ := ten_cells hx
                  have hop := HS7.out.op
                  refine bodyPost_ret (v := .tuple #[zeroV, .int .i64 (2)]) (by simp [results, Try.results11, go_sem, m0, m1, m2, m3, m4, m5, m6, m7, m8, m9]; try rfl) rfl ?_
                  exact HQ.out _ _ (read_no (hE.out.trans HBad.out) (by decide) (HS7.out.below.trans (hfx.below HS7.out.below.size (fun k (hk : k = w.heap.size) => by omega))))
                · have hkn' : ¬ ((rd3L l).length : Int) < (lastB l : Int) := by omega
                  have HGood := Lib.hid (rd4_pad HPd.out HE3.out hk0 (by omega))
                  have hj0 : (0 : Int) ≤ ((rd3L l).length : Int) - (lastB l : Int) := by omega
                  have hj1 : ((rd3L l).length : Int) - (lastB l : Int) ≤ (cp : Int) := by omega
                  have hj2 : (((rd3L l).length : Int) - (lastB l : Int)).toNat = (rd3L l).length - lastB l := by omega
                  have hPt := HPl.out.take0 (j := (rd3L l).length - lastB l) (by omega)
                  have hob7 := HS7.out.ob
                  have HF8 : Fr (F1 pb) w8 (w8.setCell ⟨pb, 9, none⟩ (.slice (some ⟨b9, o9, none⟩) ((rd3L l).length - lastB l) cp)) := Fr.setCell w8 ⟨pb, 9, none⟩ _
                  have HPl8 := Lib.hid (hPt.fr HF8 (fun k _ hk (h : k = pb) => by omega))
                  have HEx8 := Lib.hid (HEx7.out.fr HF8 (fun k _ hk (h : k = pb) => by omega))
                  have HS8 := Lib.hid (HS7.out.set9 (.slice (some ⟨b9, o9, none⟩) ((rd3L l).length - lastB l) cp))
                  obtain ⟨z0, z1, z2, z3, z4, z5, z6, z7, z8, z9⟩ := ten_frozen HS7.out.p
                  clear hPt HF8 hob7
                  go_upto_region 32 with fail
                  clear k0 k1 k2 k3 k4 k5 k6 k7 k8 k9 z0 z1 z2 z3 z4 z5 z6 z7 z8 z9
                  generalize w8.setCell ⟨pb, 9, none⟩ (.slice (some ⟨b9, o9, none⟩) ((rd3L l).length - lastB l) cp) = w10 at *
                  obtain ⟨y0, y1, y2, y3, y4, y5, y6, y7, y8, y9⟩ := ten_frozen HS8.out.res
                  obtain ⟨m0, m1, m2, m3, m4, m5, m6, m7, m8, m9⟩ := ten_cells HS8.out.res
                  obtain ⟨k0, k1, k2, k3, k4, k5, k6, k7, k8, k9⟩ := ten_cells HS8.out.p
                  go_wp2_with fail
                  generalize hW : World.setCell _ _ _ = wf
                  obtain ⟨hx, hfx⟩ := obj_set10 HS8.out.res _ _ _ _ _ _ _ _ _ _ wf hW.symm
                  clear hW y0 y1 y2 y3 y4 y5 y6 y7 y8 y9 m0 m1 m2 m3 m4 m5 m6 m7 m8 m9 k0 k1 k2 k3 k4 k5 k6 k7 k8 k9
                  obtain ⟨m0, m1, m2, m3, m4, m5, m6, m7, m8, m9⟩ := ten_cells hx
                  have hop := HS8.out.op
                  have hob := HS8.out.ob
                  refine bodyPost_ret (v := .tuple #[(.agg #[.bool (decide (128 ≤ secondN l)), .int .u8 ((secondN l : Int) % 128), .int .u16 (rdN 2 (l.drop 2) : Nat), .int .u32 (rdN 4 (l.drop 4) : Nat), .int .u32 (rdN 4 (l.drop 8) : Nat), .slice A5 (firstN l % 16) c5, .bool false, .int .u16 0, .slice none 0 0, .slice (some ⟨b9, o9, none⟩) ((rd3L l).length - lastB l) cp]), .int .i64 0]) (by simp [results, Try.results11, go_sem, m0, m1, m2, m3, m4, m5, m6, m7, m8, m9]; try rfl) rfl ?_
                  exact HQ.out _ _ (read_yes hE.out HGood.out.1 (by rw [HExt.out]; rfl) (by rw [HExt.out]; rfl) (by rw [HExt.out]; rfl) HGood.out.2 ((own_svx (hfx.own HS8.out.own (fun k hk (h : k = w.heap.size) => by have := (HS8.out.own.lt k hk).1; omega))).mono (fun k _ hk => by omega))
                    ((HEx8.out.fr hfx (fun k _ hk (h : k = w.heap.size) => by omega)).mono (fun k _ hk => by omega)) ((HPl8.out.fr hfx (fun k _ hk (h : k = w.heap.size) => by omega)).mono (fun k _ hk => by omega)) (HS8.out.below.trans (hfx.below HS8.out.below.size (fun k (hk : k = w.heap.size) => by omega))))
        · have he3' : (rd3E l != 0) = true := by simp [he3]
          have HE3 := Lib.hid he3
          have HNe := Lib.hid (rd4_ne he3 (HRd3.out.gone he3))
          clear he3 HRd3
          obtain ⟨y0, y1, y2, y3, y4, y5, y6, y7, y8, y9⟩ := ten_frozen HS.out.res
          obtain ⟨m0, m1, m2, m3, m4, m5, m6, m7, m8, m9⟩ := ten_cells HS.out.res
          have hneq : rb ≠ w.heap.size := by have := HS.out.op; have := HS.out.ob; omega
          have HNq := Lib.hid hneq
          go_wp2_with fail
          have hfar := far10 HS.out.res HNq.out q2 (.bool false) (.int .u8 0) (.int .u16 0) (.int .u32 0) (.int .u32 0) (.slice none 0 0) (.bool false) (.int .u16 0) (.slice none 0 0) (.slice none 0 0)
          go_region
          all_goals
            (generalize hW : World.setCell _ _ _ = wf
             obtain ⟨hx, hfx⟩ := obj_set10 HS.out.res _ _ _ _ _ _ _ _ _ _ wf hW.symm
             clear hW hfar y0 y1 y2 y3 y4 y5 y6 y7 y8 y9 m0 m1 m2 m3 m4 m5 m6 m7 m8 m9
             obtain ⟨m0, m1, m2, m3, m4, m5, m6, m7, m8, m9⟩ := ten_cells ((Fr.drew wf).heap hx (fun h => h))
             go_wp2_with fail
             refine bodyPost_ret (v := .tuple #[zeroV, .int .i64 (rd3E l)]) (by simp [results, Try.results11, go_sem, m0, m1, m2, m3, m4, m5, m6, m7, m8, m9]; try rfl) rfl ?_
             exact HQ.out _ _ (read_no (hE.out.trans HNe.out) HE3.out (below_drewN (HS.out.below.trans (hfx.below HS.out.below.size (fun k (hk : k = w.heap.size) => by omega))) 1)))
      · have hq4 : ((firstN l : Int) / 16 % 2 == 1) = true := by rw [← hhs]; unfold hasB; rw [Bool.eq_iff_iff]; simp; omega
        have d1 : rd3L l = rawR (exN l) (rawR 2 (rawR 2 (rd2L l))) := by unfold rd3L; rw [hhs]; simp
        have d2 : rd3E l = rawE (exN l) (rawR 2 (rawR 2 (rd2L l))) (rawE 2 (rawR 2 (rd2L l)) (rawE 2 (rd2L l) (rd2E l))) := by unfold rd3E; rw [hhs]; simp
        have HExt := Lib.hid (show extOf l = { srcsOf l with has := true, prof := rdN 2 (rd2L l), ex := rawL (exN l) (rawR 2 (rawR 2 (rd2L l))) } by unfold extOf; rw [hhs]; simp)
        have D1 := Lib.hid d1
        have D2 := Lib.hid d2
        have HSa := Lib.hid (HS.out.set6 (.bool true))
        clear hhs d1 d2 HS
        have hx2 : rdN 2 (rd2L l) < 65536 := rdN_lt 2 _
        go_wp2_with fail
        refine (qnum HSa.out (by omega) 2 (by decide)).mono ?_
        rintro r wa ⟨rfl, hs⟩
        clear HSa k0 k1 k2 k3 k4 k5 k6 k7 k8 k9 z0 z1 z2 z3 z4 z5 z6 z7 z8 z9
        obtain ⟨z0, z1, z2, z3, z4, z5, z6, z7, z8, z9⟩ := ten_frozen hs.p
        obtain ⟨k0, k1, k2, k3, k4, k5, k6, k7, k8, k9⟩ := ten_cells hs.p
        have HSc := Lib.hid (hs.set7 (.int .u16 (rdN 2 (rd2L l) : Nat)))
        clear hs
        go_wp2_with fail
        refine (qnum HSc.out (by omega) 2 (by decide)).mono ?_
        rintro r wb ⟨rfl, hs⟩
        have HSd := Lib.hid hs
        clear hs HSc k0 k1 k2 k3 k4 k5 k6 k7 k8 k9 z0 z1 z2 z3 z4 z5 z6 z7 z8 z9 hx2
        have hx16 : rdN 2 (rawR 2 (rd2L l)) < 65536 := rdN_lt 2 _
        go_wp2_with fail
        have hc9 := qraw HSd.out (by omega) (exN l) (by unfold exN; omega)
        rw [show ((exN l : Nat) : Int) = 4 * (rdN 2 (rawR 2 (rd2L l)) : Int) by unfold exN; omega] at hc9
        refine hc9.mono ?_
        rintro r wc ⟨ve, rfl, hve, hse, _⟩
        rw [← D1.out, ← D2.out] at hse
        have HSe := Lib.hid hse
        generalize hex : rawL (exN l) (rawR 2 (rawR 2 (rd2L l))) = ex at *
        clear hc9 hse HSd
        obtain ⟨Ae, ce, hvee, _, _, _⟩ := bs_parts hve.1
        subst hvee
        obtain ⟨z0, z1, z2, z3, z4, z5, z6, z7, z8, z9⟩ := ten_frozen HSe.out.p
        obtain ⟨k0, k1, k2, k3, k4, k5, k6, k7, k8, k9⟩ := ten_cells HSe.out.p
        have hob7 := HSe.out.ob
        have hfp : Fr (F1 pb) wc (wc.setCell ⟨pb, 8, none⟩ (.slice Ae ex.length ce)) := Fr.setCell wc ⟨pb, 8, none⟩ _
        have HEx := Lib.hid (hve.fr hfp (fun k _ hk (h : k = pb) => by omega))
        have HS := Lib.hid (HSe.out.set8 (.slice Ae ex.length ce))
        clear hve hfp HSe hex D1 D2 hob7
        go_upto_region 21 with fail
        generalize wc.setCell ⟨pb, 8, none⟩ (.slice Ae ex.length ce) = wx at *
        clear k0 k1 k2 k3 k4 k5 k6 k7 k8 k9 z0 z1 z2 z3 z4 z5 z6 z7 z8 z9
        obtain ⟨at3, hrd3⟩ := HS.out.rd
        obtain ⟨q0, q1, q2⟩ := three_cells hrd3.box
        have hl3len := rd3_len l
        have HRd3 := Lib.hid hrd3
        clear hrd3
        by_cases he3 : rd3E l = 0
        · have he3' : (rd3E l != 0) = false := by simp [he3]
          have HE3 := Lib.hid he3
          have HL3 := Lib.hid (HRd3.out.left he3)
          clear he3
          go_wp2_with fail
          obtain ⟨at4, hrd4⟩ := HS.out.rd
          refine (rrleft_any _ _ _ _ _ _ _ hrd4 (by omega)).mono ?_
          rintro r w6 ⟨rfl, n6, rfl⟩
          have HS6 := Lib.hid (HS.out.fr0 (Fr.drewN _ n6))
          have HEx6 := Lib.hid (HEx.out.fr (Fr.drewN _ n6) (fun _ _ _ h => h))
          clear hrd4 HS HEx q0 q1 q2 HRd3
          generalize wx.drewN n6 = wy at *
          go_wp2_with fail
          refine (qraw HS6.out (by omega) (rd3L l).length (by omega)).mono ?_
          rintro r w7 ⟨vp, rfl, hvp, hs7, hf7⟩
          rw [show rawL (rd3L l).length (rd3L l) = rd3L l by simp [rawL]] at hvp
          obtain ⟨Ap, cp, rfl, hcp, hcp2, _⟩ := bs_parts hvp.1
          have hHE7 := HEx6.out.fr hf7 (fun k _ hk (h : k = rb) => by omega)
          have hob7 := hs7.ob
          obtain ⟨z0, z1, z2, z3, z4, z5, z6, z7, z8, z9⟩ := ten_frozen hs7.p
          obtain ⟨k0, k1, k2, k3, k4, k5, k6, k7, k8, k9⟩ := ten_cells hs7.p
          have HF7 : Fr (F1 pb) w7 (w7.setCell ⟨pb, 9, none⟩ (.slice Ap (rd3L l).length cp)) := Fr.setCell w7 ⟨pb, 9, none⟩ _
          have HEx7 := Lib.hid (hHE7.fr HF7 (fun k _ hk (h : k = pb) => by omega))
          have HPl := Lib.hid (hvp.fr HF7 (fun k _ hk (h : k = pb) => by omega))
          have HS7 := Lib.hid (hs7.set9 (.slice Ap (rd3L l).length cp))
          have d7 := (HS7.out.below.cell (p := ⟨b, o, none⟩) hb).trans HC0.out
          have d7' := (hs7.below.cell (p := ⟨b, o, none⟩) hb).trans HC0.out
          clear hvp hs7 hf7 hHE7 HF7 HS6 HEx6 hob7 d0
          cases hpd : padB l
          · have hq5 : ((firstN l : Int) / 32 % 2 == 1) = false := by rw [← hpd]; unfold padB; rw [Bool.eq_iff_iff]; simp; omega
            have HNp := Lib.hid (rd4_nopad hpd HE3.out)
            clear hpd
            go_upto_region 32 with fail
            clear d7' k0 k1 k2 k3 k4 k5 k6 k7 k8 k9 z0 z1 z2 z3 z4 z5 z6 z7 z8 z9
            generalize w7.setCell ⟨pb, 9, none⟩ (.slice Ap (rd3L l).length cp) = w8 at *
            obtain ⟨y0, y1, y2, y3, y4, y5, y6, y7, y8, y9⟩ := ten_frozen HS7.out.res
            obtain ⟨m0, m1, m2, m3, m4, m5, m6, m7, m8, m9⟩ := ten_cells HS7.out.res
            obtain ⟨k0, k1, k2, k3, k4, k5, k6, k7, k8, k9⟩ := ten_cells HS7.out.p
            go_wp2_with fail
            generalize hW : World.setCell _ _ _ = wf
            obtain ⟨hx, hfx⟩ := obj_set10 HS7.out.res _ _ _ _ _ _ _ _ _ _ wf hW.symm
            clear hW y0 y1 y2 y3 y4 y5 y6 y7 y8 y9 m0 m1 m2 m3 m4 m5 m6 m7 m8 m9 k0 k1 k2 k3 k4 k5 k6 k7 k8 k9
            obtain ⟨m0, m1, m2, m3, m4, m5, m6, m7, m8, m9⟩ := ten_cells hx
            have hop := HS7.out.op
            have hob := HS7.out.ob
            refine bodyPost_ret (v := .tuple #[(.agg #[.bool (decide (128 ≤ secondN l)), .int .u8 ((secondN l : Int) % 128), .int .u16 (rdN 2 (l.drop 2) : Nat), .int .u32 (rdN 4 (l.drop 4) : Nat), .int .u32 (rdN 4 (l.drop 8) : Nat), .slice A5 (firstN l % 16) c5, .bool true, .int .u16 (rdN 2 (rd2L l) : Nat), .slice Ae ex.length ce, .slice Ap (rd3L l).length cp]), .int .i64 0]) (by simp [results, Try.results11, go_sem, m0, m1, m2, m3, m4, m5, m6, m7, m8, m9]; try rfl) rfl ?_
            exact HQ.out _ _ (read_yes hE.out HNp.out.1 (by rw [HExt.out]) (by rw [HExt.out]) (by rw [HExt.out]) HNp.out.2 ((own_svx (hfx.own HS7.out.own (fun k hk (h : k = w.heap.size) => by have := (HS7.out.own.lt k hk).1; omega))).mono (fun k _ hk => by omega))
              ((HEx7.out.fr hfx (fun k _ hk (h : k = w.heap.size) => by omega)).mono (fun k _ hk => by omega)) ((HPl.out.fr hfx (fun k _ hk (h : k = w.heap.size) => by omega)).mono (fun k _ hk => by omega)) (HS7.out.below.trans (hfx.below HS7.out.below.size (fun k (hk : k = w.heap.size) => by omega))))
          · have hq5 : ((firstN l : Int) / 32 % 2 == 1) = true := by rw [← hpd]; unfold padB; rw [Bool.eq_iff_iff]; simp; omega
            have HPd := Lib.hid hpd
            clear hpd
            go_upto_region 25 with fail
            clear d7' k0 k1 k2 k3 k4 k5 k6 k7 k8 k9 z0 z1 z2 z3 z4 z5 z6 z7 z8 z9
            generalize w7.setCell ⟨pb, 9, none⟩ (.slice Ap (rd3L l).length cp) = w8 at *
            obtain ⟨k0, k1, k2, k3, k4, k5, k6, k7, k8, k9⟩ := ten_cells HS7.out.p
            by_cases hz : (rd3L l).length = 0
            · have hz0 : (((rd3L l).length : Int) == 0) = true := beq_iff_eq.2 (by omega)
              have HBad := Lib.hid (rd4_bad HPd.out HE3.out (by omega))
              clear k0 k1 k2 k3 k4 k5 k6 k7 k8 k9
              obtain ⟨k0, k1, k2, k3, k4, k5, k6, k7, k8, k9⟩ := ten_cells HS7.out.p
              obtain ⟨y0, y1, y2, y3, y4, y5, y6, y7, y8, y9⟩ := ten_frozen HS7.out.res
              obtain ⟨m0, m1, m2, m3, m4, m5, m6, m7, m8, m9⟩ := ten_cells HS7.out.res
              go_wp2_with fail
              generalize hW : World.setCell _ _ _ = wf
              obtain ⟨hx, hfx⟩ := obj_set10 HS7.out.res _ _ _ _ _ _ _ _ _ _ wf hW.symm
              clear hW y0 y1 y2 y3 y4 y5 y6 y7 y8 y9 m0 m1 m2 m3 m4 m5 m6 m7 m8 m9
              obtain ⟨m0, m1, m2, m3, m4, m5, m6, m7, m8, m9⟩ := ten_cells hx
              have hop := HS7.out.op
              refine bodyPost_ret (v := .tuple #[zeroV, .int .i64 (2)]) (by simp [results, Try.results11, go_sem, m0, m1, m2, m3, m4, m5, m6, m7, m8, m9]; try rfl) rfl ?_
              exact HQ.out _ _ (read_no (hE.out.trans HBad.out) (by decide) (HS7.out.below.trans (hfx.below HS7.out.below.size (fun k (hk : k = w.heap.size) => by omega))))
            · have hz0 : (((rd3L l).length : Int) == 0) = false := by simp only [beq_eq_false_iff_ne, ne_eq]; omega
              obtain ⟨b9, o9, hAp, hb9, hcell9⟩ := (show Row8 w8 Ap (rd3L l) from by obtain ⟨A3, c3, he4, _, _, hr3⟩ := HPl.out.1; simp only [Value.slice.injEq] at he4; obtain ⟨rfl, _, _⟩ := he4; exact hr3) (by omega)
              subst hAp
              have hc9 := hcell9 ((rd3L l).length - 1) (by omega)
              have hlast : (((rd3L l)[(rd3L l).length - 1]'(by omega)).toNat : Nat) = lastB l := by
                have hd := HL3.out
                have h1 := last_drop l at3 (by rw [← hd]; omega)
                rw [← h1]
                congr 1
                simp only [hd]
              rw [hlast] at hc9
              have hlb : lastB l < 256 := by rw [← hlast]; exact UInt8.toNat_lt _
              clear hcell9 hlast
              have hi0 : (0 : Int) ≤ ((rd3L l).length : Int) - 1 := by omega
              have hi1 : ((rd3L l).length : Int) - 1 < ((rd3L l).length : Int) := by omega
              have hi2 : (((rd3L l).length : Int) - 1).toNat = (rd3L l).length - 1 := by omega
              by_cases hk0 : lastB l = 0
              · have hk0' : ((lastB l : Int) == 0) = true := by simp; omega
                have HBad := Lib.hid (rd4_bad HPd.out HE3.out (.inl hk0))
                clear hk0
                obtain ⟨y0, y1, y2, y3, y4, y5, y6, y7, y8, y9⟩ := ten_frozen HS7.out.res
                obtain ⟨m0, m1, m2, m3, m4, m5, m6, m7, m8, m9⟩ := ten_cells HS7.out.res
                go_wp2_with fail
                generalize hW : World.setCell _ _ _ = wf
                obtain ⟨hx, hfx⟩ := obj_set10 HS7.out.res _ _ _ _ _ _ _ _ _ _ wf hW.symm
                clear hW y0 y1 y2 y3 y4 y5 y6 y7 y8 y9 m0 m1 m2 m3 m4 m5 m6 m7 m8 m9
                obtain ⟨m0, m1, m2, m3, m4, m5, m6, m7, m8, m9⟩ := ten_cells hx
                have hop := HS7.out.op
                refine bodyPost_ret (v := .tuple #[zeroV, .int .i64 (2)]) (by simp [results, Try.results11, go_sem, m0, m1, m2, m3, m4, m5, m6, m7, m8, m9]; try rfl) rfl ?_
                exact HQ.out _ _ (read_no (hE.out.trans HBad.out) (by decide) (HS7.out.below.trans (hfx.below HS7.out.below.size (fun k (hk : k = w.heap.size) => by omega))))
              · have hk0' : ((lastB l : Int) == 0) = false := by simp; omega
                by_cases hkn : (rd3L l).length < lastB l
                · have hkn' : ((rd3L l).length : Int) < (lastB l : Int) := by omega
                  have HBad := Lib.hid (rd4_bad HPd.out HE3.out (.inr hkn))
                  obtain ⟨y0, y1, y2, y3, y4, y5, y6, y7, y8, y9⟩ := ten_frozen HS7.out.res
                  obtain ⟨m0, m1, m2, m3, m4, m5, m6, m7, m8, m9⟩ := ten_cells HS7.out.res
                  go_wp2_with fail
                  generalize hW : World.setCell _ _ _ = wf
                  obtain ⟨hx, hfx⟩ := obj_set10 HS7.out.res _ _ _ _ _ _ _ _ _ _ wf hW.symm
                  clear hW y0 y1 y2 y3 y4 y5 y6 y7 y8 y9 m0 m1 m2 m3 m4 m5 m6 m7 m8 m9
                  obtain ⟨m0, m1, m2, m3, m4, m5, m6, m7, m8, m9⟩ := ten_cells hx
                  have hop := HS7.out.op
                  refine bodyPost_ret (v := .tuple #[zeroV, .int .i64 (2)]) (by simp [results, Try.results11, go_sem, m0, m1, m2, m3, m4, m5, m6, m7, m8, m9]; try rfl) rfl ?_
                  exact HQ.out _ _ (read_no (hE.out.trans HBad.out) (by decide) (HS7.out.below.trans (hfx.below HS7.out.below.size (fun k (hk : k = w.heap.size) => by omega))))
                · have hkn' : ¬ ((rd3L l).length : Int) < (lastB l : Int) := by omega
                  have HGood := Lib.hid (rd4_pad HPd.out HE3.out hk0 (by omega))
                  have hj0 : (0 : Int) ≤ ((rd3L l).length : Int) - (lastB l : Int) := by omega
                  have hj1 : ((rd3L l).length : Int) - (lastB l : Int) ≤ (cp : Int) := by omega
                  have hj2 : (((rd3L l).length : Int) - (lastB l : Int)).toNat = (rd3L l).length - lastB l := by omega
                  have hPt := HPl.out.take0 (j := (rd3L l).length - lastB l) (by omega)
                  have hob7 := HS7.out.ob
                  have HF8 : Fr (F1 pb) w8 (w8.setCell ⟨pb, 9, none⟩ (.slice (some ⟨b9, o9, none⟩) ((rd3L l).length - lastB l) cp)) := Fr.setCell w8 ⟨pb, 9, none⟩ _
                  have HPl8 := Lib.hid (hPt.fr HF8 (fun k _ hk (h : k = pb) => by omega))
                  have HEx8 := Lib.hid (HEx7.out.fr HF8 (fun k _ hk (h : k = pb) => by omega))
                  have HS8 := Lib.hid (HS7.out.set9 (.slice (some ⟨b9, o9, none⟩) ((rd3L l).length - lastB l) cp))
                  obtain ⟨z0, z1, z2, z3, z4, z5, z6, z7, z8, z9⟩ := ten_frozen HS7.out.p
                  clear hPt HF8 hob7
                  go_upto_region 32 with fail
                  clear k0 k1 k2 k3 k4 k5 k6 k7 k8 k9 z0 z1 z2 z3 z4 z5 z6 z7 z8 z9
                  generalize w8.setCell ⟨pb, 9, none⟩ (.slice (some ⟨b9, o9, none⟩) ((rd3L l).length - lastB l) cp) = w10 at *
                  obtain ⟨y0, y1, y2, y3, y4, y5, y6, y7, y8, y9⟩ := ten_frozen HS8.out.res
                  obtain ⟨m0, m1, m2, m3, m4, m5, m6, m7, m8, m9⟩ := ten_cells HS8.out.res
                  obtain ⟨k0, k1, k2, k3, k4, k5, k6, k7, k8, k9⟩ := ten_cells HS8.out.p
                  go_wp2_with fail
                  generalize hW : World.setCell _ _ _ = wf
                  obtain ⟨hx, hfx⟩ := obj_set10 HS8.out.res _ _ _ _ _ _ _ _ _ _ wf hW.symm
                  clear hW y0 y1 y2 y3 y4 y5 y6 y7 y8 y9 m0 m1 m2 m3 m4 m5 m6 m7 m8 m9 k0 k1 k2 k3 k4 k5 k6 k7 k8 k9
                  obtain ⟨m0, m1, m2, m3, m4, m5, m6, m7, m8, m9⟩ := ten_cells hx
                  have hop := HS8.out.op
                  have hob := HS8.out.ob
                  refine bodyPost_ret (v := .tuple #[(.agg #[.bool (decide (128 ≤ secondN l)), .int .u8 ((secondN l : Int) % 128), .int .u16 (rdN 2 (l.drop 2) : Nat), .int .u32 (rdN 4 (l.drop 4) : Nat), .int .u32 (rdN 4 (l.drop 8) : Nat), .slice A5 (firstN l % 16) c5, .bool true, .int .u16 (rdN 2 (rd2L l) : Nat), .slice Ae ex.length ce, .slice (some ⟨b9, o9, none⟩) ((rd3L l).length - lastB l) cp]), .int .i64 0]) (by simp [results, Try.results11, go_sem, m0, m1, m2, m3, m4, m5, m6, m7, m8, m9]; try rfl) rfl ?_
                  exact HQ.out _ _ (read_yes hE.out HGood.out.1 (by rw [HExt.out]) (by rw [HExt.out]) (by rw [HExt.out]) HGood.out.2 ((own_svx (hfx.own HS8.out.own (fun k hk (h : k = w.heap.size) => by have := (HS8.out.own.lt k hk).1; omega))).mono (fun k _ hk => by omega))
                    ((HEx8.out.fr hfx (fun k _ hk (h : k = w.heap.size) => by omega)).mono (fun k _ hk => by omega)) ((HPl8.out.fr hfx (fun k _ hk (h : k = w.heap.size) => by omega)).mono (fun k _ hk => by omega)) (HS8.out.below.trans (hfx.below HS8.out.below.size (fun k (hk : k = w.heap.size) => by omega))))
        · have he3' : (rd3E l != 0) = true := by simp [he3]
          have HE3 := Lib.hid he3
          have HNe := Lib.hid (rd4_ne he3 (HRd3.out.gone he3))
          clear he3 HRd3
          obtain ⟨y0, y1, y2, y3, y4, y5, y6, y7, y8, y9⟩ := ten_frozen HS.out.res
          obtain ⟨m0, m1, m2, m3, m4, m5, m6, m7, m8, m9⟩ := ten_cells HS.out.res
          have hneq : rb ≠ w.heap.size := by have := HS.out.op; have := HS.out.ob; omega
          have HNq := Lib.hid hneq
          go_wp2_with fail
          have hfar := far10 HS.out.res HNq.out q2 (.bool false) (.int .u8 0) (.int .u16 0) (.int .u32 0) (.int .u32 0) (.slice none 0 0) (.bool false) (.int .u16 0) (.slice none 0 0) (.slice none 0 0)
          go_region
          all_goals
            (generalize hW : World.setCell _ _ _ = wf
             obtain ⟨hx, hfx⟩ := obj_set10 HS.out.res _ _ _ _ _ _ _ _ _ _ wf hW.symm
             clear hW hfar y0 y1 y2 y3 y4 y5 y6 y7 y8 y9 m0 m1 m2 m3 m4 m5 m6 m7 m8 m9
             obtain ⟨m0, m1, m2, m3, m4, m5, m6, m7, m8, m9⟩ := ten_cells ((Fr.drew wf).heap hx (fun h => h))
             go_wp2_with fail
             refine bodyPost_ret (v := .tuple #[zeroV, .int .i64 (rd3E l)]) (by simp [results, Try.results11, go_sem, m0, m1, m2, m3, m4, m5, m6, m7, m8, m9]; try rfl) rfl ?_
             exact HQ.out _ _ (read_no (hE.out.trans HNe.out) HE3.out (below_drewN (HS.out.below.trans (hfx.below HS.out.below.size (fun k (hk : k = w.heap.size) => by omega))) 1)))
end Go.Proofs.Ytphaehponljofaa
