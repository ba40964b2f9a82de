/- The walk of FeedPairs. -/
import Derived.Test.YtonkecfgopbclaaFAk
import Derived.Deep.DeepCutAuto
import Derived.WalkMore
namespace Go.Proofs.Ytonkecfgopbclaa
open Go.RowKit

/-- what a pair tells, up to the place k of its seventeen -/
def preP (p : Int × Nat) : Nat → List Int
  | 0 => []
  | k + 1 => numK p.1 p.2 k
theorem preP_17 (p : Int × Nat) : preP p 17 = nums1 p := rfl
theorem preP_all (p : Int × Nat) (k : Nat) (h : k ≤ 17) : ∃ t, nums1 p = preP p k ++ t := by
  cases k with
  | zero => exact ⟨_, rfl⟩
  | succ k =>
    have h2 := numK_F p.1 p.2 (16 - k) k
    rw [show k + (16 - k) = 16 by omega] at h2
    exact ⟨_, h2⟩
theorem preP_0 (p : Int × Nat) : preP p 1 = preP p 0 ++ [p.1] := rfl
theorem preP_yes (p : Int × Nat) (k : Nat) (h : p.2.testBit k = true) : preP p (k + 2) = preP p (k + 1) ++ [aft p.1 k] := by
  show numK p.1 p.2 (k + 1) = numK p.1 p.2 k ++ _
  rw [numK, if_pos h]
theorem preP_no (p : Int × Nat) (k : Nat) (h : p.2.testBit k = false) : preP p (k + 2) = preP p (k + 1) := by
  show numK p.1 p.2 (k + 1) = numK p.1 p.2 k
  rw [numK, if_neg (by rw [h]; decide), List.append_nil]
/-- the number at a place that is told -/
theorem told_at {l : List Int} {done rest : List (Int × Nat)} {p : Int × Nat} {k n : Nat} {x : Int} (hl : l = numsP done ++ (nums1 p ++ numsP rest)) (hk : k + 1 ≤ 17) (hp : preP p (k + 1) = preP p k ++ [x]) (hn : n = (numsP done).length + (preP p k).length) :
    ∃ h : n < l.length, l[n] = x := by
  subst hn
  obtain ⟨t, ht⟩ := preP_all p (k + 1) hk
  have e : l = (numsP done ++ preP p k) ++ (x :: (t ++ numsP rest)) := by rw [hl, ht, hp]; simp
  have h2 : (numsP done ++ preP p k).length = (numsP done).length + (preP p k).length := List.length_append
  subst e
  refine ⟨by rw [List.length_append, h2, List.length_cons]; omega, ?_⟩
  rw [List.getElem_append_right (by rw [h2]; omega)]
  simp [h2]
theorem bytesL2 (x : Nat) : bytesL x 2 = [UInt8.ofNat (x / 256), UInt8.ofNat x] := by simp [bytesL, List.range_succ]
theorem encPr_eq (p : Int × Nat) : encPr p = [UInt8.ofNat (p.1.toNat / 256), UInt8.ofNat p.1.toNat, UInt8.ofNat (p.2 / 256), UInt8.ofNat p.2] := by
  rw [encPr, bytesL2, bytesL2]; rfl
/-- a pair's four bytes, where they are -/
theorem pair_at {E Z : List UInt8} {done rest : List (Int × Nat)} {p : Int × Nat} (hE : E = Z ++ encPs (done ++ p :: rest)) (hZ : Z.length = 8) :
    ∀ j (h : j < 4), ∃ h2 : 8 + 4 * done.length + j < E.length, E[8 + 4 * done.length + j] = ([UInt8.ofNat (p.1.toNat / 256), UInt8.ofNat p.1.toNat, UInt8.ofNat (p.2 / 256), UInt8.ofNat p.2])[j] := by
  intro j hj
  have e : E = (Z ++ encPs done) ++ (encPr p ++ encPs rest) := by rw [hE]; simp [encPs]
  have h2 : (Z ++ encPs done).length = 8 + 4 * done.length := by rw [List.length_append, hZ, encPs_len]
  subst e
  have h3 := encPr_len p
  refine ⟨by rw [List.length_append, h2, List.length_append, h3]; omega, ?_⟩
  rw [List.getElem_append_right (by rw [h2]; omega), List.getElem_append_left (by rw [h3, h2]; omega)]
  simp only [h2, Nat.add_sub_cancel_left, encPr_eq]
/-- .. their cells -/
theorem pair_cells {E Z : List UInt8} {done rest : List (Int × Nat)} {x : Int} {a : Nat} {w : World} {b o : Nat} (hE : E = Z ++ encPs (done ++ (x, a) :: rest)) (hZ : Z.length = 8) (hx : Fits 65536 x) (ha : a < 65536)
    (hc : ∀ j (h : j < E.length), w.cell? ⟨b, o + j, none⟩ = some (.int .u8 (E[j].toNat : Nat))) :
    8 + 4 * done.length + 3 < E.length ∧ ∃ h1 l1 h2 l2 : Nat, h1 < 256 ∧ l1 < 256 ∧ h2 < 256 ∧ l2 < 256 ∧ (h1 : Int) * 256 + l1 = x ∧ (h2 : Int) * 256 + l2 = (a : Nat) ∧
      w.cell? ⟨b, o + (8 + 4 * done.length), none⟩ = some (.int .u8 (h1 : Nat)) ∧ w.cell? ⟨b, o + (8 + 4 * done.length + 1), none⟩ = some (.int .u8 (l1 : Nat)) ∧
      w.cell? ⟨b, o + (8 + 4 * done.length + 2), none⟩ = some (.int .u8 (h2 : Nat)) ∧ w.cell? ⟨b, o + (8 + 4 * done.length + 3), none⟩ = some (.int .u8 (l2 : Nat)) := by
  have h0 := hx.lo; have h1 := hx.hi
  have p := pair_at hE hZ
  obtain ⟨g0, e0⟩ := p 0 (by decide)
  obtain ⟨g1, e1⟩ := p 1 (by decide)
  obtain ⟨g2, e2⟩ := p 2 (by decide)
  obtain ⟨g3, e3⟩ := p 3 (by decide)
  simp only [List.getElem_cons_zero, List.getElem_cons_succ, Nat.add_zero] at e0 e1 e2 e3
  have c0 := hc _ g0
  have c1 := hc _ g1
  have c2 := hc _ g2
  have c3 := hc _ g3
  simp only [Nat.add_zero] at c0
  rw [e0, UInt8.toNat_ofNat'] at c0
  rw [e1, UInt8.toNat_ofNat'] at c1
  rw [e2, UInt8.toNat_ofNat'] at c2
  rw [e3, UInt8.toNat_ofNat'] at c3
  exact ⟨g3, _, _, _, _, by omega, by omega, by omega, by omega, by omega, by omega, c0, c1, c2, c3⟩
/-- the lost numbers, a chunk's box, its bytes -/
structure PS9 (w0 : World) (bc : Nat) (ob : Obj) (v : Value) (l : List Int) (u : Value) (E : List UInt8) (w : World) : Prop where
  c : w.heap[bc]? = some ob
  hv : LoS w v l
  hu : BS w u E
  below : Below w0.heap.size w0 w
theorem PS9.after {w0 w w' : World} {bc : Nat} {ob : Obj} {v u : Value} {l : List Int} {E : List UInt8} (h : PS9 w0 bc ob v l u E w) (hb : Below w.heap.size w w') : PS9 w0 bc ob v l u E w' :=
  ⟨(Fr.of hb).heap h.c (fun h => h), h.hv.below hb, h.hu.below hb, h.below.trans (hb.mono h.below.size)⟩
theorem mL_right (l : List Int) (h0 : 0 < l.length) (h1 : risB l = true) : rightM ⟨3, 0, 0, [], l⟩ = fitsL l := by
  show (decide (([] : List (Nat × Nat)).length = 0) && decide (0 < l.length) && risB l && fitsL l) = fitsL l
  rw [h1, decide_eq_true h0]; rfl
set_option maxRecDepth 20000 in
set_option maxHeartbeats 4000000 in
theorem fpairs_any (l : List Int) (v : Value) (w : World) (h : LoS w v l) (hf : ∀ x ∈ l, Fits 65536 x) :
    Calls Try.prog 4 #[v] w fun e w' => e = .returned (.bool true) ∧ Below w.heap.size w w' := by
  have HF := Lib.hid hf
  have HV := Lib.hid h
  obtain ⟨A, c, rfl, y1, y2⟩ := h.parts
  clear h hf y1
  obtain ⟨m, hm⟩ : ∃ m, m = l.length := ⟨_, rfl⟩
  have HM := Lib.hid hm
  rw [← hm] at HV ⊢
  clear hm
  refine calls_q fun Q HQ => ?_
  go_enter Try.func4, Try.ntmps4
  go_wp2_with fail
  refine (awake9_any w).mono ?_
  rintro e w2 ⟨rfl, hb⟩
  have HV2 := Lib.hid (HV.out.below hb)
  have HB2 := Lib.hid hb
  clear hb HV
  by_cases hx : (300 : Int) < (m : Int)
  · go_wp2_with fail
    exact HQ.out _ _ ⟨rfl, HB2.out⟩
  obtain ⟨rr, hrr⟩ : ∃ rr, rr = risB l := ⟨_, rfl⟩
  have HRi := Lib.hid (frise_any l _ w2 HV2.out HF.out)
  rw [← hrr] at HRi
  have HRr := Lib.hid hrr
  clear hrr
  cases rr
  · go_wp2_with fail
    refine HRi.out.mono ?_
    rintro e w3 ⟨rfl, hb⟩
    have HB3 := Lib.hid (HB2.out.trans (hb.mono HB2.out.size))
    clear hb
    go_wp2_with fail
    exact HQ.out _ _ ⟨rfl, HB3.out⟩
  by_cases h0 : m = 0
  · subst h0
    go_wp2_with fail
    refine HRi.out.mono ?_
    rintro e w3 ⟨rfl, hb⟩
    have HB3 := Lib.hid (HB2.out.trans (hb.mono HB2.out.size))
    clear hb
    go_wp2_with fail
    exact HQ.out _ _ ⟨rfl, HB3.out⟩
  have hm0 : ((m : Int) == 0) = false := by simp [h0]
  have HM0 := Lib.hid (show 0 < m ∧ m ≤ 300 by omega)
  clear h0
  go_wp2_with fail
  refine HRi.out.mono ?_
  rintro e w3 ⟨rfl, hb⟩
  have HB3 := Lib.hid (HB2.out.trans (hb.mono HB2.out.size))
  have HV3 := Lib.hid (HV2.out.below hb)
  clear hb HB2 HV2 HRi
  go_wp2_with fail
  have hr := mL_right l (by have := HM0.out.1; have := HM.out; omega) HRr.out.symm
  have hwr := fwrite_any 3 0 0 (.slice none 0 0) _ [] l w3 (AsS.nil _) HV3.out ⟨(by decide : (0 : Nat) < 4294967296), (by decide : (0 : Nat) < 4294967296), fun a ha => absurd ha (by simp), HF.out⟩
  unfold FWPost at hwr
  by_cases hfit : fitsL l = true
  · have hr1 : rightM ⟨3, 0, 0, [], l⟩ = true := hr.trans hfit
    rw [show wrEM ⟨3, 0, 0, [], l⟩ = 0 from by rw [wrEM, if_pos hr1], show wrCM ⟨3, 0, 0, [], l⟩ = (1, 205, encM ⟨3, 0, 0, [], l⟩) from by rw [wrCM, if_pos hr1]; rfl] at hwr
    have HE := Lib.hid (show encM ⟨3, 0, 0, [], l⟩ = (bytesL 0 4 ++ bytesL 0 4) ++ encPs (pairsL l) by simp [encM, encAs])
    have HP := Lib.hid (pairs_len l)
    generalize encM ⟨3, 0, 0, [], l⟩ = E at *
    clear hr hr1 hfit
    refine hwr.mono ?_
    rintro e w4 ⟨u, rfl, hu, hb⟩
    obtain ⟨Au, cu, rfl, _, _, _⟩ := bs_parts hu
    have hba := hb.alloc hb.size (oChk 1 205 (.slice Au E.length cu))
    have HS := Lib.hid (show PS9 w w4.heap.size (oChk 1 205 (.slice Au E.length cu)) (.slice A m c) l (.slice Au E.length cu) E _ from ⟨heap_alloc_new w4 _, HV3.out.below hba, hu.below (below_alloc _), HB3.out.trans (hba.mono HB3.out.size)⟩)
    have HEl := Lib.hid (show E.length = 8 + 4 * (pairsL l).length by rw [HE.out, List.length_append, List.length_append, bytesL_len, encPs_len])
    clear hwr hu hb hba HB3 HV3
    go_upto_region 6 with fail
    rw [show w4.alloc (.cells #[.int .u8 1, .int .u8 205, .slice Au E.length cu] 29) = w4.alloc (oChk 1 205 (.slice Au E.length cu)) from rfl]
    generalize w4.alloc (oChk 1 205 (.slice Au E.length cu)) = w5 at *
    generalize w4.heap.size = bc at *
    obtain ⟨el, hel⟩ : ∃ el, el = E.length := ⟨_, rfl⟩
    have HEl2 := Lib.hid hel
    rw [← hel] at HS ⊢
    clear hel
    obtain ⟨np, hnp⟩ : ∃ np, np = (pairsL l).length := ⟨_, rfl⟩
    have HNp := Lib.hid hnp
    clear hnp
    have hel : el = 8 + 4 * np := by rw [HEl2.out, HEl.out, HNp.out]
    subst hel
    have hnm : np ≤ m ∧ m ≤ 17 * np := by rw [HNp.out, HM.out]; exact HP.out
    have n1 : ((8 + 4 * np : Nat) : Int) = 8 + 4 * (np : Int) := by omega
    have n3 : (8 + 4 * (np : Int) - 8) / 4 = (np : Int) := by omega
    have n4 : ¬ (m : Int) < (np : Int) := by omega
    have n6 : ¬ 17 * (np : Int) < (m : Int) := by omega
    obtain ⟨k0, k1, k2, _, _, _⟩ := cells3m HS.out.c
    go_wp2_with fail
    have HZ := Lib.hid (show ([] : List UInt8).length = 0 from rfl)
    clear k0 k1 k2 n3 n4 n6 n1 hx hm0
    go_loopw [6, 7] (fun bi i wr => ∃ (done rest : List (Int × Nat)) (nb q : Nat), pairsL l = done ++ rest ∧ nb = (numsP done).length ∧ q = 8 + 4 * done.length ∧ bi = .int .i64 (nb : Nat) ∧ i = .int .i64 (q : Nat) ∧ PS9 w bc (oChk 1 205 (.slice Au (8 + 4 * np) cu)) (.slice A m c) l (.slice Au (8 + 4 * np) cu) E wr) (fun _ i _ => 8 + 4 * np - (intOf i).toNat)
    case atStart => exact ⟨[], pairsL l, 0, 8, rfl, rfl, rfl, rfl, rfl, HS.out⟩
    case round =>
      obtain ⟨done, rest, nb, q, hpl, hnb, hq, rfl, rfl, hs⟩ := hrel
      have HS2 := Lib.hid hs
      have HPl := Lib.hid hpl
      have HNb := Lib.hid hnb
      have HQq := Lib.hid hq
      have hnpl : np = done.length + rest.length := by have := HNp.out; rw [hpl, List.length_append] at this; exact this
      obtain ⟨k0, k1, k2, _, _, _⟩ := cells3m hs.c
      have n1 : ((8 + 4 * np : Nat) : Int) = 8 + 4 * (np : Int) := by omega
      cases rest with
      | nil =>
        have hqn : q = 8 + 4 * np := by rw [hq, hnpl]; rfl
        have hbn : nb = m := by rw [hnb, HM.out, ← nums_pairs l, hpl, List.append_nil]
        subst hbn
        clear hs hpl hnb hq hnpl
        have hqi : (q : Int) = 8 + 4 * (np : Int) := by omega
        clear hqn
        go_wp2_with fail
        exact HQ.out _ _ ⟨rfl, HS2.out.below⟩
      | cons p rest =>
        obtain ⟨x, a⟩ := p
        have hxa := pairs_ok l HF.out (x, a) (by rw [hpl]; simp)
        obtain ⟨Ab, cb, he, _, _, hrow⟩ := bs_parts hs.hu
        simp only [Value.slice.injEq] at he
        obtain ⟨rfl, hz9, rfl⟩ := he
        clear hz9
        obtain ⟨b, o, rfl, hb, hcell⟩ := hrow (by have := HEl.out; omega)
        obtain ⟨hlen, h1, l1, h2, l2, i1, i2, i3, i4, s1, s2, c0, c1, c2, c3⟩ := pair_cells (hpl ▸ HE.out) (by simp [bytesL_len]) hxa.1 hxa.2 hcell
        rw [← hq] at c0 c1 c2 c3
        have hq4 : q + 4 ≤ 8 + 4 * np := by rw [hnpl, hq, List.length_cons]; omega
        have q0 : (0 : Int) ≤ (q : Int) := by omega
        have q1 : (q : Int) < 8 + 4 * (np : Int) := by omega
        have q2 : (q : Int) + 1 < 8 + 4 * (np : Int) := by omega
        have q3 : (q : Int) + 2 < 8 + 4 * (np : Int) := by omega
        have q4 : (q : Int) + 3 < 8 + 4 * (np : Int) := by omega
        have r1 : IntKind.i64.wrap ((q : Int) + 1) = (q : Int) + 1 := by simp [IntKind.wrap, IntKind.bits, IntKind.signed]; omega
        have r2 : IntKind.i64.wrap ((q : Int) + 2) = (q : Int) + 2 := by simp [IntKind.wrap, IntKind.bits, IntKind.signed]; omega
        have r3 : IntKind.i64.wrap ((q : Int) + 3) = (q : Int) + 3 := by simp [IntKind.wrap, IntKind.bits, IntKind.signed]; omega
        have u1 : IntKind.u16.wrap (h1 : Int) = (h1 : Int) := by rw [wrap_u16]; omega
        have u2 : IntKind.u16.wrap (l1 : Int) = (l1 : Int) := by rw [wrap_u16]; omega
        have u3 : IntKind.u16.wrap ((h1 : Int) * 256) = (h1 : Int) * 256 := by rw [wrap_u16]; omega
        have u4 : IntKind.u16.wrap ((h1 : Int) * 256 + (l1 : Int)) = x := by rw [wrap_u16, s1]; have := hxa.1.lo; have := hxa.1.hi; simp only at *; omega
        have v1 : IntKind.u16.wrap (h2 : Int) = (h2 : Int) := by rw [wrap_u16]; omega
        have v2 : IntKind.u16.wrap (l2 : Int) = (l2 : Int) := by rw [wrap_u16]; omega
        have v3 : IntKind.u16.wrap ((h2 : Int) * 256) = (h2 : Int) * 256 := by rw [wrap_u16]; omega
        have v4 : IntKind.u16.wrap ((h2 : Int) * 256 + (l2 : Int)) = (a : Nat) := by rw [wrap_u16, s2]; have := hxa.2; simp only at *; omega
        have HX := Lib.hid hxa
        clear hs hpl hnb hq hrow hcell hlen s1 s2 hxa hnpl
        go_wp2_with fail
        go_quiet (fail)
        go_wp2_with fail
        go_quiet (fail)
        go_upto_region 17 with fail
        generalize hwx : World.drewN _ _ = wx
        have HS3 := Lib.hid (show PS9 w bc (oChk 1 205 (.slice (some ⟨b, o, none⟩) (8 + 4 * np) cu)) (.slice A m c) l (.slice (some ⟨b, o, none⟩) (8 + 4 * np) cu) E wx by rw [← hwx]; exact HS2.out.after (below_drewN (below_drewN (Below.refl _ _) _) _))
        clear hwx c0 c1 c2 c3 u1 u2 u3 u4 v1 v2 v3 v4 r1 r2 r3 q2 q3 q4 k0 k1 k2 HS2
        go_wp2_with fail
        go_loopw [6, 10] (fun bi ki wy => ∃ j nb2 : Nat, j ≤ 17 ∧ nb2 = nb + (preP (x, a) j).length ∧ bi = .int .i64 (nb2 : Nat) ∧ ki = .int .u16 (j : Nat) ∧ wy = wx) (fun _ ki _ => 17 - (intOf ki).toNat)
        case atStart => exact ⟨0, nb, by omega, rfl, rfl, rfl, rfl⟩
        case round =>
          obtain ⟨j, nb2, hj, hn2, rfl, rfl, rfl⟩ := hrel
          by_cases hlt : j ≤ 16
          · have hj16 : (j : Int) ≤ 16 := by omega
            have hlst : l = numsP done ++ (nums1 (x, a) ++ numsP rest) := by
              have := nums_pairs l
              rw [HPl.out] at this
              rw [← this]; simp [numsP]
            obtain ⟨_, _, he, _, _, hp⟩ := LoG.parts (SV.x HS3.out.hv)
            rw [← HM.out] at he
            simp only [Value.slice.injEq, true_and] at he
            obtain ⟨rfl, rfl⟩ := he
            obtain ⟨b7, o7, rfl, _, _, hcell⟩ := hp (by have := HM.out; have := HM0.out.1; omega)
            have hlo := HX.out.1.lo
            have hhi := HX.out.1.hi
            have ha := HX.out.2
            simp only at hlo hhi ha
            rcases j with _ | i
            · obtain ⟨g1, g2⟩ := told_at (n := nb2) hlst (by omega) (preP_0 (x, a)) (by rw [hn2, HNb.out])
              have hc := hcell nb2 g1
              rw [g2] at hc
              simp only at hc
              have hnl : (nb2 : Int) < (m : Int) := by have := HM.out; omega
              have hn0 : (0 : Int) ≤ (nb2 : Int) := by omega
              have hwx : IntKind.u16.wrap x = x := by rw [wrap_u16]; omega
              have HNx := Lib.hid (show nb2 + 1 = nb + (preP (x, a) 1).length by rw [hn2, preP_0, List.length_append]; rfl)
              clear hlst hp hcell g1 g2 hn2 hlo hhi ha
              rw [show ((0 : Nat) : Int) = 0 from rfl]
              go_wp2_with fail
              go_roundw
              case rel => exact ⟨1, nb2 + 1, by omega, HNx.out, by go_num, by go_num, trivial⟩
              case measure => simp [intOf]
            · have hbt := u16_and1 a i ha
              have hwi : IntKind.u16.wrap (i : Int) = (i : Int) := by rw [wrap_u16]; omega
              have hw2 : IntKind.u16.wrap ((i : Int) + 1 + 1) = (i : Int) + 1 + 1 := by rw [wrap_u16]; omega
              have hi0 : (0 : Int) < (i : Int) + 1 := by omega
              rw [show ((i + 1 : Nat) : Int) = (i : Int) + 1 by omega] at hj16 ⊢
              cases hbit : a.testBit i
              · rw [hbit] at hbt
                have HNx := Lib.hid (show nb2 = nb + (preP (x, a) (i + 2)).length by rw [hn2, preP_no (x, a) i hbit])
                clear hlst hp hcell hn2 hlo hhi ha hbit
                go_wp2_with fail
                go_roundw
                case rel => exact ⟨i + 2, nb2, by omega, HNx.out, rfl, by go_num, trivial⟩
                case measure => simp [intOf]; omega
              · rw [hbit] at hbt
                have hpy := preP_yes (x, a) i hbit
                obtain ⟨g1, g2⟩ := told_at (n := nb2) hlst (by omega) hpy (by rw [hn2, HNb.out])
                have hc := hcell nb2 g1
                rw [g2] at hc
                simp only at hc
                have hnl : (nb2 : Int) < (m : Int) := by have := HM.out; omega
                have hn0 : (0 : Int) ≤ (nb2 : Int) := by omega
                have hwx : IntKind.u16.wrap (x + ((i : Int) + 1)) = aft x i := by rw [wrap_u16]; unfold aft; omega
                have HNx := Lib.hid (show nb2 + 1 = nb + (preP (x, a) (i + 2)).length by rw [hn2, hpy, List.length_append]; rfl)
                clear hlst hp hcell g1 g2 hn2 hlo hhi ha hbit hpy
                go_wp2_with fail
                go_roundw
                case rel => exact ⟨i + 2, nb2 + 1, by omega, HNx.out, by go_num, by go_num, trivial⟩
                case measure => simp [intOf]; omega
          · obtain rfl : j = 17 := by omega
            have HNx := Lib.hid (show nb2 = (numsP (done ++ [(x, a)])).length by rw [hn2, numsP_snoc, List.length_append, HNb.out]; rfl)
            have HQx := Lib.hid (show q + 4 = 8 + 4 * (done ++ [(x, a)]).length by rw [HQq.out, List.length_append]; simp; omega)
            have HPx := Lib.hid (show pairsL l = (done ++ [(x, a)]) ++ rest by rw [HPl.out]; simp)
            clear hn2 hlt
            go_wp2_with fail
            go_roundw
            case rel => exact ⟨done ++ [(x, a)], rest, nb2, q + 4, HPx.out, HNx.out, HQx.out, rfl, by go_num, HS3.out⟩
            case measure => simp [intOf]; omega
  · have hr1 : rightM ⟨3, 0, 0, [], l⟩ = false := hr.trans (by simpa using hfit)
    have hr2 : ¬ rightM ⟨3, 0, 0, [], l⟩ = true := by rw [hr1]; decide
    rw [show wrEM ⟨3, 0, 0, [], l⟩ = 1 from by rw [wrEM, if_neg hr2], show wrCM ⟨3, 0, 0, [], l⟩ = (0, 0, []) from by rw [wrCM, if_neg hr2]] at hwr
    have h47 : (47 : Int) < (m : Int) := by
      have h1 := (pairs_len l).1
      have h2 := HM.out
      have h3 : ¬ (pairsL l).length ≤ 47 := by simpa [fitsL] using hfit
      omega
    clear hr hr1 hr2 hfit
    refine hwr.mono ?_
    rintro e w4 ⟨u, rfl, hu, hb⟩
    obtain ⟨Au, cu, rfl⟩ := fbs_sl hu (n := 0) rfl
    have hba := hb.alloc hb.size (oChk 0 0 (.slice Au 0 cu))
    have HB4 := Lib.hid (HB3.out.trans (hba.mono HB3.out.size))
    clear hwr hu hb hba HB3 HV3
    go_wp2_with fail
    exact HQ.out _ _ ⟨rfl, HB4.out⟩
end Go.Proofs.Ytonkecfgopbclaa
