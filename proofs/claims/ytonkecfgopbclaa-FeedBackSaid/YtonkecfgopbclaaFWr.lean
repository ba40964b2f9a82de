/- The walk of feed's Write. -/
import Derived.Test.YtonkecfgopbclaaFW
import Derived.Test.YtonkecfgopbclaaFk
import Derived.Deep.RegionHeld3
namespace Go.Proofs.Ytonkecfgopbclaa
open Go.RowKit

theorem AsS.b {B : Nat} {w : World} {v : Value} {ak : List (Nat × Nat)} (h : AsS w v ak) (hB : w.heap.size ≤ B) : AsB B w v ak := by
  refine ⟨h, fun hp k hk => ?_⟩
  obtain ⟨A, c, rfl, _, _, h3⟩ := h
  obtain ⟨b, o, rfl, hb, _⟩ := h3 (by simpa using hp)
  simp only [Value.ownBlock, Option.some.injEq] at hk
  omega
abbrev oMsg (k : Int) (se me : Nat) (va vl : Value) : Obj := .cells #[.int .i64 k, .int .u32 (se : Nat), .int .u32 (me : Nat), va, vl] 26 (0, 0)
abbrev oChk (n y : Nat) (v : Value) : Obj := .cells #[.int .u8 (n : Nat), .int .u8 (y : Nat), v] 29 (0, 0)
/-- a message's box, the result's cells, the writer -/
structure FWs (w0 : World) (bx rx pb : Nat) (o : Obj) (va vl : Value) (ak : List (Nat × Nat)) (lo : List Int) (ob : Option Nat) (l : List UInt8) (w : World) : Prop where
  msg : w.heap[bx]? = some o
  res : w.heap[rx]? = some (oChk 0 0 (.slice none 0 0))
  wr : Wr pb w pb ob l
  ha : AsB pb w va ak
  hl : LoG (fun k => k < pb) w vl lo
  below : Below w0.heap.size w0 w
  o0 : w0.heap.size ≤ bx
  o1 : bx < rx
  o2 : rx < pb
section
variable {w0 : World} {bx rx pb : Nat} {o : Obj} {va vl : Value} {ak : List (Nat × Nat)} {lo : List Int} {ob : Option Nat} {l l' : List UInt8} {w w' : World}
theorem FWs.step (h : FWs w0 bx rx pb o va vl ak lo ob l w) (hp : WPost pb w pb ob l' w') : ∃ ob', FWs w0 bx rx pb o va vl ak lo ob' l' w' := by
  obtain ⟨ob', hw, hf, ho⟩ := hp
  have h0 := h.o0; have h1 := h.o1; have h2 := h.o2
  have hge : ∀ k, WF pb ob k → pb ≤ k := fun k hk => (h.wr.lt k hk).1
  refine ⟨ob', hf.heap h.msg (fun hx => by have := hge _ hx; omega), hf.heap h.res (fun hx => by have := hge _ hx; omega), hw, h.ha.fr hf (fun b hb hx => by have := hge _ hx; omega),
    SVx.fr h.hl hf (fun k _ hk hx => by have := hge _ hx; omega), h.below.trans (hf.below h.below.size (fun k hk => by have := hge _ hk; omega)), h0, h1, h2⟩
theorem FWs.after (h : FWs w0 bx rx pb o va vl ak lo ob l w) (hb : Below w.heap.size w w') : FWs w0 bx rx pb o va vl ak lo ob l w' :=
  ⟨(Fr.of hb).heap h.msg (fun h => h), (Fr.of hb).heap h.res (fun h => h), h.wr.fr0 (Fr.of hb), h.ha.fr (Fr.of hb) (fun _ _ h => h), LoG.below h.hl hb, h.below.trans (hb.mono h.below.size), h.o0, h.o1, h.o2⟩
end
theorem cells5m {w : World} {b : Nat} {x0 x1 x2 x3 x4 : Value} {t : TypeId} (h : w.heap[b]? = some (.cells #[x0, x1, x2, x3, x4] t (0, 0))) :
    w.cell? ⟨b, 0, none⟩ = some x0 ∧ w.cell? ⟨b, 1, none⟩ = some x1 ∧ w.cell? ⟨b, 2, none⟩ = some x2 ∧ w.cell? ⟨b, 3, none⟩ = some x3 ∧ w.cell? ⟨b, 4, none⟩ = some x4 :=
  ⟨obj_cell h 0, obj_cell h 1, obj_cell h 2, obj_cell h 3, obj_cell h 4⟩
theorem cells3m {w : World} {b : Nat} {x0 x1 x2 : Value} {t : TypeId} (h : w.heap[b]? = some (.cells #[x0, x1, x2] t (0, 0))) :
    w.cell? ⟨b, 0, none⟩ = some x0 ∧ w.cell? ⟨b, 1, none⟩ = some x1 ∧ w.cell? ⟨b, 2, none⟩ = some x2 ∧ w.frozen? ⟨b, 0, none⟩ = false ∧ w.frozen? ⟨b, 1, none⟩ = false ∧ w.frozen? ⟨b, 2, none⟩ = false :=
  ⟨obj_cell h 0, obj_cell h 1, obj_cell h 2, obj_frozen h 0, obj_frozen h 1, obj_frozen h 2⟩
theorem objs3m {w : World} {b : Nat} {x0 x1 x2 : Value} {t : TypeId} (h : w.heap[b]? = some (.cells #[x0, x1, x2] t (0, 0))) (y0 y1 y2 : Value) :
    ∀ w', w' = ((w.setCell ⟨b, 0, none⟩ y0).setCell ⟨b, 1, none⟩ y1).setCell ⟨b, 2, none⟩ y2 → w'.heap[b]? = some (.cells #[y0, y1, y2] t (0, 0)) ∧ Fr (F1 b) w w' := by
  rintro _ rfl
  have h0 := obj_set h 0 y0
  have h1 := obj_set h0 1 y1
  have h2 := obj_set h1 2 y2
  refine ⟨by simpa using h2, ?_⟩
  have f0 : Fr (F1 b) w (w.setCell ⟨b, 0, none⟩ y0) := Fr.setCell w ⟨b, 0, none⟩ y0
  have f1 : Fr (F1 b) w ((w.setCell ⟨b, 0, none⟩ y0).setCell ⟨b, 1, none⟩ y1) := f0.trans (Fr.setCell _ ⟨b, 1, none⟩ y1) (fun _ h => .inl h)
  exact f1.trans (Fr.setCell _ ⟨b, 2, none⟩ y2) (fun _ h => .inl h)
theorem right_small {m : DM} (h : rightM m = true) (ho : m.Ok) : m.ak.length ≤ 1000 ∧ (pairsL m.lo).length ≤ 1000 := by
  have h1 := right_iffC.1 (back_m h ho).1
  have h2 := encM_len m
  have h3 : (chunkM m).2.2.length = (encM m).length := rfl
  omega
/-- .. beside the mark -/
structure FWm (w0 : World) (bx rx pb mx : Nat) (o om : Obj) (va vl : Value) (ak : List (Nat × Nat)) (lo : List Int) (ob : Option Nat) (l : List UInt8) (w : World) : Prop where
  s : FWs w0 bx rx pb o va vl ak lo ob l w
  m : w.heap[mx]? = some om
theorem FWm.after {w0 : World} {bx rx pb mx : Nat} {o om : Obj} {va vl : Value} {ak : List (Nat × Nat)} {lo : List Int} {ob : Option Nat} {l : List UInt8} {w w' : World} (h : FWm w0 bx rx pb mx o om va vl ak lo ob l w) (hb : Below w.heap.size w w') : FWm w0 bx rx pb mx o om va vl ak lo ob l w' :=
  ⟨h.s.after hb, (Fr.of hb).heap h.m (fun h => h)⟩
theorem FWm.cells {w0 : World} {bx rx pb mx : Nat} {o : Obj} {ty ct : Nat} {va vl : Value} {ak : List (Nat × Nat)} {lo : List Int} {ob : Option Nat} {l : List UInt8} {w : World} (h : FWm w0 bx rx pb mx o (.cells #[.int .u8 (ty : Nat), .int .u8 (ct : Nat)] 63 (0, 0)) va vl ak lo ob l w) :
    FWm w0 bx rx pb mx o (.cells #[.int .u8 (ty : Nat), .int .u8 (ct : Nat)] 63 (0, 0)) va vl ak lo ob l w ∧ w.cell? ⟨mx, 0, none⟩ = some (.int .u8 (ty : Nat)) ∧ w.cell? ⟨mx, 1, none⟩ = some (.int .u8 (ct : Nat)) ∧
      w.cell? ⟨rx, 0, none⟩ = some (.int .u8 0) ∧ w.cell? ⟨rx, 1, none⟩ = some (.int .u8 0) ∧ w.cell? ⟨rx, 2, none⟩ = some (.slice none 0 0) ∧ w.frozen? ⟨rx, 0, none⟩ = false ∧ w.frozen? ⟨rx, 1, none⟩ = false ∧ w.frozen? ⟨rx, 2, none⟩ = false :=
  ⟨h, obj_cell h.m 0, obj_cell h.m 1, obj_cell h.s.res 0, obj_cell h.s.res 1, obj_cell h.s.res 2, obj_frozen h.s.res 0, obj_frozen h.s.res 1, obj_frozen h.s.res 2⟩
/-- what Write answers -/
def FWPost (w : World) (m : DM) (e : Ending) (w' : World) : Prop :=
  ∃ u, e = .returned (.tuple #[.agg #[.int .u8 ((wrCM m).1 : Nat), .int .u8 ((wrCM m).2.1 : Nat), u], .int .i64 (wrEM m)]) ∧ BS w' u (wrCM m).2.2 ∧ Below w.heap.size w w'
set_option maxHeartbeats 2000000 in
theorem fwrite_any (k : Int) (se me : Nat) (va vl : Value) (ak : List (Nat × Nat)) (lo : List Int) (w : World) (ha : AsS w va ak) (hl : LoS w vl lo) (hok : DM.Ok ⟨k, se, me, ak, lo⟩) :
    Calls Try.prog 9 #[.agg #[.int .i64 k, .int .u32 (se : Nat), .int .u32 (me : Nat), va, vl]] w (FWPost w ⟨k, se, me, ak, lo⟩) := by
  obtain ⟨A, c, rfl, _, hc2, _⟩ := ha.parts
  obtain ⟨A2, c2, rfl, _, hc3⟩ := hl.parts
  have HO := Lib.hid hok
  refine calls_q fun Q HQ => ?_
  unfold FWPost at HQ
  have hb1 := below_alloc (w := w) (oMsg k se me (.slice A ak.length c) (.slice A2 lo.length c2))
  have hx1 := heap_alloc_new w (oMsg k se me (.slice A ak.length c) (.slice A2 lo.length c2))
  have hb2 := hb1.alloc hb1.size (oChk 0 0 (.slice none 0 0))
  have hx2 := heap_alloc_new (w.alloc (oMsg k se me (.slice A ak.length c) (.slice A2 lo.length c2))) (oChk 0 0 (.slice none 0 0))
  have hx1' := (Fr.alloc (w.alloc (oMsg k se me (.slice A ak.length c) (.slice A2 lo.length c2))) (oChk 0 0 (.slice none 0 0))).heap hx1 (fun h => h)
  rw [World.size_alloc] at hx2
  have HA := Lib.hid (ha.below hb2)
  have HL := Lib.hid (hl.below hb2)
  have HB := Lib.hid hb2
  have HX1 := Lib.hid hx1'
  have HX2 := Lib.hid hx2
  have HSz := Lib.hid (show ((w.alloc (oMsg k se me (.slice A ak.length c) (.slice A2 lo.length c2))).alloc (oChk 0 0 (.slice none 0 0))).heap.size = w.heap.size + 1 + 1 by rw [World.size_alloc, World.size_alloc])
  clear ha hl hok hb1 hx1 hb2 hx2 hx1'
  go_enter Try.func9, Try.ntmps9
  go_upto_region 1 with fail
  rw [show (w.alloc (.cells #[.int .i64 k, .int .u32 (se : Nat), .int .u32 (me : Nat), .slice A ak.length c, .slice A2 lo.length c2] 26)).alloc (.cells #[.int .u8 0, .int .u8 0, .slice none 0 0] 29) = (w.alloc (oMsg k se me (.slice A ak.length c) (.slice A2 lo.length c2))).alloc (oChk 0 0 (.slice none 0 0)) from rfl]
  generalize (w.alloc (oMsg k se me (.slice A ak.length c) (.slice A2 lo.length c2))).alloc (oChk 0 0 (.slice none 0 0)) = w1 at *
  generalize hrx : w.heap.size + 1 = rx at *
  generalize hbx : w.heap.size = bx at *
  obtain ⟨k0, k1, k2, k3, k4⟩ := cells5m HX1.out
  go_wp2_with fail
  refine (fright_any k se me _ _ ak lo w1 HA.out HL.out).mono ?_
  rintro e w2 ⟨rfl, hb⟩
  have HA2 := Lib.hid (HA.out.below hb)
  have HL2 := Lib.hid (HL.out.below hb)
  have HX12 := Lib.hid ((Fr.of hb).heap HX1.out (fun h => h))
  have HX22 := Lib.hid ((Fr.of hb).heap HX2.out (fun h => h))
  have HB2 := Lib.hid (show Below w.heap.size w w2 by have := HB.out; rw [← hbx] at this; exact this.trans (hb.mono this.size))
  have HSz2 := Lib.hid (show rx + 1 ≤ w2.heap.size by have := HSz.out; have := hb.size; omega)
  clear hb HA HL HB HX1 HX2 HSz k0 k1 k2 k3 k4
  by_cases hr : rightM ⟨k, se, me, ak, lo⟩ = true
  · rw [hr]
    have HR := Lib.hid hr
    clear hr
    have hs : FWs w bx rx w2.heap.size (oMsg k se me (.slice A ak.length c) (.slice A2 lo.length c2)) (.slice A ak.length c) (.slice A2 lo.length c2) ak lo none [] (w2.alloc (.cells #[.slice none 0 0] 57)) := by
      have hf := below_alloc (w := w2) (.cells #[.slice none 0 0] 57)
      have hsz := HSz2.out
      exact ⟨(Fr.of hf).heap HX12.out (fun h => h), (Fr.of hf).heap HX22.out (fun h => h), wr_new w2, (HA2.out.b (Nat.le_refl _)).fr (Fr.of hf) (fun _ _ h => h), LoG.below (SV.x HL2.out) hf, HB2.out.trans (hf.mono HB2.out.size), by omega, by omega, by omega⟩
    have HS := Lib.hid hs
    clear hs
    have hwf : (wrCM ⟨k, se, me, ak, lo⟩) = (cntM k, typM k, encM ⟨k, se, me, ak, lo⟩) ∧ wrEM ⟨k, se, me, ak, lo⟩ = 0 := by rw [wrCM, wrEM, if_pos HR.out, if_pos HR.out]; exact ⟨rfl, rfl⟩
    rw [hwf.1, hwf.2] at HQ
    clear hwf
    have HSm := Lib.hid (right_small HR.out HO.out)
    have HEn := Lib.hid (show encM ⟨k, se, me, ak, lo⟩ = bytesL se 4 ++ (bytesL me 4 ++ (encAs ak ++ encPs (pairsL lo))) from rfl)
    have HSe := Lib.hid HO.out.se
    have HMe := Lib.hid HO.out.me
    have HAk := Lib.hid HO.out.ak
    have HLo := Lib.hid HO.out.lo
    generalize encM ⟨k, se, me, ak, lo⟩ = E at *
    clear HO HR HA2 HL2 HX12 HX22
    go_upto_region 4 with fail
    generalize w2.alloc (.cells #[.slice none 0 0] 57) = w3 at *
    generalize w2.heap.size = pb at *
    obtain ⟨k0, k1, k2, k3, k4⟩ := cells5m HS.out.msg
    go_wp2_with fail
    refine (fwnum pb pb none _ se w3 HS.out.wr (by simp) HSe.out).mono ?_
    rintro e w4 ⟨rfl, hp⟩
    obtain ⟨o4, h4⟩ := HS.out.step hp
    have H4 := Lib.hid h4
    clear hp h4 HS k0 k1 k2 k3 k4
    obtain ⟨k0, k1, k2, k3, k4⟩ := cells5m H4.out.msg
    go_wp2_with fail
    refine (fwnum pb pb o4 _ me w4 H4.out.wr (by simp [bytesL_len]) HMe.out).mono ?_
    rintro e w5 ⟨rfl, hp⟩
    obtain ⟨o5, h5⟩ := H4.out.step hp
    have H5 := Lib.hid h5
    clear hp h5 H4 k0 k1 k2 k3 k4
    obtain ⟨k0, k1, k2, k3, k4⟩ := cells5m H5.out.msg
    go_wp2_with fail
    refine (writeasks_any pb pb o5 _ _ ak w5 H5.out.wr H5.out.ha HAk.out (by simp [bytesL_len]) HSm.out.1).mono ?_
    rintro e w6 ⟨rfl, hp⟩
    obtain ⟨o6, h6⟩ := H5.out.step hp
    have H6 := Lib.hid h6
    clear hp h6 H5 k0 k1 k2 k3 k4
    obtain ⟨k0, k1, k2, k3, k4⟩ := cells5m H6.out.msg
    go_wp2_with fail
    refine (writelost_any pb pb o6 _ _ lo w6 H6.out.wr H6.out.hl HLo.out (by have := HSm.out.1; simp [bytesL_len, encAs_len]; omega) HSm.out.2).mono ?_
    rintro e w7 ⟨rfl, hp⟩
    obtain ⟨o7, h7⟩ := H6.out.step hp
    rw [show [] ++ bytesL se 4 ++ bytesL me 4 ++ encAs ak ++ encPs (pairsL lo) = E by rw [HEn.out]; simp] at h7
    have H7 := Lib.hid h7
    have HEl := Lib.hid (show E.length ≤ 100000 by have h1 : ak.length ≤ 1000 := HSm.out.1; have h2 : (pairsL lo).length ≤ 1000 := HSm.out.2; rw [HEn.out]; simp only [List.length_append, bytesL_len, encAs_len, encPs_len]; omega)
    clear hp h7 H6 k0 k1 k2 k3 k4 HEn HSm
    obtain ⟨k0, k1, k2, k3, k4⟩ := cells5m H7.out.msg
    go_wp2_with fail
    refine (markof_any k w7).mono ?_
    rintro e w8 ⟨rfl, hb⟩
    have H8 := Lib.hid (H7.out.after hb)
    clear hb H7 k0 k1 k2 k3 k4
    generalize typM k = ty at *
    generalize cntM k = ct at *
    have H9 := Lib.hid (show FWm w bx rx pb w8.heap.size (oMsg k se me (.slice A ak.length c) (.slice A2 lo.length c2)) (.cells #[.int .u8 (ty : Nat), .int .u8 (ct : Nat)] 63 (0, 0)) (.slice A ak.length c) (.slice A2 lo.length c2) ak lo o7 E (w8.alloc (.cells #[.int .u8 (ty : Nat), .int .u8 (ct : Nat)] 63)) from ⟨H8.out.after (below_alloc _), heap_alloc_new w8 _⟩)
    clear H8
    go_upto_region 9 with fail
    generalize w8.alloc (.cells #[.int .u8 (ty : Nat), .int .u8 (ct : Nat)] 63) = w9 at *
    generalize w8.heap.size = mx at *
    have H9d := Lib.hid (H9.out.after (below_drewN (Below.refl _ _) 1))
    obtain ⟨_, m0, m1, r0, r1, r2, q0, q1, q2⟩ := H9.out.cells
    go_region_with (go_at_call 28; refine (wbytes_any pb pb o7 E _ H9d.out.s.wr (by have := HEl.out; omega)).mono ?_; rintro e w10 ⟨u, rfl, hu, hb⟩; obtain ⟨Au, cu, rfl⟩ := own_slice hu; have HU := Lib.hid hu; have h10 := H9d.out.after hb; obtain ⟨_, n0, n1, s0, s1, s2, p0, p1, p2⟩ := h10.cells; have H10 := Lib.hid h10; clear hu h10)
    all_goals
      clear m0 m1 r0 r1 r2 q0 q1 q2 n0 n1 s0 s1 s2 p0 p1 p2
      generalize hW : World.setCell _ _ _ = wf
      obtain ⟨hx, hfx⟩ := objs3m H10.out.s.res _ _ _ wf hW.symm
      clear hW
      obtain ⟨m0, m1, m2, _, _, _⟩ := cells3m hx
      have h0 := H10.out.s.o0
      have h1 := H10.out.s.o1
      have h2 := H10.out.s.o2
      have hux := own_bsx HU.out
      have hpb := (H9.out.s.wr.lt pb (.inl rfl)).2
      have hux2 := hux.fr hfx (fun k _ hk (hx : k = rx) => by
        have : w9.heap.size ≤ k := hk
        omega)
      have HUx := Lib.hid hux2.1
      have HBf := Lib.hid (H10.out.s.below.trans (hfx.below H10.out.s.below.size (fun k (hk : k = rx) => by omega)))
      clear hx hfx hux hux2 HU H10 H9 H9d
      go_wp2_with fail
      refine bodyPost_ret (v := .tuple #[.agg #[.int .u8 (ct : Nat), .int .u8 (ty : Nat), .slice Au E.length cu], .int .i64 0]) (by simp [results, Try.results9, go_sem, m0, m1, m2]; try rfl) rfl ?_
      refine HQ.out _ _ ⟨.slice Au E.length cu, rfl, HUx.out, ?_⟩
      have := HBf.out
      rw [hbx] at this; exact this
  · have hr' : rightM ⟨k, se, me, ak, lo⟩ = false := by simpa using hr
    have HC := Lib.hid (show wrCM ⟨k, se, me, ak, lo⟩ = (0, 0, []) ∧ wrEM ⟨k, se, me, ak, lo⟩ = 1 by rw [wrCM, wrEM, if_neg hr, if_neg hr]; exact ⟨rfl, rfl⟩)
    rw [hr']
    obtain ⟨m0, m1, m2, z0, z1, z2⟩ := cells3m HX22.out
    clear hr hr'
    go_wp2_with fail
    generalize hW : World.setCell _ _ _ = wf
    obtain ⟨hx, hfx⟩ := objs3m HX22.out _ _ _ wf hW.symm
    clear hW m0 m1 m2 z0 z1 z2
    obtain ⟨m0, m1, m2, z0, z1, z2⟩ := cells3m hx
    refine bodyPost_ret (v := .tuple #[.agg #[.int .u8 0, .int .u8 0, .slice none 0 0], .int .i64 1]) (by simp [results, Try.results9, go_sem, m0, m1, m2]; try rfl) rfl ?_
    have hB := HB2.out.trans (hfx.below HB2.out.size (fun k (hk : k = rx) => by omega))
    rw [hbx] at hB
    exact HQ.out _ _ ⟨.slice none 0 0, by rw [HC.out.1, HC.out.2]; rfl, by rw [HC.out.1]; exact BS.nil _, hB⟩
end Go.Proofs.Ytonkecfgopbclaa
