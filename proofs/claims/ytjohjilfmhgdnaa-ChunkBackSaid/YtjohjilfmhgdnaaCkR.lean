/- The walk of read: the next chunk. -/
import Derived.Test.YtjohjilfmhgdnaaCkU
import Derived.Test.YtjohjilfmhgdnaaBFld
import Derived.Test.YtjohjilfmhgdnaaWireR2
import Derived.Deep.DeepCutAuto
namespace Go.Proofs.Ytjohjilfmhgdnaa
open Go.RowKit

abbrev zeroC : Obj := .cells #[.int .u8 0, .int .u8 0, .slice none 0 0] 37 (0, 0)
/-- a reader, and the result's cells beside it -/
structure C1 (w0 : World) (lo rb bx : Nat) (L : List UInt8) (e : Int) (w : World) : Prop where
  rd : Rd lo w rb L e
  res : w.heap[bx]? = some zeroC
  fr : Fr (F1 rb) w0 w
  o0 : rb < w0.heap.size
  o1 : w0.heap.size ≤ bx
/-- .. and a chunk that grows -/
structure C2 (w0 : World) (lo rb bx cb : Nat) (o : Obj) (L : List UInt8) (e : Int) (w : World) : Prop where
  s : C1 w0 lo rb bx L e w
  c : w.heap[cb]? = some o
  o2 : bx < cb
section
variable {w0 : World} {lo rb bx cb : Nat} {o : Obj} {L L' : List UInt8} {e e' : Int} {w w' : World}
theorem C1.step (h : C1 w0 lo rb bx L e w) (hp : RPost lo w rb L' e' w') : C1 w0 lo rb bx L' e' w' := by
  have h1 := h.o0; have h2 := h.o1
  exact ⟨hp.1, hp.2.heap h.res (fun (h : bx = rb) => by omega), h.fr.trans hp.2 (fun _ h => .inl h), h1, h2⟩
theorem C1.fr0 (h : C1 w0 lo rb bx L e w) (hf : Fr F0 w w') : C1 w0 lo rb bx L e w' :=
  ⟨h.rd.fr0 hf, hf.heap h.res (fun h => h), h.fr.trans hf (fun _ h => h.elim), h.o0, h.o1⟩
theorem C1.new (hr : Rd lo w rb L e) : C1 w lo rb w.heap.size L e (w.alloc zeroC) := by
  have hf := Fr.alloc w zeroC
  exact ⟨hr.fr0 hf, heap_alloc_new _ _, hf.mono (fun _ h => h.elim), hr.lt.2, Nat.le_refl _⟩
theorem C1.box (h : C1 w0 lo rb bx L e w) (cs : Array Value) (t : TypeId) : C2 w0 lo rb bx w.heap.size (.cells cs t (0, 0)) L e (w.alloc (.cells cs t)) :=
  ⟨h.fr0 (Fr.alloc w _), heap_alloc_new _ _, obj_lt h.res⟩
theorem C2.step (h : C2 w0 lo rb bx cb o L e w) (hp : RPost lo w rb L' e' w') : C2 w0 lo rb bx cb o L' e' w' := by
  have h1 := h.s.o0; have h2 := h.s.o1; have h3 := h.o2
  exact ⟨h.s.step hp, hp.2.heap h.c (fun (h : cb = rb) => by omega), h3⟩
theorem C2.fr0 (h : C2 w0 lo rb bx cb o L e w) (hf : Fr F0 w w') : C2 w0 lo rb bx cb o L e w' := ⟨h.s.fr0 hf, hf.heap h.c (fun h => h), h.o2⟩
theorem C2.set {cs : Array Value} {t : TypeId} (h : C2 w0 lo rb bx cb (.cells cs t (0, 0)) L e w) (i : Nat) (u : Value) : C2 w0 lo rb bx cb (.cells (cs.setIfInBounds i u) t (0, 0)) L e (w.setCell ⟨cb, i, none⟩ u) := by
  have h1 := h.s.o0; have h2 := h.s.o1; have h3 := h.o2
  have hf : Fr (F1 cb) w (w.setCell ⟨cb, i, none⟩ u) := Fr.setCell w ⟨cb, i, none⟩ u
  have hl := h.s.rd.lt
  exact ⟨⟨h.s.rd.fr hf (fun k _ hk (hx : k = cb) => by omega), hf.heap h.s.res (fun (hx : bx = cb) => by omega), h.s.fr.trans hf (fun k (hk : k = cb) => .inr (by omega)), h1, h2⟩, obj_set h.c i u, h3⟩
theorem C2.bs {G : Nat → Prop} {v : Value} {l : List UInt8} (h : C2 w0 lo rb bx cb o L e w) (hb : BSx G w v l) (hG : ∀ k, G k → k < rb) (i : Nat) (u : Value) : BSx G (w.setCell ⟨cb, i, none⟩ u) v l := by
  have h1 := h.s.o0; have h2 := h.s.o1; have h3 := h.o2
  exact hb.fr (Fr.setCell w ⟨cb, i, none⟩ u) (fun k _ hk (hx : k = cb) => by have := hG k hk; omega)
theorem C2.cells {x0 x1 x2 : Value} {t : TypeId} (h : C2 w0 lo rb bx cb (.cells #[x0, x1, x2] t (0, 0)) L e w) : w.cell? ⟨cb, 0, none⟩ = some x0 ∧ w.cell? ⟨cb, 1, none⟩ = some x1 ∧ w.cell? ⟨cb, 2, none⟩ = some x2 ∧ w.frozen? ⟨cb, 2, none⟩ = false := by
  have k := obj_cell h.c
  exact ⟨k 0, k 1, k 2, obj_frozen h.c 2⟩
theorem C1.cells (h : C1 w0 lo rb bx L e w) : w.cell? ⟨bx, 0, none⟩ = some (.int .u8 0) ∧ w.cell? ⟨bx, 1, none⟩ = some (.int .u8 0) ∧ w.cell? ⟨bx, 2, none⟩ = some (.slice none 0 0) ∧
    w.frozen? ⟨bx, 0, none⟩ = false ∧ w.frozen? ⟨bx, 1, none⟩ = false ∧ w.frozen? ⟨bx, 2, none⟩ = false := by
  have k := obj_cell h.res
  have z := obj_frozen h.res
  exact ⟨k 0, k 1, k 2, z 0, z 1, z 2⟩
end
theorem obj_set3 {w : World} {b : Nat} {x0 x1 x2 : Value} {t : TypeId} (h : w.heap[b]? = some (.cells #[x0, x1, x2] t (0, 0))) (y0 y1 y2 : Value) :
    ∀ w', w' = ((w.setCell ⟨b, 0, none⟩ y0).setCell ⟨b, 1, none⟩ y1).setCell ⟨b, 2, none⟩ y2 → w'.heap[b]? = some (.cells #[y0, y1, y2] t (0, 0)) ∧ Fr (F1 b) w w' := by
  rintro _ rfl
  have h0 := obj_set h 0 y0
  have h1 := obj_set h0 1 y1
  have h2 := obj_set h1 2 y2
  refine ⟨by simpa using h2, ?_⟩
  have f0 : Fr (F1 b) w (w.setCell ⟨b, 0, none⟩ y0) := Fr.setCell w ⟨b, 0, none⟩ y0
  have f1 : Fr (F1 b) w ((w.setCell ⟨b, 0, none⟩ y0).setCell ⟨b, 1, none⟩ y1) := f0.trans (Fr.setCell _ ⟨b, 1, none⟩ y1) (fun _ h => .inl h)
  exact f1.trans (Fr.setCell _ ⟨b, 2, none⟩ y2) (fun _ h => .inl h)
/-- what read answers -/
def ReadPost (lo : Nat) (w : World) (rb : Nat) (L : List UInt8) (r : Ending) (w' : World) : Prop :=
  ∃ v, r = .returned (.agg #[.int .u8 (fstN L % 32 : Nat), .int .u8 (typN L : Nat), v]) ∧ BSx (fun k => lo ≤ k ∧ k < rb) w' v (rdB L) ∧ RPost lo w rb (rdL L) (rdE L) w'
theorem read_post {lo rb bx : Nat} {w w1 w2 : World} {L : List UInt8} {v : Value} (h : C1 w lo rb bx (rdL L) (rdE L) w1) (hb : BSx (fun k => lo ≤ k ∧ k < rb) w1 v (rdB L)) (hf : Fr (F1 bx) w1 w2) :
    ReadPost lo w rb L (.returned (.agg #[.int .u8 (fstN L % 32 : Nat), .int .u8 (typN L : Nat), v])) w2 := by
  have h1 := h.o0; have h2 := h.o1
  refine ⟨v, rfl, hb.fr hf (fun k _ hk (hx : k = bx) => by omega), h.rd.fr hf (fun k _ hk (hx : k = bx) => by omega), h.fr.trans hf (fun k (hk : k = bx) => .inr (by omega))⟩
set_option maxHeartbeats 2000000 in
theorem cread_any (lo rb : Nat) (L : List UInt8) (w : World) (hr : Rd lo w rb L 0) :
    Calls Try.prog 13 #[.pointer (some ⟨rb, 0, none⟩)] w (ReadPost lo w rb L) := by
  have HS := Lib.hid (C1.new hr)
  have hfl : fstN L < 256 := rdN_lt 1 L
  have hyl : typN L < 256 := rdN_lt 1 (rawR 1 L)
  have hsl : rdN 2 (rawR 1 (rawR 1 L)) < 65536 := rdN_lt 2 _
  have HFin := Lib.hid (fun bx w1 w2 v h hb hf => read_post (lo := lo) (rb := rb) (bx := bx) (w := w) (w1 := w1) (w2 := w2) (L := L) (v := v) h hb hf)
  have F5 := fun w => fld_any (fstN L) 0 5 hfl (by omega) (by omega) w
  have F6 := fun w => fld_any (fstN L) 6 2 hfl (by omega) (by omega) w
  have F1 := fun w => fld_any (fstN L) 5 1 hfl (by omega) (by omega) w
  rw [show fstN L / 2 ^ 0 % 2 ^ 5 = fstN L % 32 by omega] at F5
  rw [show fstN L / 2 ^ 6 % 2 ^ 2 = fstN L / 64 % 4 by omega] at F6
  rw [show fstN L / 2 ^ 5 % 2 ^ 1 = fstN L / 32 % 2 by omega] at F1
  have hu := u64_id (u64n _ hfl)
  have hc32 : fstN L % 32 < 32 := Nat.mod_lt _ (by decide)
  have HFm := Lib.hid (show fmL (fstN L) (stL L) = (if fstN L / 64 % 4 = 2 then stL L else []) ∧ fmE (fstN L) (stE L) = (if fstN L / 64 % 4 = 2 then stE L else wrongE (stE L) 2) from ⟨rfl, rfl⟩)
  have HPd := Lib.hid (show isPad L = decide (fstN L / 32 % 2 = 1) from rfl)
  have HNf := Lib.hid (show rdN 1 L = fstN L from rfl)
  have HNy := Lib.hid (show rdN 1 (rawR 1 L) = typN L from rfl)
  have HNl := Lib.hid (show 4 * rdN 2 (rawR 1 (rawR 1 L)) = lenN L from rfl)
  have HNs := Lib.hid (show rawR 2 (rawR 1 (rawR 1 L)) = stL L ∧ rawE 2 (rawR 1 (rawR 1 L)) (rawE 1 (rawR 1 L) (rawE 1 L 0)) = stE L from ⟨rfl, rfl⟩)
  generalize fstN L % 32 = c at *
  generalize fstN L / 64 % 4 = q at *
  generalize fstN L / 32 % 2 = p at *
  generalize fstN L = f at *
  generalize typN L = y at *
  have hw8 : IntKind.u8.wrap (c : Int) = (c : Int) := by rw [wrap_u8]; omega
  have HF5 := Lib.hid F5
  have HF6 := Lib.hid F6
  have HF1 := Lib.hid F1
  clear hr F5 F6 F1
  refine calls_q fun Q HQ => ?_
  go_enter Try.func13, Try.ntmps13
  go_wp2_with fail
  rw [show w.alloc (Obj.cells #[.int .u8 0, .int .u8 0, .slice none 0 0] 37) = w.alloc zeroC from rfl] at *
  generalize w.alloc zeroC = wa at *
  generalize w.heap.size = bx at *
  refine (rbyte_any lo rb L 0 wa HS.out.rd).mono ?_
  rintro e w2 ⟨rfl, hp⟩
  have H2 := Lib.hid (HS.out.step hp)
  rw [HNf.out]
  clear HS hp
  go_wp2_with fail
  refine (HF5.out _).mono ?_
  rintro e w3 ⟨rfl, n3, rfl⟩
  have H3 := Lib.hid (H2.out.fr0 (Fr.drewN w2 n3))
  generalize w2.drewN n3 = w3 at *
  clear H2
  go_wp2_with fail
  refine (rbyte_any lo rb _ _ w3 H3.out.rd).mono ?_
  rintro e w4 ⟨rfl, hp⟩
  have H4 := Lib.hid (H3.out.step hp)
  rw [HNy.out]
  clear H3 hp
  go_wp2_with fail
  have h5 := H4.out.box #[.int .u8 (c : Nat), .int .u8 (y : Nat), .slice none 0 0] 37
  have H5 := Lib.hid h5
  generalize w4.alloc (.cells #[.int .u8 (c : Nat), .int .u8 (y : Nat), .slice none 0 0] 37) = w5 at *
  generalize w4.heap.size = cb at *
  clear h5 H4
  refine (rshort_any lo rb _ _ w5 H5.out.s.rd).mono ?_
  rintro e w6 ⟨rfl, hp⟩
  have h6 := H5.out.step hp
  rw [HNs.out.1, HNs.out.2] at h6
  have H6 := Lib.hid h6
  clear H5 h6 hp
  obtain ⟨s, hs⟩ : ∃ s : Nat, rdN 2 (rawR 1 (rawR 1 L)) = s := ⟨_, rfl⟩
  rw [hs] at hsl HNl ⊢
  go_wp2_with fail
  refine (HF6.out _).mono ?_
  rintro e w7 ⟨rfl, n7, rfl⟩
  have H7 := Lib.hid (H6.out.fr0 (Fr.drewN w6 n7))
  generalize w6.drewN n7 = w7 at *
  clear H6
  go_upto_if 21 with fail
  go_cut [] (fun wx => C2 w lo rb bx cb (.cells #[.int .u8 (c : Nat), .int .u8 (y : Nat), .slice none 0 0] 37 (0, 0)) (fmL f (stL L)) (fmE f (stE L)) wx)
  case first =>
    by_cases hq : q = 2
    · have hq2 : ((q : Int) != 2) = false := by simp; omega
      have e1 := HFm.out.1
      have e2 := HFm.out.2
      rw [if_pos hq] at e1 e2
      have H8 := H7
      rw [← e1, ← e2] at H8
      clear e1 e2 hq
      go_wp2_with fail
      go_meet
      case rel => exact H8.out
    · have hq2 : ((q : Int) != 2) = true := by simp; omega
      have e1 := HFm.out.1
      have e2 := HFm.out.2
      rw [if_neg hq] at e1 e2
      have HE := Lib.hid (And.intro e1 e2)
      clear e1 e2 hq
      go_wp2_with fail
      refine (rwrong_any lo rb _ _ 2 w7 H7.out.s.rd (by decide)).mono ?_
      rintro e w8 ⟨rfl, hp⟩
      have h8 := H7.out.step hp
      rw [← HE.out.1, ← HE.out.2] at h8
      have H8 := Lib.hid h8
      clear hp h8
      go_wp2_with fail
      go_meet
      case rel => exact H8.out
  case rest =>
    have H8 := Lib.hid hcut
    clear hcut H7
    generalize wc = w8 at *
    have hraw := rraw_any lo rb (4 * s) _ _ w8 H8.out.s.rd (by omega)
    rw [show ((4 * s : Nat) : Int) = 4 * (s : Int) by omega, RawPost.eq, HNl.out] at hraw
    have hbl : (bdB L).length ≤ 1000000 := by
      rw [bdB, rawL]; split
      · rw [List.length_take, ← HNl.out]; omega
      · simp
    have hB1 : rawL (lenN L) (fmL (fstN L) (stL L)) = bdB L := rfl
    have hB2 : rawR (lenN L) (fmL (fstN L) (stL L)) = bdL L := rfl
    have hB3 : rawE (lenN L) (fmL (fstN L) (stL L)) (fmE (fstN L) (stE L)) = bdE L := rfl
    rw [show fstN L = f from HNf.out] at hB1 hB2 hB3
    rw [hB1, hB2, hB3] at hraw
    have HRaw := Lib.hid hraw
    clear hraw hB1 hB2 hB3
    go_wp2_with fail
    refine HRaw.out.mono ?_
    rintro e w9 ⟨v, rfl, hv, hp⟩
    have h9 := H8.out.step hp
    obtain ⟨A, cc, rfl, hcc, hccm, _⟩ := bs_parts hv.1
    obtain ⟨k0, k1, k2, z2⟩ := h9.cells
    have h10 := h9.set 2 (.slice A (bdB L).length cc)
    have hv10 := h9.bs hv (fun k hk => hk.2) 2 (.slice A (bdB L).length cc)
    rw [show (#[Value.int .u8 (c : Nat), .int .u8 (y : Nat), .slice none 0 0].setIfInBounds 2 (.slice A (bdB L).length cc)) = #[.int .u8 (c : Nat), .int .u8 (y : Nat), .slice A (bdB L).length cc] from rfl] at h10
    have H10 := Lib.hid h10
    have HV := Lib.hid hv10
    clear h9 h10 hv hv10 hp H8 HRaw
    go_wp2_with fail
    generalize w9.setCell ⟨cb, 2, none⟩ (.slice A (bdB L).length cc) = w10 at *
    clear k0 k1 k2 z2
    refine (HF1.out _).mono ?_
    rintro e w11 ⟨rfl, n11, rfl⟩
    have H11 := Lib.hid (H10.out.fr0 (Fr.drewN w10 n11))
    have HV11 := Lib.hid (HV.out.fr (Fr.drewN w10 n11) (fun _ _ _ h => h))
    generalize w10.drewN n11 = w11 at *
    clear H10 HV
    by_cases hpp : p = 1
    · have hp1 : ((p : Int) == 1) = true := by simp; omega
      have hPd := HPd.out
      rw [decide_eq_true hpp] at hPd
      have HR := Lib.hid (show rdB L = upB (bdB L) (bdL L) ∧ rdL L = upL (bdB L) (bdL L) ∧ rdE L = upE (bdB L) (bdL L) (bdE L) by rw [rdB, rdL, rdE, hPd]; exact ⟨rfl, rfl, rfl⟩)
      clear hpp hPd
      obtain ⟨k0, k1, k2, z2⟩ := H11.out.cells
      go_wp2_with fail
      refine (cunpad_any lo rb (bdB L) (bdL L) (bdE L) _ w11 H11.out.s.rd HV11.out hbl).mono ?_
      rintro e w12 ⟨u, rfl, hu12, hp⟩
      rw [← HR.out.1] at hu12
      rw [← HR.out.2.1, ← HR.out.2.2] at hp
      have h12 := H11.out.step hp
      obtain ⟨A2, cc2, rfl, _, hccm2, _⟩ := bs_parts hu12.1
      obtain ⟨k0, k1, k2, z2⟩ := h12.cells
      have h13 := h12.set 2 (.slice A2 (rdB L).length cc2)
      have hv13 := h12.bs hu12 (fun k hk => hk.2) 2 (.slice A2 (rdB L).length cc2)
      rw [show (#[Value.int .u8 (c : Nat), .int .u8 (y : Nat), .slice A (bdB L).length cc].setIfInBounds 2 (.slice A2 (rdB L).length cc2)) = #[.int .u8 (c : Nat), .int .u8 (y : Nat), .slice A2 (rdB L).length cc2] from rfl] at h13
      have H12 := Lib.hid h13
      have HV12 := Lib.hid hv13
      clear h12 h13 hv13 hu12 hp HR
      go_upto_region 9 with fail
      generalize w12.setCell ⟨cb, 2, none⟩ (.slice A2 (rdB L).length cc2) = w13 at *
      clear k0 k1 k2 z2
      obtain ⟨k0, k1, k2, z2⟩ := H12.out.cells
      obtain ⟨m0, m1, m2, y0, y1, y2⟩ := H12.out.s.cells
      go_wp2_with fail
      generalize hW : World.setCell _ _ _ = wf
      obtain ⟨hx, hfx⟩ := obj_set3 H12.out.s.res _ _ _ wf hW.symm
      clear hW k0 k1 k2 z2 m0 m1 m2 y0 y1 y2
      have k0 := obj_cell hx 0
      have k1 := obj_cell hx 1
      have k2 := obj_cell hx 2
      simp only [List.getElem?_toArray, List.getElem?_cons_succ, List.getElem?_cons_zero] at k0 k1 k2
      refine bodyPost_ret (v := (.agg #[.int .u8 (c : Nat), .int .u8 (y : Nat), .slice A2 (rdB L).length cc2])) (by simp [results, Try.results13, go_sem, k0, k1, k2]; try rfl) rfl ?_
      exact HQ.out _ _ (HFin.out bx _ _ _ H12.out.s HV12.out hfx)
    · have hp1 : ((p : Int) == 1) = false := by simp; omega
      have hPd := HPd.out
      rw [decide_eq_false hpp] at hPd
      have HR := Lib.hid (show bdB L = rdB L ∧ bdL L = rdL L ∧ bdE L = rdE L by rw [rdB, rdL, rdE, hPd]; exact ⟨rfl, rfl, rfl⟩)
      clear hpp hPd
      have H12 := H11
      have HV12 := HV11
      rw [HR.out.1, HR.out.2.1, HR.out.2.2] at H12
      rw [HR.out.1] at HV12 ⊢
      clear H11 HV11
      obtain ⟨k0, k1, k2, z2⟩ := H12.out.cells
      obtain ⟨m0, m1, m2, y0, y1, y2⟩ := H12.out.s.cells
      go_wp2_with fail
      generalize hW : World.setCell _ _ _ = wf
      obtain ⟨hx, hfx⟩ := obj_set3 H12.out.s.res _ _ _ wf hW.symm
      clear hW k0 k1 k2 z2 m0 m1 m2 y0 y1 y2
      have k0 := obj_cell hx 0
      have k1 := obj_cell hx 1
      have k2 := obj_cell hx 2
      simp only [List.getElem?_toArray, List.getElem?_cons_succ, List.getElem?_cons_zero] at k0 k1 k2
      refine bodyPost_ret (v := (.agg #[.int .u8 (c : Nat), .int .u8 (y : Nat), .slice A (rdB L).length cc])) (by simp [results, Try.results13, go_sem, k0, k1, k2]; try rfl) rfl ?_
      exact HQ.out _ _ (HFin.out bx _ _ _ H12.out.s HV12.out hfx)
end Go.Proofs.Ytjohjilfmhgdnaa
