/- Laid together: CkR, CkI, Cm, WireW, CW, WireW3, WireW4. -/
import Derived.Test.YtphofpemblindaaG03
import Derived.Deep.DeepCutAuto
import Derived.Test.YtphofpemblindaaG02
import Derived.Test.YtphofpemblindaaG01
/- The walk of read: the next chunk. -/
namespace Go.Proofs.Ytphofpemblindaa
open Go.RowKit

abbrev zeroC : Obj := .cells #[.int .u8 0, .int .u8 0, .slice none 0 0] 40 (0, 0)
/-- a reader, and the result's cells beside it -/
structure C1 (w0 : World) (lo rb bx : Nat) (L : List UInt8) (e : Int) (w : World) : Prop where
  rd : Rd lo w rb L e
  res : w.heap[bx]? = some zeroC
  fr : Fr (F1 rb) w0 w
  o0 : rb < w0.heap.size
  o1 : w0.heap.size ≤ bx
/-- .. and a chunk that grows -/
structure C2 (w0 : World) (lo rb bx cb : Nat) (o : Obj) (L : List UInt8) (e : Int) (w : World) : Prop where
  s : C1 w0 lo rb bx L e w
  c : w.heap[cb]? = some o
  o2 : bx < cb
section
variable {w0 : World} {lo rb bx cb : Nat} {o : Obj} {L L' : List UInt8} {e e' : Int} {w w' : World}
theorem C1.step (h : C1 w0 lo rb bx L e w) (hp : RPost lo w rb L' e' w') : C1 w0 lo rb bx L' e' w' := by
  have h1 := h.o0; have h2 := h.o1
  exact ⟨hp.1, hp.2.heap h.res (fun (h : bx = rb) => by omega), h.fr.trans hp.2 (fun _ h => .inl h), h1, h2⟩
theorem C1.fr0 (h : C1 w0 lo rb bx L e w) (hf : Fr F0 w w') : C1 w0 lo rb bx L e w' :=
  ⟨h.rd.fr0 hf, hf.heap h.res (fun h => h), h.fr.trans hf (fun _ h => h.elim), h.o0, h.o1⟩
theorem C1.new (hr : Rd lo w rb L e) : C1 w lo rb w.heap.size L e (w.alloc zeroC) := by
  have hf := Fr.alloc w zeroC
  exact ⟨hr.fr0 hf, heap_alloc_new _ _, hf.mono (fun _ h => h.elim), hr.lt.2, Nat.le_refl _⟩
theorem C1.box (h : C1 w0 lo rb bx L e w) (cs : Array Value) (t : TypeId) : C2 w0 lo rb bx w.heap.size (.cells cs t (0, 0)) L e (w.alloc (.cells cs t)) :=
  ⟨h.fr0 (Fr.alloc w _), heap_alloc_new _ _, obj_lt h.res⟩
theorem C2.step (h : C2 w0 lo rb bx cb o L e w) (hp : RPost lo w rb L' e' w') : C2 w0 lo rb bx cb o L' e' w' := by
  have h1 := h.s.o0; have h2 := h.s.o1; have h3 := h.o2
  exact ⟨h.s.step hp, hp.2.heap h.c (fun (h : cb = rb) => by omega), h3⟩
theorem C2.fr0 (h : C2 w0 lo rb bx cb o L e w) (hf : Fr F0 w w') : C2 w0 lo rb bx cb o L e w' := ⟨h.s.fr0 hf, hf.heap h.c (fun h => h), h.o2⟩
theorem C2.set {cs : Array Value} {t : TypeId} (h : C2 w0 lo rb bx cb (.cells cs t (0, 0)) L e w) (i : Nat) (u : Value) : C2 w0 lo rb bx cb (.cells (cs.setIfInBounds i u) t (0, 0)) L e (w.setCell ⟨cb, i, none⟩ u) := by
  have h1 := h.s.o0; have h2 := h.s.o1; have h3 := h.o2
  have hf : Fr (F1 cb) w (w.setCell ⟨cb, i, none⟩ u) := Fr.setCell w ⟨cb, i, none⟩ u
  have hl := h.s.rd.lt
  exact ⟨⟨h.s.rd.fr hf (fun k _ hk (hx : k = cb) => by omega), hf.heap h.s.res (fun (hx : bx = cb) => by omega), h.s.fr.trans hf (fun k (hk : k = cb) => .inr (by omega)), h1, h2⟩, obj_set h.c i u, h3⟩
theorem C2.bs {G : Nat → Prop} {v : Value} {l : List UInt8} (h : C2 w0 lo rb bx cb o L e w) (hb : BSx G w v l) (hG : ∀ k, G k → k < rb) (i : Nat) (u : Value) : BSx G (w.setCell ⟨cb, i, none⟩ u) v l := by
  have h1 := h.s.o0; have h2 := h.s.o1; have h3 := h.o2
  exact hb.fr (Fr.setCell w ⟨cb, i, none⟩ u) (fun k _ hk (hx : k = cb) => by have := hG k hk; omega)
theorem C2.cells {x0 x1 x2 : Value} {t : TypeId} (h : C2 w0 lo rb bx cb (.cells #[x0, x1, x2] t (0, 0)) L e w) : w.cell? ⟨cb, 0, none⟩ = some x0 ∧ w.cell? ⟨cb, 1, none⟩ = some x1 ∧ w.cell? ⟨cb, 2, none⟩ = some x2 ∧ w.frozen? ⟨cb, 2, none⟩ = false := by
  have k := obj_cell h.c
  exact ⟨k 0, k 1, k 2, obj_frozen h.c 2⟩
theorem C1.cells (h : C1 w0 lo rb bx L e w) : w.cell? ⟨bx, 0, none⟩ = some (.int .u8 0) ∧ w.cell? ⟨bx, 1, none⟩ = some (.int .u8 0) ∧ w.cell? ⟨bx, 2, none⟩ = some (.slice none 0 0) ∧
    w.frozen? ⟨bx, 0, none⟩ = false ∧ w.frozen? ⟨bx, 1, none⟩ = false ∧ w.frozen? ⟨bx, 2, none⟩ = false := by
  have k := obj_cell h.res
  have z := obj_frozen h.res
  exact ⟨k 0, k 1, k 2, z 0, z 1, z 2⟩
end
theorem obj_set3 {w : World} {b : Nat} {x0 x1 x2 : Value} {t : TypeId} (h : w.heap[b]? = some (.cells #[x0, x1, x2] t (0, 0))) (y0 y1 y2 : Value) :
    ∀ w', w' = ((w.setCell ⟨b, 0, none⟩ y0).setCell ⟨b, 1, none⟩ y1).setCell ⟨b, 2, none⟩ y2 → w'.heap[b]? = some (.cells #[y0, y1, y2] t (0, 0)) ∧ Fr (F1 b) w w' := by
  rintro _ rfl
  have h0 := obj_set h 0 y0
  have h1 := obj_set h0 1 y1
  have h2 := obj_set h1 2 y2
  refine ⟨by simpa using h2, ?_⟩
  have f0 : Fr (F1 b) w (w.setCell ⟨b, 0, none⟩ y0) := Fr.setCell w ⟨b, 0, none⟩ y0
  have f1 : Fr (F1 b) w ((w.setCell ⟨b, 0, none⟩ y0).setCell ⟨b, 1, none⟩ y1) := f0.trans (Fr.setCell _ ⟨b, 1, none⟩ y1) (fun _ h => .inl h)
  exact f1.trans (Fr.setCell _ ⟨b, 2, none⟩ y2) (fun _ h => .inl h)
/-- what read answers -/
def ReadPost (lo : Nat) (w : World) (rb : Nat) (L : List UInt8) (r : Ending) (w' : World) : Prop :=
  ∃ v, r = .returned (.agg #[.int .u8 (fstN L % 32 : Nat), .int .u8 (typN L : Nat), v]) ∧ BSx (fun k => lo ≤ k ∧ k < rb) w' v (rdB L) ∧ RPost lo w rb (rdL L) (rdE L) w'
theorem read_post {lo rb bx : Nat} {w w1 w2 : World} {L : List UInt8} {v : Value} (h : C1 w lo rb bx (rdL L) (rdE L) w1) (hb : BSx (fun k => lo ≤ k ∧ k < rb) w1 v (rdB L)) (hf : Fr (F1 bx) w1 w2) :
    ReadPost lo w rb L (.returned (.agg #[.int .u8 (fstN L % 32 : Nat), .int .u8 (typN L : Nat), v])) w2 := by
  have h1 := h.o0; have h2 := h.o1
  refine ⟨v, rfl, hb.fr hf (fun k _ hk (hx : k = bx) => by omega), h.rd.fr hf (fun k _ hk (hx : k = bx) => by omega), h.fr.trans hf (fun k (hk : k = bx) => .inr (by omega))⟩
set_option maxHeartbeats 2000000 in
theorem cread_any (lo rb : Nat) (L : List UInt8) (w : World) (hr : Rd lo w rb L 0) :
    Calls Try.prog 32 #[.pointer (some ⟨rb, 0, none⟩)] w (ReadPost lo w rb L) := by
  have HS := Lib.hid (C1.new hr)
  have hfl : fstN L < 256 := rdN_lt 1 L
  have hyl : typN L < 256 := rdN_lt 1 (rawR 1 L)
  have hsl : rdN 2 (rawR 1 (rawR 1 L)) < 65536 := rdN_lt 2 _
  have HFin := Lib.hid (fun bx w1 w2 v h hb hf => read_post (lo := lo) (rb := rb) (bx := bx) (w := w) (w1 := w1) (w2 := w2) (L := L) (v := v) h hb hf)
  have F5 := fun w => fld_any (fstN L) 0 5 hfl (by omega) (by omega) w
  have F6 := fun w => fld_any (fstN L) 6 2 hfl (by omega) (by omega) w
  have F1 := fun w => fld_any (fstN L) 5 1 hfl (by omega) (by omega) w
  rw [show fstN L / 2 ^ 0 % 2 ^ 5 = fstN L % 32 by omega] at F5
  rw [show fstN L / 2 ^ 6 % 2 ^ 2 = fstN L / 64 % 4 by omega] at F6
  rw [show fstN L / 2 ^ 5 % 2 ^ 1 = fstN L / 32 % 2 by omega] at F1
  have hu := u64_id (u64n _ hfl)
  have hc32 : fstN L % 32 < 32 := Nat.mod_lt _ (by decide)
  have HFm := Lib.hid (show fmL (fstN L) (stL L) = (if fstN L / 64 % 4 = 2 then stL L else []) ∧ fmE (fstN L) (stE L) = (if fstN L / 64 % 4 = 2 then stE L else wrongE (stE L) 2) from ⟨rfl, rfl⟩)
  have HPd := Lib.hid (show isPad L = decide (fstN L / 32 % 2 = 1) from rfl)
  have HNf := Lib.hid (show rdN 1 L = fstN L from rfl)
  have HNy := Lib.hid (show rdN 1 (rawR 1 L) = typN L from rfl)
  have HNl := Lib.hid (show 4 * rdN 2 (rawR 1 (rawR 1 L)) = lenN L from rfl)
  have HNs := Lib.hid (show rawR 2 (rawR 1 (rawR 1 L)) = stL L ∧ rawE 2 (rawR 1 (rawR 1 L)) (rawE 1 (rawR 1 L) (rawE 1 L 0)) = stE L from ⟨rfl, rfl⟩)
  generalize fstN L % 32 = c at *
  generalize fstN L / 64 % 4 = q at *
  generalize fstN L / 32 % 2 = p at *
  generalize fstN L = f at *
  generalize typN L = y at *
  have hw8 : IntKind.u8.wrap (c : Int) = (c : Int) := by rw [wrap_u8]; omega
  have HF5 := Lib.hid F5
  have HF6 := Lib.hid F6
  have HF1 := Lib.hid F1
  clear hr F5 F6 F1
  refine calls_q fun Q HQ => ?_
  go_enter Try.func32, Try.ntmps32
  go_wp2_with fail
  rw [show w.alloc (Obj.cells #[.int .u8 0, .int .u8 0, .slice none 0 0] 40) = w.alloc zeroC from rfl] at *
  generalize w.alloc zeroC = wa at *
  generalize w.heap.size = bx at *
  refine (rbyte_any lo rb L 0 wa HS.out.rd).mono ?_
  rintro e w2 ⟨rfl, hp⟩
  have H2 := Lib.hid (HS.out.step hp)
  rw [HNf.out]
  clear HS hp
  go_wp2_with fail
  refine (HF5.out _).mono ?_
  rintro e w3 ⟨rfl, n3, rfl⟩
  have H3 := Lib.hid (H2.out.fr0 (Fr.drewN w2 n3))
  generalize w2.drewN n3 = w3 at *
  clear H2
  go_wp2_with fail
  refine (rbyte_any lo rb _ _ w3 H3.out.rd).mono ?_
  rintro e w4 ⟨rfl, hp⟩
  have H4 := Lib.hid (H3.out.step hp)
  rw [HNy.out]
  clear H3 hp
  go_wp2_with fail
  have h5 := H4.out.box #[.int .u8 (c : Nat), .int .u8 (y : Nat), .slice none 0 0] 40
  have H5 := Lib.hid h5
  generalize w4.alloc (.cells #[.int .u8 (c : Nat), .int .u8 (y : Nat), .slice none 0 0] 40) = w5 at *
  generalize w4.heap.size = cb at *
  clear h5 H4
  refine (rshort_any lo rb _ _ w5 H5.out.s.rd).mono ?_
  rintro e w6 ⟨rfl, hp⟩
  have h6 := H5.out.step hp
  rw [HNs.out.1, HNs.out.2] at h6
  have H6 := Lib.hid h6
  clear H5 h6 hp
  obtain ⟨s, hs⟩ : ∃ s : Nat, rdN 2 (rawR 1 (rawR 1 L)) = s := ⟨_, rfl⟩
  rw [hs] at hsl HNl ⊢
  go_wp2_with fail
  refine (HF6.out _).mono ?_
  rintro e w7 ⟨rfl, n7, rfl⟩
  have H7 := Lib.hid (H6.out.fr0 (Fr.drewN w6 n7))
  generalize w6.drewN n7 = w7 at *
  clear H6
  go_upto_if 21 with fail
  go_cut [] (fun wx => C2 w lo rb bx cb (.cells #[.int .u8 (c : Nat), .int .u8 (y : Nat), .slice none 0 0] 40 (0, 0)) (fmL f (stL L)) (fmE f (stE L)) wx)
  case first =>
    by_cases hq : q = 2
    · have hq2 : ((q : Int) != 2) = false := by simp; omega
      have e1 := HFm.out.1
      have e2 := HFm.out.2
      rw [if_pos hq] at e1 e2
      have H8 := H7
      rw [← e1, ← e2] at H8
      clear e1 e2 hq
      go_wp2_with fail
      go_meet
      case rel => exact H8.out
    · have hq2 : ((q : Int) != 2) = true := by simp; omega
      have e1 := HFm.out.1
      have e2 := HFm.out.2
      rw [if_neg hq] at e1 e2
      have HE := Lib.hid (And.intro e1 e2)
      clear e1 e2 hq
      go_wp2_with fail
      refine (rwrong_any lo rb _ _ 2 w7 H7.out.s.rd (by decide)).mono ?_
      rintro e w8 ⟨rfl, hp⟩
      have h8 := H7.out.step hp
      rw [← HE.out.1, ← HE.out.2] at h8
      have H8 := Lib.hid h8
      clear hp h8
      go_wp2_with fail
      go_meet
      case rel => exact H8.out
  case rest =>
    have H8 := Lib.hid hcut
    clear hcut H7
    generalize wc = w8 at *
    have hraw := rraw_any lo rb (4 * s) _ _ w8 H8.out.s.rd (by omega)
    rw [show ((4 * s : Nat) : Int) = 4 * (s : Int) by omega, RawPost.eq, HNl.out] at hraw
    have hbl : (bdB L).length ≤ 1000000 := by
      rw [bdB, rawL]; split
      · rw [List.length_take, ← HNl.out]; omega
      · simp
    have hB1 : rawL (lenN L) (fmL (fstN L) (stL L)) = bdB L := rfl
    have hB2 : rawR (lenN L) (fmL (fstN L) (stL L)) = bdL L := rfl
    have hB3 : rawE (lenN L) (fmL (fstN L) (stL L)) (fmE (fstN L) (stE L)) = bdE L := rfl
    rw [show fstN L = f from HNf.out] at hB1 hB2 hB3
    rw [hB1, hB2, hB3] at hraw
    have HRaw := Lib.hid hraw
    clear hraw hB1 hB2 hB3
    go_wp2_with fail
    refine HRaw.out.mono ?_
    rintro e w9 ⟨v, rfl, hv, hp⟩
    have h9 := H8.out.step hp
    obtain ⟨A, cc, rfl, hcc, hccm, _⟩ := bs_parts hv.1
    obtain ⟨k0, k1, k2, z2⟩ := h9.cells
    have h10 := h9.set 2 (.slice A (bdB L).length cc)
    have hv10 := h9.bs hv (fun k hk => hk.2) 2 (.slice A (bdB L).length cc)
    rw [show (#[Value.int .u8 (c : Nat), .int .u8 (y : Nat), .slice none 0 0].setIfInBounds 2 (.slice A (bdB L).length cc)) = #[.int .u8 (c : Nat), .int .u8 (y : Nat), .slice A (bdB L).length cc] from rfl] at h10
    have H10 := Lib.hid h10
    have HV := Lib.hid hv10
    clear h9 h10 hv hv10 hp H8 HRaw
    go_wp2_with fail
    generalize w9.setCell ⟨cb, 2, none⟩ (.slice A (bdB L).length cc) = w10 at *
    clear k0 k1 k2 z2
    refine (HF1.out _).mono ?_
    rintro e w11 ⟨rfl, n11, rfl⟩
    have H11 := Lib.hid (H10.out.fr0 (Fr.drewN w10 n11))
    have HV11 := Lib.hid (HV.out.fr (Fr.drewN w10 n11) (fun _ _ _ h => h))
    generalize w10.drewN n11 = w11 at *
    clear H10 HV
    by_cases hpp : p = 1
    · have hp1 : ((p : Int) == 1) = true := by simp; omega
      have hPd := HPd.out
      rw [decide_eq_true hpp] at hPd
      have HR := Lib.hid (show rdB L = upB (bdB L) (bdL L) ∧ rdL L = upL (bdB L) (bdL L) ∧ rdE L = upE (bdB L) (bdL L) (bdE L) by rw [rdB, rdL, rdE, hPd]; exact ⟨rfl, rfl, rfl⟩)
      clear hpp hPd
      obtain ⟨k0, k1, k2, z2⟩ := H11.out.cells
      go_wp2_with fail
      refine (cunpad_any lo rb (bdB L) (bdL L) (bdE L) _ w11 H11.out.s.rd HV11.out hbl).mono ?_
      rintro e w12 ⟨u, rfl, hu12, hp⟩
      rw [← HR.out.1] at hu12
      rw [← HR.out.2.1, ← HR.out.2.2] at hp
      have h12 := H11.out.step hp
      obtain ⟨A2, cc2, rfl, _, hccm2, _⟩ := bs_parts hu12.1
      obtain ⟨k0, k1, k2, z2⟩ := h12.cells
      have h13 := h12.set 2 (.slice A2 (rdB L).length cc2)
      have hv13 := h12.bs hu12 (fun k hk => hk.2) 2 (.slice A2 (rdB L).length cc2)
      rw [show (#[Value.int .u8 (c : Nat), .int .u8 (y : Nat), .slice A (bdB L).length cc].setIfInBounds 2 (.slice A2 (rdB L).length cc2)) = #[.int .u8 (c : Nat), .int .u8 (y : Nat), .slice A2 (rdB L).length cc2] from rfl] at h13
      have H12 := Lib.hid h13
      have HV12 := Lib.hid hv13
      clear h12 h13 hv13 hu12 hp HR
      go_upto_region 9 with fail
      generalize w12.setCell ⟨cb, 2, none⟩ (.slice A2 (rdB L).length cc2) = w13 at *
      clear k0 k1 k2 z2
      obtain ⟨k0, k1, k2, z2⟩ := H12.out.cells
      obtain ⟨m0, m1, m2, y0, y1, y2⟩ := H12.out.s.cells
      go_wp2_with fail
      generalize hW : World.setCell _ _ _ = wf
      obtain ⟨hx, hfx⟩ := obj_set3 H12.out.s.res _ _ _ wf hW.symm
      clear hW k0 k1 k2 z2 m0 m1 m2 y0 y1 y2
      have k0 := obj_cell hx 0
      have k1 := obj_cell hx 1
      have k2 := obj_cell hx 2
      simp only [List.getElem?_toArray, List.getElem?_cons_succ, List.getElem?_cons_zero] at k0 k1 k2
      refine bodyPost_ret (v := (.agg #[.int .u8 (c : Nat), .int .u8 (y : Nat), .slice A2 (rdB L).length cc2])) (by simp [results, Try.results32, go_sem, k0, k1, k2]; try rfl) rfl ?_
      exact HQ.out _ _ (HFin.out bx _ _ _ H12.out.s HV12.out hfx)
    · have hp1 : ((p : Int) == 1) = false := by simp; omega
      have hPd := HPd.out
      rw [decide_eq_false hpp] at hPd
      have HR := Lib.hid (show bdB L = rdB L ∧ bdL L = rdL L ∧ bdE L = rdE L by rw [rdB, rdL, rdE, hPd]; exact ⟨rfl, rfl, rfl⟩)
      clear hpp hPd
      have H12 := H11
      have HV12 := HV11
      rw [HR.out.1, HR.out.2.1, HR.out.2.2] at H12
      rw [HR.out.1] at HV12 ⊢
      clear H11 HV11
      obtain ⟨k0, k1, k2, z2⟩ := H12.out.cells
      obtain ⟨m0, m1, m2, y0, y1, y2⟩ := H12.out.s.cells
      go_wp2_with fail
      generalize hW : World.setCell _ _ _ = wf
      obtain ⟨hx, hfx⟩ := obj_set3 H12.out.s.res _ _ _ wf hW.symm
      clear hW k0 k1 k2 z2 m0 m1 m2 y0 y1 y2
      have k0 := obj_cell hx 0
      have k1 := obj_cell hx 1
      have k2 := obj_cell hx 2
      simp only [List.getElem?_toArray, List.getElem?_cons_succ, List.getElem?_cons_zero] at k0 k1 k2
      refine bodyPost_ret (v := (.agg #[.int .u8 (c : Nat), .int .u8 (y : Nat), .slice A (rdB L).length cc])) (by simp [results, Try.results32, go_sem, k0, k1, k2]; try rfl) rfl ?_
      exact HQ.out _ _ (HFin.out bx _ _ _ H12.out.s HV12.out hfx)
end Go.Proofs.Ytphofpemblindaa
/- What splitting bytes into chunks tells: what holds at the head of each round. -/
namespace Go.Proofs.Ytphofpemblindaa
open Go.RowKit

def allOk (l : List DC) : Prop := ∀ d ∈ l, okC d
theorem allOk_snoc {l : List DC} {d : DC} (h : allOk l) (hd : okC d) : allOk (l ++ [d]) := by
  intro x hx
  rcases List.mem_append.1 hx with hx | hx
  · exact h x hx
  · rw [List.mem_singleton.1 hx]; exact hd
theorem all_snoc {l : List DC} {d : DC} (h : l.all rightC = true) (hd : rightC d = true) : (l ++ [d]).all rightC = true := by
  rw [List.all_append, h]; simp [hd]
/-- what Split tells of its bytes -/
structure SpR (b : List UInt8) (z : Int) (es : List DC) : Prop where
  fine : z = 0 → es.all rightC = true ∧ allOk es ∧ b.length ≤ 200 ∧ (encs es).length ≤ b.length ∧ ((encs es).length = b.length → encs es = b)
  back : ∀ d0 : List DC, d0 ≠ [] → d0.all rightC = true → allOk d0 → (encs d0).length ≤ 200 → b = encs d0 → z = 0 ∧ es = d0
  none : b = [] → z = 3
/-- what holds while it goes on -/
structure SpI (b L : List UInt8) (es : List DC) : Prop where
  all : es.all rightC = true
  ok : allOk es
  len : (encs es).length + L.length ≤ b.length
  eq : (encs es).length + L.length = b.length → encs es ++ L = b
  back : ∀ d0 : List DC, d0 ≠ [] → d0.all rightC = true → allOk d0 → b = encs d0 → ∃ d rest, d0 = es ++ d :: rest ∧ L = encC d ++ encs rest ∧ rightC d = true ∧ okC d
  none : b = [] → L = []
theorem SpI.start (b : List UInt8) : SpI b b [] := by
  refine ⟨rfl, fun _ h => absurd h (by simp), by simp [encs], fun _ => rfl, fun d0 h0 h1 h2 h3 => ?_, fun h => h⟩
  match d0, h0 with
  | d :: rest, _ =>
    simp only [List.all_cons, Bool.and_eq_true] at h1
    exact ⟨d, rest, rfl, h3, h1.1, h2 d (List.mem_cons_self ..)⟩
theorem encs_nil_iff {l : List DC} (h : encs l = []) : l = [] := by
  match l with
  | [] => rfl
  | d :: l =>
    have := congrArg List.length h
    rw [encs_cons, List.length_append, encC_len] at this
    simp at this
theorem SpI.fine {b L : List UInt8} {es : List DC} (h : SpI b L es) (h200 : b.length ≤ 200) (he : rdE L = 0) :
    (es ++ [rdD L]).all rightC = true ∧ allOk (es ++ [rdD L]) ∧ (encs (es ++ [rdD L])).length + (rdL L).length ≤ b.length ∧ ((encs (es ++ [rdD L])).length + (rdL L).length = b.length → encs (es ++ [rdD L]) ++ rdL L = b) := by
  have hl := h.len
  obtain ⟨r1, r2, r3, r4⟩ := rd_fine L he (by omega)
  refine ⟨all_snoc h.all r1, allOk_snoc h.ok r2, ?_, fun hx => ?_⟩
  · rw [encs_snoc, List.length_append]; omega
  · rw [encs_snoc, List.length_append] at hx
    rw [encs_snoc, List.append_assoc, r4 (by omega)]
    exact h.eq (by omega)
theorem SpI.next {b L : List UInt8} {es : List DC} (h : SpI b L es) (h200 : b.length ≤ 200) (he : rdE L = 0) (hn : rdL L ≠ []) : SpI b (rdL L) (es ++ [rdD L]) := by
  obtain ⟨f1, f2, f3, f4⟩ := h.fine h200 he
  refine ⟨f1, f2, f3, f4, fun d0 h0 h1 h2 h3 => ?_, fun hb => ?_⟩
  · obtain ⟨d, rest, rfl, hL, k1, k2⟩ := h.back d0 h0 h1 h2 h3
    obtain ⟨e1, e2, _⟩ := rd_back d (encs rest) k1 k2
    rw [← hL] at e1 e2
    rw [e2] at hn
    cases rest with
    | nil => exact absurd rfl hn
    | cons d' rest =>
      rw [List.all_append, Bool.and_eq_true, List.all_cons, List.all_cons, Bool.and_eq_true, Bool.and_eq_true] at h1
      exact ⟨d', rest, by rw [e1]; simp, by rw [e2]; rfl, h1.2.2.1, h2 d' (by simp)⟩
  · have := h.none hb
    subst this
    rw [(rd_short [] (by decide)).1] at he
    exact absurd he (by decide)
theorem SpI.done {b L : List UInt8} {es : List DC} (h : SpI b L es) (h200 : b.length ≤ 200) (he : rdE L = 0) (hn : rdL L = []) : SpR b 0 (es ++ [rdD L]) := by
  obtain ⟨f1, f2, f3, f4⟩ := h.fine h200 he
  rw [hn] at f3 f4
  refine ⟨fun _ => ⟨f1, f2, h200, by simpa using f3, fun hx => by simpa using f4 (by simpa using hx)⟩, fun d0 h0 h1 h2 _ h3 => ?_, fun hb => ?_⟩
  · obtain ⟨d, rest, rfl, hL, k1, k2⟩ := h.back d0 h0 h1 h2 h3
    obtain ⟨e1, e2, _⟩ := rd_back d (encs rest) k1 k2
    rw [← hL] at e1 e2
    rw [hn] at e2
    rw [encs_nil_iff e2.symm, e1]
    exact ⟨rfl, rfl⟩
  · have := h.none hb
    subst this
    rw [(rd_short [] (by decide)).1] at he
    exact absurd he (by decide)
theorem SpI.bad {b L : List UInt8} {es : List DC} (h : SpI b L es) (he : rdE L ≠ 0) : SpR b (rdE L) [] := by
  refine ⟨fun h => absurd h he, fun d0 h0 h1 h2 _ h3 => ?_, fun hb => ?_⟩
  · obtain ⟨d, rest, rfl, hL, k1, k2⟩ := h.back d0 h0 h1 h2 h3
    have := (rd_back d (encs rest) k1 k2).2.2
    rw [← hL] at this
    exact absurd this he
  · have := h.none hb
    subst this
    exact (rd_short [] (by decide)).1
theorem SpR.long {b : List UInt8} (h : 200 < b.length) : SpR b 4 [] :=
  ⟨fun h => absurd h (by decide), fun d0 _ _ _ h1 h2 => by rw [h2] at h; omega, fun hb => by rw [hb] at h; simp at h⟩
/-! ### the state -/
structure SpS (w0 : World) (rb : Nat) (b L : List UInt8) (u : Value) (ts : List Ck) (w : World) : Prop where
  rd : Rd w0.heap.size w rb L 0
  own : w.ownsRow (rb + 1) 40 3 u ts.length (cellsC ts)
  ok : ∀ t ∈ ts, t.n < 256 ∧ t.y < 256 ∧ BSx (fun k => w0.heap.size ≤ k ∧ k < rb) w t.v t.b
  below : Below w0.heap.size w0 w
  inv : SpI b L (ds ts)
/-- behind a round -/
structure SpT (w0 : World) (rb : Nat) (L : List UInt8) (e : Int) (u : Value) (ts : List Ck) (w : World) : Prop where
  rd : Rd w0.heap.size w rb L e
  own : w.ownsRow (rb + 1) 40 3 u ts.length (cellsC ts)
  ok : ∀ t ∈ ts, t.n < 256 ∧ t.y < 256 ∧ BSx (fun k => w0.heap.size ≤ k ∧ k < rb) w t.v t.b
  below : Below w0.heap.size w0 w
theorem SpT.items {w0 w : World} {rb : Nat} {L : List UInt8} {e : Int} {u : Value} {ts : List Ck} (h : SpT w0 rb L e u ts w) : CkS w u ts :=
  own_chunks rfl h.own (fun t ht => ⟨(h.ok t ht).1, (h.ok t ht).2.1, (h.ok t ht).2.2.1⟩)
theorem SpS.app {w0 w w1 w3 : World} {rb : Nat} {b L : List UInt8} {u u' v : Value} {ts : List Ck} (h : SpS w0 rb b L u ts w) (hp : RPost w0.heap.size w rb (rdL L) (rdE L) w1) (hv : BSx (fun k => w0.heap.size ≤ k ∧ k < rb) w1 v (rdB L)) (o : Obj)
    (ho : w3.ownsRow (rb + 1) 40 3 u' (ts.length + 1) (cellsC ts ++ [.int .u8 (fstN L % 32 : Nat), .int .u8 (typN L : Nat), v])) (hg : (w1.alloc o).grownBy w3 u.ownBlock) :
    SpT w0 rb (rdL L) (rdE L) u' (ts ++ [⟨fstN L % 32, typN L, v, rdB L⟩]) w3 := by
  have hsz := h.below.size
  have hsz1 := hp.2.size
  have hrb := h.rd.lt
  have hlt : ∀ k, some k = u.ownBlock → rb + 1 ≤ k := fun k hk => (h.own.lt k hk.symm).1
  have hf := Fr.grown hg
  have ha := Fr.alloc w1 o
  have hyl : typN L < 256 := rdN_lt 1 (rawR 1 L)
  refine ⟨?_, ?_, ?_, ?_⟩
  · exact (hp.1.fr0 ha).fr hf (fun k _ hk hx => by have := hlt k hx; omega)
  · have e1 : (ts ++ [(⟨fstN L % 32, typN L, v, rdB L⟩ : Ck)]).length = ts.length + 1 := by simp
    rw [e1, ← cellsC_snoc]; exact ho
  · have key : ∀ (v : Value) (l : List UInt8), BSx (fun k => w0.heap.size ≤ k ∧ k < rb) w1 v l → BSx (fun k => w0.heap.size ≤ k ∧ k < rb) w3 v l := fun v l hb =>
      (hb.fr ha (fun _ _ _ h => h)).fr hf (fun k _ hk hx => by have := hlt k hx; omega)
    intro t ht
    rcases List.mem_append.1 ht with ht | ht
    · exact ⟨(h.ok t ht).1, (h.ok t ht).2.1, key _ _ ((h.ok t ht).2.2.fr hp.2 (fun k _ hk (hx : k = rb) => by omega))⟩
    · obtain rfl := List.mem_singleton.1 ht
      exact ⟨by show fstN L % 32 < 256; omega, hyl, key _ _ hv⟩
  · exact ((h.below.trans (hp.2.below hsz (fun k (hk : k = rb) => by omega))).alloc (by omega) o).grown hg (by rw [World.size_alloc]; omega) (fun k hk => by have := hlt k hk.symm; omega)
theorem ds_app (ts : List Ck) (t : Ck) : ds (ts ++ [t]) = ds ts ++ [t.d] := by simp [ds]
theorem SpT.next {w0 w3 : World} {rb : Nat} {b L : List UInt8} {u' v : Value} {ts : List Ck} (h : SpT w0 rb (rdL L) (rdE L) u' (ts ++ [⟨fstN L % 32, typN L, v, rdB L⟩]) w3) (hi : SpI b L (ds ts)) (h200 : b.length ≤ 200) (hn : rdL L ≠ []) :
    SpS w0 rb b (rdL L) u' (ts ++ [⟨fstN L % 32, typN L, v, rdB L⟩]) w3 := by
  have he : rdE L = 0 := Classical.byContradiction fun he => hn (rd_wrong L he)
  have hr := h.rd
  rw [he] at hr
  refine ⟨hr, h.own, h.ok, h.below, ?_⟩
  rw [ds_app]
  exact hi.next h200 he hn
/-- how many bytes a reader has left -/
def leftOf (v : Value) (w : World) : Nat :=
  match v with
  | .pointer (some a) => match w.heap[a.block]? with
    | some (.cells cs _ _) => slen (cs.getD 0 undef)
    | _ => 0
  | _ => 0
theorem Rd.leftOf {lo rb : Nat} {w : World} {L : List UInt8} {e : Int} (h : Rd lo w rb L e) : leftOf (.pointer (some ⟨rb, 0, none⟩)) w = L.length := by
  obtain ⟨_, _, v, hh, hb⟩ := h
  obtain ⟨A, c, rfl, _⟩ := bs_parts hb.1
  simp [Go.Proofs.Ytphofpemblindaa.leftOf, hh, slen]
theorem rdL_lt (L : List UInt8) (h : L ≠ []) : (rdL L).length < L.length := by
  by_cases h4 : L.length < 4
  · rw [(rd_short L h4).2]
    cases L with
    | nil => exact absurd rfl h
    | cons x l => simp
  · have hs : (stL L).length + 4 = L.length := by
      obtain ⟨a, b, c, d, M, rfl⟩ := four_of L h4
      rw [(rd_four a b c d M).2.2.2.1]; simp
    have hb : (bdL L).length ≤ (stL L).length := by
      rw [bdL, rawR, fmL]
      split
      · split <;> simp
      · simp
    have hr : (rdL L).length ≤ (bdL L).length := by
      rw [rdL, upL]
      split
      · split <;> simp
      · exact Nat.le_refl _
    omega
end Go.Proofs.Ytphofpemblindaa
/- Items of compound as data: what may be, their chunks, what reading bytes tells; what is asked, and lost. -/
namespace Go.Proofs.Ytphofpemblindaa
open Go.RowKit

/-! ### what is read of feed may be -/
theorem asc_next {x y : Int} {S : List Int} (h : Asc x 0 (y :: S)) : 0 < ahd 65536 x y := by
  obtain ⟨i, _, hi, rfl, _⟩ := h
  unfold ahd aft
  split <;> omega
theorem ris_suffix : ∀ (l : List Int), (∀ q x S, l = q ++ x :: S → Asc x 0 S) → risB l = true
  | [], _ => rfl
  | [_], _ => rfl
  | x :: y :: r, h => by
    rw [risB, Bool.and_eq_true, decide_eq_true_eq]
    exact ⟨asc_next (h [] x (y :: r) rfl), ris_suffix (y :: r) fun q z S e => h (x :: q) z S (by rw [e]; rfl)⟩
theorem ris_nums1 (p : Int × Nat) : risB (nums1 p) = true := ris_suffix _ fun q x S h => nums1_suffix p q x S h
theorem ris_app : ∀ (a b : List Int) (x : Int), risB a = true → risB (x :: b) = true → newOk a x = true → risB (a ++ x :: b) = true
  | [], _, _, _, hb, _ => hb
  | [z], b, x, _, hb, hn => by
    show (decide _ && risB (x :: b)) = true
    rw [hb, Bool.and_true]
    simpa [newOk] using hn
  | z :: y :: r, b, x, ha, hb, hn => by
    rw [risB, Bool.and_eq_true] at ha
    show (decide _ && risB ((y :: r) ++ x :: b)) = true
    rw [ha.1, Bool.true_and]
    exact ris_app (y :: r) b x ha.2 hb (by simpa [newOk, List.getLast?_cons_cons] using hn)
theorem ris_of_ok : ∀ (ps : List (Int × Nat)) (acc : List Int), risB acc = true → okL acc ps = true → risB (acc ++ numsP ps) = true
  | [], acc, h, _ => by simpa [numsP] using h
  | p :: ps, acc, h, ho => by
    rw [okL, Bool.and_eq_true] at ho
    obtain ⟨t, ht⟩ := nums1_head p
    have h1 := ris_nums1 p
    rw [numsP_cons, ← List.append_assoc]
    refine ris_of_ok ps _ ?_ ho.2
    rw [ht] at h1 ⊢
    exact ris_app acc t p.1 h h1 ho.1
theorem rightM_read {d : DC} (h : rdEM d = 0) : rightM (readM d) = true := by
  obtain ⟨n, y, B⟩ := d
  have h0 := h
  rw [rdEM] at h
  simp only at h
  split at h
  · next hr =>
    have hl := (right_iffC.1 hr).2.2
    simp only at hl
    split at h
    · cases h
    · next hk =>
      split at h
      · cases h
      · next h8 =>
        obtain ⟨_, _, h3⟩ := mark_kind n y hk
        have hR := rawR_len 8 B (by omega)
        rw [readM, if_pos h0]
        simp only [restM]
        generalize rdN 4 (rawR 4 B) = me at *
        generalize rawR 8 B = R at *
        rcases h3 with h3 | h3 | h3 <;> rw [h3] at h ⊢
        · simp [rightM]
        · simp only [restE, show (2 : Int) ≠ 1 by decide, if_false, if_true] at h
          split at h
          · next hx =>
            obtain ⟨rfl, h4, h5⟩ := hx
            have hal : (decAs R).length = R.length / 8 := decAF_len _ _
            simp [rightM, hal]
            omega
          · cases h
        · simp only [restE, show (3 : Int) ≠ 1 by decide, show (3 : Int) ≠ 2 by decide, if_false] at h
          split at h
          · next hx =>
            obtain ⟨h4, h5⟩ := hx
            have hpl : (decPs R).length = R.length / 4 := decPF_len _ _
            have hle := pairs_least (decPs R) [] (numsP (decPs R)) rfl
            have hln := (numsP_len (decPs R)).1
            have hr3 := ris_of_ok (decPs R) [] rfl h5
            rw [List.nil_append] at hr3
            have h6 : (pairsL (numsP (decPs R))).length ≤ 47 := by omega
            have hR4 : R.length % 4 = 0 := by
              have := (right_iffC.1 hr).2.1
              simp only at this
              omega
            have h7 : 0 < (numsP (decPs R)).length := by omega
            simp [rightM, hr3, fitsL, h6]
            exact h7
          · cases h
  · cases h
/-! ### items -/
abbrev cZero : DC := (0, 0, [])
structure DI where
  k : Int
  r : DR
  m : DM
  c : DC
def DI.zero : DI := ⟨0, DR.zero, DM.zero, cZero⟩
structure DI.Ok (x : DI) : Prop where
  r : x.r.Ok
  m : x.m.Ok
  n : x.c.1 < 256
  y : x.c.2.1 < 256
def noR (r : DR) : Bool := (!r.sd && decide (r.so = 0)) && (noInfo r && decide (r.bl.length = 0))
def noM (m : DM) : Bool := (decide (m.k = 0) && decide (m.se = 0)) && (decide (m.me = 0) && (decide (m.ak.length = 0) && decide (m.lo.length = 0)))
def noC (c : DC) : Bool := decide (c.1 = 0) && (decide (c.2.1 = 0) && decide (c.2.2.length = 0))
theorem noR_iff {r : DR} : noR r = true ↔ r = DR.zero := by
  obtain ⟨sd, so, i0, i1, i2, i3, i4, bl⟩ := r
  simp [noR, noInfo, DR.zero]
  constructor
  · rintro ⟨⟨rfl, rfl⟩, ⟨rfl, rfl, rfl, rfl, rfl⟩, rfl⟩; simp
  · rintro ⟨rfl, rfl, rfl, rfl, rfl, rfl, rfl, rfl⟩; simp
theorem noM_iff {m : DM} : noM m = true ↔ m = DM.zero := by
  obtain ⟨k, se, me, ak, lo⟩ := m
  simp [noM, DM.zero, and_assoc]
theorem noC_iff {c : DC} : noC c = true ↔ c = cZero := by
  obtain ⟨n, y, b⟩ := c
  simp [noC]
def otherC (c : DC) : Bool := decide (rdErr c = 5) && decide (rdEM c = 5)
def rightI (x : DI) : Bool :=
  if x.k = 1 then rightR x.r && (noM x.m && noC x.c)
  else if x.k = 2 then noR x.r && (rightM x.m && noC x.c)
  else if x.k = 3 then noR x.r && (noM x.m && otherC x.c)
  else false
def chunkI (x : DI) : DC := if x.k = 1 then chunkR x.r else if x.k = 2 then chunkM x.m else x.c
def wrEI (x : DI) : Int := if rightI x then 0 else 1
def wrCI (x : DI) : DC := if rightI x then chunkI x else cZero
def wrEL (l : List DI) : Int := if l.all rightI then joE (l.map chunkI) else 1
def wrBL (l : List DI) : List UInt8 := if l.all rightI then joB (l.map chunkI) else []
def itemC (d : DC) : DI :=
  if rdErr d ≠ 5 then ⟨1, readR d, DM.zero, cZero⟩
  else if rdEM d ≠ 5 then ⟨2, DR.zero, readM d, cZero⟩
  else ⟨3, DR.zero, DM.zero, d⟩
def errC (d : DC) : Int := if rdErr d ≠ 5 then rdErr d else if rdEM d ≠ 5 then rdEM d else 0
def firstE : List Int → Int
  | [] => 0
  | e :: r => if e = 0 then firstE r else e
theorem firstE_zero {l : List Int} : firstE l = 0 ↔ ∀ e ∈ l, e = 0 := by
  induction l with
  | nil => simp [firstE]
  | cons e l ih =>
    rw [firstE]
    split
    · next h => subst h; simp [ih]
    · next h => simp [h]
def askedI (x : DI) : List Nat := if x.k = 2 then (if x.m.k = 1 then [x.m.me] else if x.m.k = 2 then x.m.ak.map Prod.fst else []) else []
def askedL (l : List DI) : List Nat := (l.map askedI).flatten
theorem askedL_app (l m : List DI) : askedL (l ++ m) = askedL l ++ askedL m := by simp [askedL]
def lostI (md : Nat) (x : DI) : Nat := if x.k = 2 ∧ x.m.k = 3 ∧ x.m.me = md then x.m.lo.length else 0
def lostL (md : Nat) (l : List DI) : Nat := (l.map (lostI md)).sum
theorem lostL_app (md : Nat) (l m : List DI) : lostL md (l ++ m) = lostL md l + lostL md m := by simp [lostL]
theorem drZero_ok : DR.zero.Ok := ⟨by decide, by decide, by decide, by decide, by decide, by decide, fun b hb => absurd hb (by simp [DR.zero])⟩
theorem dmZero_ok : DM.zero.Ok := ⟨by decide, by decide, fun a ha => absurd ha (by simp [DM.zero]), fun a ha => absurd ha (by simp [DM.zero])⟩
theorem readR_ok (d : DC) : (readR d).Ok := by
  rw [readR]; split
  · exact decR_ok d
  · exact drZero_ok
theorem itemC_ok {d : DC} (hn : d.1 < 256) (hy : d.2.1 < 256) : (itemC d).Ok := by
  unfold itemC
  split
  · exact ⟨readR_ok d, dmZero_ok, Nat.zero_lt_succ _, Nat.zero_lt_succ _⟩
  · split
    · exact ⟨drZero_ok, readM_ok d, Nat.zero_lt_succ _, Nat.zero_lt_succ _⟩
    · exact ⟨drZero_ok, dmZero_ok, hn, hy⟩
/-- what is read may be -/
theorem read_rightI {d : DC} (h : errC d = 0) : rightI (itemC d) = true := by
  unfold errC at h
  unfold itemC
  split
  · next h1 =>
    rw [if_pos h1] at h
    have h2 := (back_c h).1
    have h3 : readR d = decR d := by rw [readR, if_pos h]
    simp [rightI, h3, h2, noM_iff, noC]
  · next h1 =>
    rw [if_neg h1] at h
    split
    · next h2 =>
      rw [if_pos h2] at h
      simp [rightI, rightM_read h, noR_iff, noC]
    · next h2 =>
      simp only [ne_eq, Decidable.not_not] at h1 h2
      simp [rightI, noR_iff, noM_iff, otherC, h1, h2]
theorem kind_isR {n y : Nat} (h : kindN n y ≠ 0) : isR y = false := by
  unfold kindN at h
  unfold isR
  by_cases h1 : y = 206
  · subst h1; decide
  · by_cases h2 : y = 205
    · subst h2; decide
    · simp [h1, h2] at h
/-- items come back from their chunks -/
theorem back_i {x : DI} (h : rightI x = true) (ho : x.Ok) : rightC (chunkI x) = true ∧ (chunkI x).1 < 256 ∧ (chunkI x).2.1 < 256 ∧ errC (chunkI x) = 0 ∧ itemC (chunkI x) = x := by
  obtain ⟨k, r, m, c⟩ := x
  unfold rightI at h
  simp only at h
  have hor := ho.r
  have hom := ho.m
  have hon := ho.n
  have hoy := ho.y
  simp only at hor hom hon hoy
  split at h
  · next hk =>
    subst hk
    rw [Bool.and_eq_true, Bool.and_eq_true, noM_iff, noC_iff] at h
    obtain ⟨h1, rfl, rfl⟩ := h
    obtain ⟨g1, g2, g3, _⟩ := back_r h1 hor
    have g4 := readR_back h1 hor
    have hc : chunkI ⟨1, r, DM.zero, cZero⟩ = chunkR r := rfl
    rw [hc]
    have hle := (right_iffC.1 g1).1
    refine ⟨g1, by omega, g2, ?_, ?_⟩
    · rw [errC, g3]; rfl
    · rw [itemC, g3, g4]; rfl
  · split at h
    · next hk =>
      subst hk
      rw [Bool.and_eq_true, Bool.and_eq_true, noR_iff, noC_iff] at h
      obtain ⟨rfl, h1, rfl⟩ := h
      obtain ⟨g1, g2, g3, g4⟩ := back_m h1 hom
      have hc : chunkI ⟨2, DR.zero, m, cZero⟩ = chunkM m := rfl
      rw [hc]
      have hle := (right_iffC.1 g1).1
      have h5 : rdErr (chunkM m) = 5 := by
        have hk := kind_mark m.k (right_kind h1)
        have : kindN (cntM m.k) (typM m.k) ≠ 0 := by
          rw [hk]; rcases right_kind h1 with h | h | h <;> omega
        have := kind_isR this
        rw [rdErr, if_pos g1, show (chunkM m).2.1 = typM m.k from rfl, this]; rfl
      refine ⟨g1, by omega, g2, ?_, ?_⟩
      · rw [errC, h5, g3]; rfl
      · rw [itemC, h5, g3, g4]; rfl
    · split at h
      · next hk =>
        subst hk
        rw [Bool.and_eq_true, Bool.and_eq_true, noR_iff, noM_iff] at h
        obtain ⟨rfl, rfl, h1⟩ := h
        have hc : chunkI ⟨3, DR.zero, DM.zero, c⟩ = c := rfl
        rw [hc]
        simp only [otherC, Bool.and_eq_true, decide_eq_true_eq] at h1
        refine ⟨?_, hon, hoy, ?_, ?_⟩
        · cases hr : rightC c
          · have := h1.1
            rw [rdErr, hr, if_neg (by decide)] at this; exact absurd this (by decide)
          · rfl
        · rw [errC, h1.1, h1.2]; rfl
        · rw [itemC, h1.1, h1.2]; rfl
      · cases h
theorem map_back {l : List DI} (h : l.all rightI = true) (ho : ∀ x ∈ l, x.Ok) : (l.map chunkI).all rightC = true ∧ allOk (l.map chunkI) ∧ (l.map chunkI).map itemC = l ∧ ∀ e ∈ (l.map chunkI).map errC, e = 0 := by
  induction l with
  | nil => exact ⟨rfl, fun _ h => absurd h (by simp), rfl, fun _ h => absurd h (by simp)⟩
  | cons x l ih =>
    rw [List.all_cons, Bool.and_eq_true] at h
    obtain ⟨g1, g2, g3, g4⟩ := ih h.2 (fun y hy => ho y (List.mem_cons_of_mem _ hy))
    obtain ⟨f1, f2, f3, f4, f5⟩ := back_i h.1 (ho x (List.mem_cons_self ..))
    refine ⟨by rw [List.map_cons, List.all_cons, f1, g1]; rfl, ?_, by rw [List.map_cons, List.map_cons, f5, g3], ?_⟩
    · intro d hd
      rcases List.mem_cons.1 hd with rfl | hd
      · exact f3
      · exact g2 d hd
    · intro e he
      rcases List.mem_cons.1 he with rfl | he
      · exact f4
      · exact g4 e he
/-- what writing tells, in three ways -/
theorem wr_cases {l : List DI} (_ho : ∀ x ∈ l, x.Ok) : (wrEL l ≠ 0 ∧ wrBL l = []) ∨ (wrEL l = 0 ∧ wrBL l = encs (l.map chunkI) ∧ l.all rightI = true ∧ (encs (l.map chunkI)).length ≤ 200) := by
  unfold wrEL wrBL
  by_cases h : l.all rightI = true
  · rw [if_pos h, if_pos h]
    rcases jo_cases (l.map chunkI) with h1 | ⟨h1, h2, _, h4⟩
    · exact .inl h1
    · exact .inr ⟨h1, h2, h, h4⟩
  · rw [if_neg h, if_neg h]
    exact .inl ⟨by decide, rfl⟩
/-- items come back from their bytes -/
theorem back_l {l : List DI} (ho : ∀ x ∈ l, x.Ok) (he : wrEL l = 0) (hne : l ≠ []) {z : Int} {es : List DC} (h : SpR (wrBL l) z es) : firstE (z :: es.map errC) = 0 ∧ es.map itemC = l := by
  rcases wr_cases ho with h1 | ⟨_, h2, h3, h4⟩
  · exact absurd he h1.1
  · obtain ⟨g1, g2, g3, g4⟩ := map_back h3 ho
    obtain ⟨rfl, rfl⟩ := h.back (l.map chunkI) (by simpa using hne) g1 g2 h4 h2
    refine ⟨firstE_zero.2 fun e he => ?_, g3⟩
    rcases List.mem_cons.1 he with rfl | he
    · rfl
    · exact g4 e he
/-- unlike items have unlike bytes -/
theorem inj_l {l m : List DI} (ho : ∀ x ∈ l, x.Ok) (hp : ∀ x ∈ m, x.Ok) (he : wrEL l = 0) (hf : wrEL m = 0) : wrBL l = wrBL m ↔ l = m := by
  constructor
  · intro h
    rcases wr_cases ho with h1 | ⟨_, h2, h3, h4⟩
    · exact absurd he h1.1
    · rcases wr_cases hp with k1 | ⟨_, k2, k3, k4⟩
      · exact absurd hf k1.1
      · rw [h2, k2] at h
        obtain ⟨g1, g2, g3, _⟩ := map_back h3 ho
        obtain ⟨f1, f2, f3, _⟩ := map_back k3 hp
        rw [← g3, ← f3, encs_inj _ _ g1 f1 g2 f2 h]
  · rintro rfl; rfl
/-- two rows, joined -/
theorem join_l {l m : List DI} (ho : ∀ x ∈ l, x.Ok) (hp : ∀ x ∈ m, x.Ok) :
    (wrEL l ≠ 0 ∨ wrEL m ≠ 0 → wrEL (l ++ m) ≠ 0 ∧ wrBL (l ++ m) = []) ∧
    (wrEL l = 0 → wrEL m = 0 → 200 < (wrBL l).length + (wrBL m).length → wrEL (l ++ m) = 4 ∧ wrBL (l ++ m) = []) ∧
    (wrEL l = 0 → wrEL m = 0 → (wrBL l).length + (wrBL m).length ≤ 200 → wrEL (l ++ m) = 0 ∧ wrBL (l ++ m) = wrBL l ++ wrBL m) := by
  have happ : ∀ x ∈ l ++ m, x.Ok := fun x hx => (List.mem_append.1 hx).elim (ho x) (hp x)
  have hlen : (encs ((l ++ m).map chunkI)).length = (encs (l.map chunkI)).length + (encs (m.map chunkI)).length := by
    rw [List.map_append, encs_app, List.length_append]
  rcases wr_cases ho with ⟨h1, _⟩ | ⟨h1, h2, h3, h4⟩
  · refine ⟨fun _ => ?_, fun h => absurd h h1, fun h => absurd h h1⟩
    rcases wr_cases happ with h5 | ⟨_, _, k3, k4⟩
    · exact h5
    · exfalso
      rw [List.all_append, Bool.and_eq_true] at k3
      refine h1 ?_
      rw [wrEL, if_pos k3.1]
      exact (jo_ok (map_back k3.1 ho).1 (by omega)).1
  · rcases wr_cases hp with ⟨f1, _⟩ | ⟨f1, f2, f3, f4⟩
    · refine ⟨fun _ => ?_, fun _ h => absurd h f1, fun _ h => absurd h f1⟩
      rcases wr_cases happ with h5 | ⟨_, _, k3, k4⟩
      · exact h5
      · exfalso
        rw [List.all_append, Bool.and_eq_true] at k3
        refine f1 ?_
        rw [wrEL, if_pos k3.2]
        exact (jo_ok (map_back k3.2 hp).1 (by omega)).1
    · have ha : (l ++ m).all rightI = true := by rw [List.all_append, h3, f3]; rfl
      have hc := (map_back ha happ).1
      refine ⟨fun h => h.elim (fun h => absurd h1 h) (fun h => absurd f1 h), fun _ _ h => ?_, fun _ _ h => ?_⟩
      · rw [wrEL, wrBL, if_pos ha, if_pos ha]
        exact jo_long hc (by rw [hlen]; rw [h2, f2] at h; exact h)
      · rw [wrEL, wrBL, if_pos ha, if_pos ha, h2, f2, ← encs_app, ← List.map_append]
        exact jo_ok hc (by rw [hlen]; rw [h2, f2] at h; exact h)
end Go.Proofs.Ytphofpemblindaa
/- The walks of wire's Writer. -/
namespace Go.Proofs.Ytphofpemblindaa
open Go.RowKit

/-- a writer in block pb, what is written in a row of its own (block ob), all from block B on -/
def Wr (B : Nat) (w : World) (pb : Nat) (ob : Option Nat) (l : List UInt8) : Prop :=
  B ≤ pb ∧ ob ≠ some pb ∧ ∃ v, v.ownBlock = ob ∧ w.heap[pb]? = some (.cells #[v] 105 (0, 0)) ∧ w.ownsRow B 5 1 v l.length (c8 l)
/-- the blocks of a writer -/
def WF (pb : Nat) (ob : Option Nat) : Nat → Prop := fun k => k = pb ∨ some k = ob
theorem Wr.fr {B : Nat} {w w' : World} {pb : Nat} {ob : Option Nat} {l : List UInt8} (h : Wr B w pb ob l) {F : Nat → Prop} (hf : Fr F w w') (hF : ∀ k, WF pb ob k → ¬ F k) : Wr B w' pb ob l := by
  obtain ⟨h1, h2, v, rfl, h3, h4⟩ := h
  exact ⟨h1, h2, v, rfl, hf.heap h3 (hF _ (.inl rfl)), hf.own h4 (fun k hk => hF k (.inr hk.symm))⟩
theorem Wr.fr0 {B : Nat} {w w' : World} {pb : Nat} {ob : Option Nat} {l : List UInt8} (h : Wr B w pb ob l) (hf : Fr F0 w w') : Wr B w' pb ob l := h.fr hf (fun _ _ h => h)
theorem Wr.lt {B : Nat} {w : World} {pb : Nat} {ob : Option Nat} {l : List UInt8} (h : Wr B w pb ob l) : ∀ k, WF pb ob k → B ≤ k ∧ k < w.heap.size := by
  obtain ⟨h1, h2, v, rfl, h3, h4⟩ := h
  intro k hk
  rcases hk with rfl | hk
  · exact ⟨h1, obj_lt h3⟩
  · exact h4.lt k hk.symm
/-- what a call on a writer leaves -/
def WPost (B : Nat) (w : World) (pb : Nat) (ob : Option Nat) (l : List UInt8) (w' : World) : Prop :=
  ∃ ob', Wr B w' pb ob' l ∧ Fr (WF pb ob) w w' ∧ (ob' = ob ∨ ∃ k, ob' = some k ∧ w.heap.size ≤ k)
set_option maxHeartbeats 400000 in
theorem wraw_any (B pb : Nat) (ob : Option Nat) (l : List UInt8) (v : Value) (x : List UInt8) (w : World) (hw : Wr B w pb ob l) (hx : BS w v x) (hm : l.length + x.length ≤ 140737488355328) :
    Calls Try.prog 65 #[.pointer (some ⟨pb, 0, none⟩), v] w fun e w' => e = .returned (.tuple #[]) ∧ WPost B w pb ob (l ++ x) w' := by
  obtain ⟨A, c, rfl, hc, hcm, hr⟩ := bs_parts hx
  obtain ⟨hB, hne, u, rfl, hh, ho⟩ := hw
  have hlt := obj_lt hh
  refine calls_q fun Q HQ => ?_
  have hcell := obj_cell hh 0
  have hfz := obj_frozen hh 0
  obtain ⟨A0, c0, rfl⟩ := own_slice ho
  simp only [List.getElem?_toArray, List.getElem?_cons_zero] at hcell
  have HR := Lib.hid hr
  have HO := Lib.hid ho
  have HH := Lib.hid hh
  have HN := Lib.hid hne
  clear hr hx ho hh hne
  go_enter Try.func65, Try.ntmps65
  go_wp2_with (at_builtin; refine wpl_app rfl _ _ 23 rfl B 5 (.int .u8 0) 1 Try.underlying23 (by kernel_rfl) rfl _ _ _ rfl HO.out _ _ _ (c8 x) rfl ?c1 (c8_one _) ?c2 ?c3 ?c4 ?c5)
  case c1 => exact src_of rfl HR.out
  case c2 => unfold maxLen; omega
  case c3 => omega
  case c4 => omega
  case c5 =>
    intro v' w1 hown hg hblk
    have hf := Fr.grown hg
    have hnp : ¬ (some pb = (Value.slice A0 l.length c0).ownBlock) := fun h => HN.out h.symm
    have hh1 := hf.heap HH.out hnp
    have hcell1 := obj_cell hh1 0
    have hfz1 := obj_frozen hh1 0
    simp only [List.getElem?_toArray, List.getElem?_cons_zero] at hcell1
    have hset := obj_set hh1 0 v'
    have hs := Fr.setCell w1 ⟨pb, 0, none⟩ v'
    have hne' : v'.ownBlock ≠ some pb := by
      rcases hblk with h | h
      · rw [h]; exact HN.out
      · rw [h]; intro h; injection h; omega
    have hown' := hs.own hown (fun k hk (h : k = pb) => hne' (by rw [hk, h]))
    have hpost : WPost B w pb (Value.slice A0 l.length c0).ownBlock (l ++ x) (w1.setCell ⟨pb, 0, none⟩ v') := by
      refine ⟨v'.ownBlock, ⟨hB, hne', v', rfl, by simpa using hset, ?_⟩, (hf.mono (fun k hk => .inl (.inr hk))).trans hs (fun k hk => .inl (.inl hk)), ?_⟩
      · rw [c8_app, List.length_append]; exact hown'
      · rcases hblk with h | h
        · exact .inl h
        · exact .inr ⟨_, h, Nat.le_refl _⟩
    have HP := Lib.hid hpost
    obtain ⟨A', c', rfl⟩ := own_slice hown
    clear hown hg hblk hf hh1 hset hs hne' hown' hpost hnp
    go_wp2_with fail
    go_end0
    exact HQ.out _ _ ⟨rfl, HP.out⟩

theorem WPost.after {B : Nat} {w w1 w' : World} {pb : Nat} {ob : Option Nat} {l : List UInt8} (hb : Below w.heap.size w w1) (h : WPost B w1 pb ob l w') : WPost B w pb ob l w' := by
  obtain ⟨ob', h1, h2, h3⟩ := h
  refine ⟨ob', h1, (Fr.of hb).mono (fun _ h => h.elim) |>.trans h2 (fun _ h => .inl h), ?_⟩
  rcases h3 with h3 | ⟨k, h3, h4⟩
  · exact .inl h3
  · exact .inr ⟨k, h3, Nat.le_trans hb.size h4⟩
set_option maxHeartbeats 400000 in
theorem wnumber_any (B pb : Nat) (ob : Option Nat) (l : List UInt8) (n s : Int) (w : World) (hw : Wr B w pb ob l) (hn : U64 n) (hm : l.length ≤ 140737488300000) :
    Calls Try.prog 80 #[.pointer (some ⟨pb, 0, none⟩), .int .u64 n, .int .i64 s] w fun e w' => e = .returned (.tuple #[]) ∧ WPost B w pb ob (l ++ bytesI n.toNat s) w' := by
  refine calls_q fun Q HQ => ?_
  go_enter Try.func80, Try.ntmps80
  go_wp2_with fail
  refine (bytes_any n s w hn).mono ?_
  rintro e w1 ⟨v, rfl, hv, hb⟩
  have HV := Lib.hid hv
  have HB := Lib.hid hb
  clear hv hb
  go_wp2_with fail
  refine (wraw_any B pb ob l v (bytesI n.toNat s) w1 (hw.fr0 (Fr.of HB.out)) HV.out ?_).mono ?_
  · have : (bytesI n.toNat s).length ≤ 8 := by
      unfold bytesI; split
      · rw [bytesL_len]; omega
      · simp
    omega
  rintro e w2 ⟨rfl, hp⟩
  have HP := Lib.hid hp
  clear hp
  go_wp2_with fail
  go_end0
  exact HQ.out _ _ ⟨rfl, HP.out.after HB.out⟩
theorem u64_of {m n : Int} (h : Fits m n) (hm : m ≤ 18446744073709551616) : U64 n := ⟨h.lo, by have := h.hi; omega⟩
set_option maxHeartbeats 400000 in
theorem wbyte_any (B pb : Nat) (ob : Option Nat) (l : List UInt8) (n : Int) (w : World) (hw : Wr B w pb ob l) (hn : Fits 256 n) (hm : l.length ≤ 140737488300000) :
    Calls Try.prog 62 #[.pointer (some ⟨pb, 0, none⟩), .int .u8 n] w fun e w' => e = .returned (.tuple #[]) ∧ WPost B w pb ob (l ++ bytesI n.toNat 1) w' := by
  have hu := u64_of hn (by decide)
  have hw1 := u64_id hu
  refine calls_q fun Q HQ => ?_
  go_enter Try.func62, Try.ntmps62
  go_wp2_with fail
  refine (wnumber_any B pb ob l n 1 w hw hu hm).mono ?_
  rintro e w2 ⟨rfl, hp⟩
  have HP := Lib.hid hp
  clear hp
  go_wp2_with fail
  go_end0
  exact HQ.out _ _ ⟨rfl, HP.out⟩

set_option maxHeartbeats 400000 in
theorem wbytes_any (B pb : Nat) (ob : Option Nat) (l : List UInt8) (w : World) (hw : Wr B w pb ob l) (hm : l.length ≤ 140737488355328) :
    Calls Try.prog 44 #[.pointer (some ⟨pb, 0, none⟩)] w fun e w' => ∃ u, e = .returned u ∧ w'.ownsRow w.heap.size 5 1 u l.length (c8 l) ∧ Below w.heap.size w w' := by
  obtain ⟨hB, hne, u, rfl, hh, ho⟩ := hw
  have hcell := obj_cell hh 0
  have hfz := obj_frozen hh 0
  obtain ⟨A0, c0, rfl⟩ := own_slice ho
  simp only [List.getElem?_toArray, List.getElem?_cons_zero] at hcell
  have HO := Lib.hid (own_bs ho)
  clear hh ho hne
  refine calls_q fun Q HQ => ?_
  go_enter Try.func44, Try.ntmps44
  go_wp2_with fail
  refine (clone_any _ l w HO.out hm).mono ?_
  rintro e w1 ⟨v, rfl, hv, hb⟩
  have HV := Lib.hid hv
  have HB := Lib.hid hb
  clear hv hb
  go_wp2_with fail
  exact HQ.out _ _ ⟨_, rfl, HV.out, HB.out⟩
/-- a writer just made -/
theorem wr_new (w : World) : Wr w.heap.size (w.alloc (.cells #[.slice none 0 0] 105)) w.heap.size none [] :=
  ⟨Nat.le_refl _, by simp, _, rfl, heap_alloc_new _ _, World.ownsRow_nil _ _ _ _⟩
end Go.Proofs.Ytphofpemblindaa
/- A writer beside an object that stays. -/
namespace Go.Proofs.Ytphofpemblindaa
open Go.RowKit

/-- a writer beside an object that stays, both since a call began -/
structure CW (B pb bx : Nat) (o : Obj) (ob0 : Option Nat) (w0 : World) (ob : Option Nat) (l : List UInt8) (w : World) : Prop where
  wr : Wr B w pb ob l
  box : w.heap[bx]? = some o
  nb : ¬ WF pb ob bx
  fr : Fr (WF pb ob0) w0 w
  ob : ob = ob0 ∨ ∃ k, ob = some k ∧ w0.heap.size ≤ k
section
variable {B pb bx : Nat} {o : Obj} {ob0 ob : Option Nat} {w0 w w' : World} {l l' : List UInt8}
theorem CW.step (h : CW B pb bx o ob0 w0 ob l w) (hp : WPost B w pb ob l' w') : ∃ ob', CW B pb bx o ob0 w0 ob' l' w' := by
  obtain ⟨ob', hw, hf, ho⟩ := hp
  have hlt := obj_lt h.box
  have hsz := h.fr.size
  refine ⟨ob', hw, hf.heap h.box h.nb, ?_, h.fr.trans hf (fun x hx => ?_), ?_⟩
  · rintro (hx | hx)
    · exact h.nb (.inl hx)
    · rcases ho with ho | ⟨k, ho, hk⟩
      · exact h.nb (.inr (by rw [← ho]; exact hx))
      · rw [ho] at hx; injection hx with hx; omega
  · rcases hx with hx | hx
    · exact .inl (.inl hx)
    · rcases h.ob with ho | ⟨k, ho, hk⟩
      · exact .inl (.inr (by rw [← ho]; exact hx))
      · rw [ho] at hx; injection hx with hx; exact .inr (by omega)
  · rcases ho with ho | ⟨k, ho, hk⟩
    · rw [ho]; exact h.ob
    · exact .inr ⟨k, ho, by omega⟩
theorem CW.post (h : CW B pb bx o ob0 w0 ob l w) : WPost B w0 pb ob0 l w := ⟨ob, h.wr, h.fr, h.ob⟩
theorem CW.new (h : Wr B w pb ob l) {cs : Array Value} {t : TypeId} : CW B pb w.heap.size (.cells cs t (0, 0)) ob w ob l (w.alloc (.cells cs t)) := by
  have hf := Fr.alloc w (.cells cs t)
  refine ⟨h.fr0 hf, heap_alloc_new _ _, fun hx => by have := (h.lt _ hx).2; omega, hf.mono (fun _ h => h.elim), .inl rfl⟩
theorem CW.bs (h : CW B pb bx o ob0 w0 ob l w) (hw : Wr B w0 pb ob0 l') {v : Value} {b : List UInt8} (hb : BSx (fun k => k < B) w0 v b) : BS w v b :=
  (hb.fr h.fr (fun k _ hk hF => by have := (hw.lt k hF).1; omega)).1
end
end Go.Proofs.Ytphofpemblindaa
/- The walk of Three of wire's Writer. -/
namespace Go.Proofs.Ytphofpemblindaa
open Go.RowKit
set_option maxHeartbeats 400000 in
theorem wthree_any (B pb : Nat) (ob : Option Nat) (l : List UInt8) (n : Int) (w : World) (hw : Wr B w pb ob l) (hn : Fits 4294967296 n) (hm : l.length ≤ 140737488300000) :
    Calls Try.prog 83 #[.pointer (some ⟨pb, 0, none⟩), .int .u32 n] w fun e w' => e = .returned (.tuple #[]) ∧ WPost B w pb ob (l ++ bytesI n.toNat 3) w' := by
  have hu := u64_of hn (by decide)
  have hw1 := u64_id hu
  refine calls_q fun Q HQ => ?_
  go_enter Try.func83, Try.ntmps83
  go_wp2_with fail
  refine (wnumber_any B pb ob l n 3 w hw hu hm).mono ?_
  rintro e w2 ⟨rfl, hp⟩
  have HP := Lib.hid hp
  clear hp
  go_wp2_with fail
  go_end0
  exact HQ.out _ _ ⟨rfl, HP.out⟩
end Go.Proofs.Ytphofpemblindaa
/- The walk of Num of wire's Writer. -/
namespace Go.Proofs.Ytphofpemblindaa
open Go.RowKit
set_option maxHeartbeats 400000 in
theorem wnum_any (B pb : Nat) (ob : Option Nat) (l : List UInt8) (n : Int) (w : World) (hw : Wr B w pb ob l) (hn : Fits 4294967296 n) (hm : l.length ≤ 140737488300000) :
    Calls Try.prog 75 #[.pointer (some ⟨pb, 0, none⟩), .int .u32 n] w fun e w' => e = .returned (.tuple #[]) ∧ WPost B w pb ob (l ++ bytesI n.toNat 4) w' := by
  have hu := u64_of hn (by decide)
  have hw1 := u64_id hu
  refine calls_q fun Q HQ => ?_
  go_enter Try.func75, Try.ntmps75
  go_wp2_with fail
  refine (wnumber_any B pb ob l n 4 w hw hu hm).mono ?_
  rintro e w2 ⟨rfl, hp⟩
  have HP := Lib.hid hp
  clear hp
  go_wp2_with fail
  go_end0
  exact HQ.out _ _ ⟨rfl, HP.out⟩
end Go.Proofs.Ytphofpemblindaa
