/- The walks of readInfo and readBlock: numbers from a reader. -/
import Derived.Test.YthgajlmhgbhmlaaRp
import Derived.Test.YthgajlmhgbhmlaaRpW
import Derived.Test.YthgajlmhgbhmlaaWireR3
import Derived.Test.YthgajlmhgbhmlaaWireR4
namespace Go.Proofs.Ythgajlmhgbhmlaa
open Go.RowKit

theorem objs5 {w : World} {b : Nat} {x0 x1 x2 x3 x4 : Value} {t : TypeId} (h : w.heap[b]? = some (.cells #[x0, x1, x2, x3, x4] t (0, 0))) (y0 y1 y2 y3 y4 : Value) :
    ∀ w', w' = ((((w.setCell ⟨b, 0, none⟩ y0).setCell ⟨b, 1, none⟩ y1).setCell ⟨b, 2, none⟩ y2).setCell ⟨b, 3, none⟩ y3).setCell ⟨b, 4, none⟩ y4 → w'.heap[b]? = some (.cells #[y0, y1, y2, y3, y4] t (0, 0)) ∧ Fr (F1 b) w w' := by
  rintro _ rfl
  have h0 := obj_set h 0 y0
  have h1 := obj_set h0 1 y1
  have h2 := obj_set h1 2 y2
  have h3 := obj_set h2 3 y3
  have h4 := obj_set h3 4 y4
  refine ⟨by simpa using h4, ?_⟩
  have f0 : Fr (F1 b) w (w.setCell ⟨b, 0, none⟩ y0) := Fr.setCell w ⟨b, 0, none⟩ y0
  have f1 := f0.trans (Fr.setCell _ ⟨b, 1, none⟩ y1) (fun _ h => .inl h)
  have f2 := f1.trans (Fr.setCell _ ⟨b, 2, none⟩ y2) (fun _ h => .inl h)
  have f3 := f2.trans (Fr.setCell _ ⟨b, 3, none⟩ y3) (fun _ h => .inl h)
  have f4 := f3.trans (Fr.setCell _ ⟨b, 4, none⟩ y4) (fun _ h => .inl h)
  exact f4
theorem objs7 {w : World} {b : Nat} {x0 x1 x2 x3 x4 x5 x6 : Value} {t : TypeId} (h : w.heap[b]? = some (.cells #[x0, x1, x2, x3, x4, x5, x6] t (0, 0))) (y0 y1 y2 y3 y4 y5 y6 : Value) :
    ∀ w', w' = ((((((w.setCell ⟨b, 0, none⟩ y0).setCell ⟨b, 1, none⟩ y1).setCell ⟨b, 2, none⟩ y2).setCell ⟨b, 3, none⟩ y3).setCell ⟨b, 4, none⟩ y4).setCell ⟨b, 5, none⟩ y5).setCell ⟨b, 6, none⟩ y6 → w'.heap[b]? = some (.cells #[y0, y1, y2, y3, y4, y5, y6] t (0, 0)) ∧ Fr (F1 b) w w' := by
  rintro _ rfl
  have h0 := obj_set h 0 y0
  have h1 := obj_set h0 1 y1
  have h2 := obj_set h1 2 y2
  have h3 := obj_set h2 3 y3
  have h4 := obj_set h3 4 y4
  have h5 := obj_set h4 5 y5
  have h6 := obj_set h5 6 y6
  refine ⟨by simpa using h6, ?_⟩
  have f0 : Fr (F1 b) w (w.setCell ⟨b, 0, none⟩ y0) := Fr.setCell w ⟨b, 0, none⟩ y0
  have f1 := f0.trans (Fr.setCell _ ⟨b, 1, none⟩ y1) (fun _ h => .inl h)
  have f2 := f1.trans (Fr.setCell _ ⟨b, 2, none⟩ y2) (fun _ h => .inl h)
  have f3 := f2.trans (Fr.setCell _ ⟨b, 3, none⟩ y3) (fun _ h => .inl h)
  have f4 := f3.trans (Fr.setCell _ ⟨b, 4, none⟩ y4) (fun _ h => .inl h)
  have f5 := f4.trans (Fr.setCell _ ⟨b, 5, none⟩ y5) (fun _ h => .inl h)
  have f6 := f5.trans (Fr.setCell _ ⟨b, 6, none⟩ y6) (fun _ h => .inl h)
  exact f6
theorem objs8 {w : World} {b : Nat} {x0 x1 x2 x3 x4 x5 x6 x7 : Value} {t : TypeId} (h : w.heap[b]? = some (.cells #[x0, x1, x2, x3, x4, x5, x6, x7] t (0, 0))) (y0 y1 y2 y3 y4 y5 y6 y7 : Value) :
    ∀ w', w' = (((((((w.setCell ⟨b, 0, none⟩ y0).setCell ⟨b, 1, none⟩ y1).setCell ⟨b, 2, none⟩ y2).setCell ⟨b, 3, none⟩ y3).setCell ⟨b, 4, none⟩ y4).setCell ⟨b, 5, none⟩ y5).setCell ⟨b, 6, none⟩ y6).setCell ⟨b, 7, none⟩ y7 → w'.heap[b]? = some (.cells #[y0, y1, y2, y3, y4, y5, y6, y7] t (0, 0)) ∧ Fr (F1 b) w w' := by
  rintro _ rfl
  have h0 := obj_set h 0 y0
  have h1 := obj_set h0 1 y1
  have h2 := obj_set h1 2 y2
  have h3 := obj_set h2 3 y3
  have h4 := obj_set h3 4 y4
  have h5 := obj_set h4 5 y5
  have h6 := obj_set h5 6 y6
  have h7 := obj_set h6 7 y7
  refine ⟨by simpa using h7, ?_⟩
  have f0 : Fr (F1 b) w (w.setCell ⟨b, 0, none⟩ y0) := Fr.setCell w ⟨b, 0, none⟩ y0
  have f1 := f0.trans (Fr.setCell _ ⟨b, 1, none⟩ y1) (fun _ h => .inl h)
  have f2 := f1.trans (Fr.setCell _ ⟨b, 2, none⟩ y2) (fun _ h => .inl h)
  have f3 := f2.trans (Fr.setCell _ ⟨b, 3, none⟩ y3) (fun _ h => .inl h)
  have f4 := f3.trans (Fr.setCell _ ⟨b, 4, none⟩ y4) (fun _ h => .inl h)
  have f5 := f4.trans (Fr.setCell _ ⟨b, 5, none⟩ y5) (fun _ h => .inl h)
  have f6 := f5.trans (Fr.setCell _ ⟨b, 6, none⟩ y6) (fun _ h => .inl h)
  have f7 := f6.trans (Fr.setCell _ ⟨b, 7, none⟩ y7) (fun _ h => .inl h)
  exact f7
theorem frz7 {w : World} {b : Nat} {cs : Array Value} {t : TypeId} (h : w.heap[b]? = some (.cells cs t (0, 0))) :
    w.frozen? ⟨b, 0, none⟩ = false ∧ w.frozen? ⟨b, 1, none⟩ = false ∧ w.frozen? ⟨b, 2, none⟩ = false ∧ w.frozen? ⟨b, 3, none⟩ = false ∧ w.frozen? ⟨b, 4, none⟩ = false ∧ w.frozen? ⟨b, 5, none⟩ = false ∧ w.frozen? ⟨b, 6, none⟩ = false ∧ w.frozen? ⟨b, 7, none⟩ = false := by
  have z := obj_frozen h
  exact ⟨z 0, z 1, z 2, z 3, z 4, z 5, z 6, z 7⟩
/-- a reader, and an object made since the call began -/
structure RB (w0 : World) (lo rb bx : Nat) (o : Obj) (L : List UInt8) (e : Int) (w : World) : Prop where
  rd : Rd lo w rb L e
  res : w.heap[bx]? = some o
  fr : Fr (F1 rb) w0 w
  o0 : rb < w0.heap.size
  o1 : w0.heap.size ≤ bx
section
variable {w0 : World} {lo rb bx : Nat} {o : Obj} {L L' : List UInt8} {e e' : Int} {w w' : World}
theorem RB.step (h : RB w0 lo rb bx o L e w) (hp : RPost lo w rb L' e' w') : RB w0 lo rb bx o L' e' w' := by
  have h1 := h.o0; have h2 := h.o1
  exact ⟨hp.1, hp.2.heap h.res (fun (h : bx = rb) => by omega), h.fr.trans hp.2 (fun _ h => .inl h), h1, h2⟩
theorem RB.fr0 (h : RB w0 lo rb bx o L e w) (hf : Fr F0 w w') : RB w0 lo rb bx o L e w' :=
  ⟨h.rd.fr0 hf, hf.heap h.res (fun h => h), h.fr.trans hf (fun _ h => h.elim), h.o0, h.o1⟩
theorem RB.new (hr : Rd lo w rb L e) (cs : Array Value) (t : TypeId) : RB w lo rb w.heap.size (.cells cs t (0, 0)) L e (w.alloc (.cells cs t (0, 0))) := by
  have hf := Fr.alloc w (.cells cs t (0, 0))
  exact ⟨hr.fr0 hf, heap_alloc_new _ _, hf.mono (fun _ h => h.elim), hr.lt.2, Nat.le_refl _⟩
theorem RB.post (h : RB w0 lo rb bx o L e w) (hf : Fr (F1 bx) w w') : RPost lo w0 rb L e w' := by
  have h1 := h.o0; have h2 := h.o1
  exact ⟨h.rd.fr hf (fun k _ hk (hx : k = bx) => by omega), h.fr.trans hf (fun k (hk : k = bx) => .inr (by omega))⟩
end
set_option maxHeartbeats 1000000 in
theorem rinfo_any (lo rb : Nat) (l : List UInt8) (e : Int) (w : World) (hr : Rd lo w rb l e) :
    Calls Try.prog 26 #[.pointer (some ⟨rb, 0, none⟩)] w fun r w' => r = .returned (.agg #[.int .u32 (rdN 4 l : Nat), .int .u32 (rdN 4 (rawR 4 l) : Nat), .int .u32 (rdN 4 (rawR 8 l) : Nat), .int .u32 (rdN 4 (rawR 12 l) : Nat), .int .u32 (rdN 4 (rawR 16 l) : Nat)]) ∧ RPost lo w rb (rawR 20 l) (rawE 20 l e) w' := by
  have HS := Lib.hid (RB.new hr #[.int .u32 0, .int .u32 0, .int .u32 0, .int .u32 0, .int .u32 0] 24)
  have HA1 := Lib.hid (show rawR 4 (rawR 4 l) = rawR 8 l ∧ ∀ e, rawE 4 (rawR 4 l) (rawE 4 l e) = rawE 8 l e from ⟨rawR_add 4 4 l (by decide), fun e => rawE_add 4 4 l e (by decide)⟩)
  have HA2 := Lib.hid (show rawR 4 (rawR 8 l) = rawR 12 l ∧ ∀ e, rawE 4 (rawR 8 l) (rawE 8 l e) = rawE 12 l e from ⟨rawR_add 8 4 l (by decide), fun e => rawE_add 8 4 l e (by decide)⟩)
  have HA3 := Lib.hid (show rawR 4 (rawR 12 l) = rawR 16 l ∧ ∀ e, rawE 4 (rawR 12 l) (rawE 12 l e) = rawE 16 l e from ⟨rawR_add 12 4 l (by decide), fun e => rawE_add 12 4 l e (by decide)⟩)
  have HA4 := Lib.hid (show rawR 4 (rawR 16 l) = rawR 20 l ∧ ∀ e, rawE 4 (rawR 16 l) (rawE 16 l e) = rawE 20 l e from ⟨rawR_add 16 4 l (by decide), fun e => rawE_add 16 4 l e (by decide)⟩)
  clear hr
  refine calls_q fun Q HQ => ?_
  go_enter Try.func26, Try.ntmps26
  go_wp2_with fail
  rw [show w.alloc (Obj.cells #[.int .u32 0, .int .u32 0, .int .u32 0, .int .u32 0, .int .u32 0] 24) = w.alloc (.cells #[.int .u32 0, .int .u32 0, .int .u32 0, .int .u32 0, .int .u32 0] 24 (0, 0)) from rfl] at *
  generalize w.alloc (.cells #[.int .u32 0, .int .u32 0, .int .u32 0, .int .u32 0, .int .u32 0] 24 (0, 0)) = w1 at *
  generalize w.heap.size = bx at *
  refine (rnum_any lo rb l e w1 HS.out.rd).mono ?_
  rintro r w2 ⟨rfl, hp⟩
  have h2 := HS.out.step hp
  have H2 := Lib.hid h2
  clear HS hp h2
  go_wp2_with fail
  refine (rnum_any lo rb _ _ w2 H2.out.rd).mono ?_
  rintro r w3 ⟨rfl, hp⟩
  have h3 := H2.out.step hp
  rw [HA1.out.1, HA1.out.2] at h3
  have H3 := Lib.hid h3
  clear H2 hp h3
  go_wp2_with fail
  refine (rnum_any lo rb _ _ w3 H3.out.rd).mono ?_
  rintro r w4 ⟨rfl, hp⟩
  have h4 := H3.out.step hp
  rw [HA2.out.1, HA2.out.2] at h4
  have H4 := Lib.hid h4
  clear H3 hp h4
  go_wp2_with fail
  refine (rnum_any lo rb _ _ w4 H4.out.rd).mono ?_
  rintro r w5 ⟨rfl, hp⟩
  have h5 := H4.out.step hp
  rw [HA3.out.1, HA3.out.2] at h5
  have H5 := Lib.hid h5
  clear H4 hp h5
  go_wp2_with fail
  refine (rnum_any lo rb _ _ w5 H5.out.rd).mono ?_
  rintro r w6 ⟨rfl, hp⟩
  have h6 := H5.out.step hp
  rw [HA4.out.1, HA4.out.2] at h6
  have H6 := Lib.hid h6
  clear H5 hp h6
  obtain ⟨k0, k1, k2, k3, k4⟩ := cells5 H6.out.res
  obtain ⟨z0, z1, z2, z3, z4, z5, z6, z7⟩ := frz7 H6.out.res
  go_wp2_with fail
  generalize hW : World.setCell _ _ _ = wf
  obtain ⟨hx, hfx⟩ := objs5 H6.out.res _ _ _ _ _ wf hW.symm
  clear hW k0 k1 k2 k3 k4 z0 z1 z2 z3 z4 z5 z6 z7
  obtain ⟨k0, k1, k2, k3, k4⟩ := cells5 hx
  refine bodyPost_ret (v := .agg #[.int .u32 (rdN 4 l : Nat), .int .u32 (rdN 4 (rawR 4 l) : Nat), .int .u32 (rdN 4 (rawR 8 l) : Nat), .int .u32 (rdN 4 (rawR 12 l) : Nat), .int .u32 (rdN 4 (rawR 16 l) : Nat)]) (by simp [results, Try.results26, go_sem, k0, k1, k2, k3, k4]; try rfl) rfl ?_
  exact HQ.out _ _ ⟨rfl, H6.out.post hfx⟩
set_option maxHeartbeats 1000000 in
theorem rblock_any (lo rb : Nat) (l : List UInt8) (e : Int) (w : World) (hr : Rd lo w rb l e) :
    Calls Try.prog 27 #[.pointer (some ⟨rb, 0, none⟩)] w fun r w' => r = .returned (.agg #[.int .u32 ((decB l).s : Nat), .int .u8 ((decB l).p : Nat), .int .i32 (decB l).m, .int .u32 ((decB l).h : Nat), .int .u32 ((decB l).j : Nat), .int .u32 ((decB l).l : Nat), .int .u32 ((decB l).d : Nat)]) ∧ RPost lo w rb (rawR 24 l) (rawE 24 l e) w' := by
  have HS := Lib.hid (RB.new hr #[.int .u32 0, .int .u8 0, .int .i32 0, .int .u32 0, .int .u32 0, .int .u32 0, .int .u32 0] 56)
  have HA1 := Lib.hid (show rawR 1 (rawR 4 l) = rawR 5 l ∧ ∀ e, rawE 1 (rawR 4 l) (rawE 4 l e) = rawE 5 l e from ⟨rawR_add 4 1 l (by decide), fun e => rawE_add 4 1 l e (by decide)⟩)
  have HA2 := Lib.hid (show rawR 3 (rawR 5 l) = rawR 8 l ∧ ∀ e, rawE 3 (rawR 5 l) (rawE 5 l e) = rawE 8 l e from ⟨rawR_add 5 3 l (by decide), fun e => rawE_add 5 3 l e (by decide)⟩)
  have HA3 := Lib.hid (show rawR 4 (rawR 8 l) = rawR 12 l ∧ ∀ e, rawE 4 (rawR 8 l) (rawE 8 l e) = rawE 12 l e from ⟨rawR_add 8 4 l (by decide), fun e => rawE_add 8 4 l e (by decide)⟩)
  have HA4 := Lib.hid (show rawR 4 (rawR 12 l) = rawR 16 l ∧ ∀ e, rawE 4 (rawR 12 l) (rawE 12 l e) = rawE 16 l e from ⟨rawR_add 12 4 l (by decide), fun e => rawE_add 12 4 l e (by decide)⟩)
  have HA5 := Lib.hid (show rawR 4 (rawR 16 l) = rawR 20 l ∧ ∀ e, rawE 4 (rawR 16 l) (rawE 16 l e) = rawE 20 l e from ⟨rawR_add 16 4 l (by decide), fun e => rawE_add 16 4 l e (by decide)⟩)
  have HA6 := Lib.hid (show rawR 4 (rawR 20 l) = rawR 24 l ∧ ∀ e, rawE 4 (rawR 20 l) (rawE 20 l e) = rawE 24 l e from ⟨rawR_add 20 4 l (by decide), fun e => rawE_add 20 4 l e (by decide)⟩)
  have ht := rdN_lt 3 (rawR 5 l)
  have hsg := signed24 (rdN 3 (rawR 5 l)) (by simpa using ht)
  generalize hT : rdN 3 (rawR 5 l) = tn at *
  have HT := Lib.hid hT
  have HSg := Lib.hid (fun w => signed_any tn 24 w ⟨by omega, by omega⟩)
  have hu := u64_id (n := (tn : Int)) ⟨by omega, by omega⟩
  have hi : IntKind.i32.wrap (signedN tn 24) = signedN tn 24 := by
    rw [hsg]; split <;> (simp [IntKind.wrap, IntKind.bits, IntKind.signed]; omega)
  clear hT hsg ht
  clear hr
  refine calls_q fun Q HQ => ?_
  go_enter Try.func27, Try.ntmps27
  go_wp2_with fail
  rw [show w.alloc (Obj.cells #[.int .u32 0, .int .u8 0, .int .i32 0, .int .u32 0, .int .u32 0, .int .u32 0, .int .u32 0] 56) = w.alloc (.cells #[.int .u32 0, .int .u8 0, .int .i32 0, .int .u32 0, .int .u32 0, .int .u32 0, .int .u32 0] 56 (0, 0)) from rfl] at *
  generalize w.alloc (.cells #[.int .u32 0, .int .u8 0, .int .i32 0, .int .u32 0, .int .u32 0, .int .u32 0, .int .u32 0] 56 (0, 0)) = w1 at *
  generalize w.heap.size = bx at *
  refine (rnum_any lo rb l e w1 HS.out.rd).mono ?_
  rintro r w2 ⟨rfl, hp⟩
  have h2 := HS.out.step hp
  have H2 := Lib.hid h2
  clear HS hp h2
  go_wp2_with fail
  refine (rbyte_any lo rb _ _ w2 H2.out.rd).mono ?_
  rintro r w3 ⟨rfl, hp⟩
  have h3 := H2.out.step hp
  rw [HA1.out.1, HA1.out.2] at h3
  have H3 := Lib.hid h3
  clear H2 hp h3
  go_wp2_with fail
  refine (rthree_any lo rb _ _ w3 H3.out.rd).mono ?_
  rintro r w4 ⟨rfl, hp⟩
  have h4 := H3.out.step hp
  rw [HA2.out.1, HA2.out.2] at h4
  have H4 := Lib.hid h4
  clear H3 hp h4
  rw [HT.out]
  go_wp2_with fail
  refine (HSg.out _).mono ?_
  rintro r wq ⟨rfl, hq⟩
  have hq2 := hq.symm
  subst hq2
  rw [Int.toNat_natCast]
  go_wp2_with fail
  refine (rnum_any lo rb _ _ w4 H4.out.rd).mono ?_
  rintro r w5 ⟨rfl, hp⟩
  have h5 := H4.out.step hp
  rw [HA3.out.1, HA3.out.2] at h5
  have H5 := Lib.hid h5
  clear H4 hp h5
  go_wp2_with fail
  refine (rnum_any lo rb _ _ w5 H5.out.rd).mono ?_
  rintro r w6 ⟨rfl, hp⟩
  have h6 := H5.out.step hp
  rw [HA4.out.1, HA4.out.2] at h6
  have H6 := Lib.hid h6
  clear H5 hp h6
  go_wp2_with fail
  refine (rnum_any lo rb _ _ w6 H6.out.rd).mono ?_
  rintro r w7 ⟨rfl, hp⟩
  have h7 := H6.out.step hp
  rw [HA5.out.1, HA5.out.2] at h7
  have H7 := Lib.hid h7
  clear H6 hp h7
  go_wp2_with fail
  refine (rnum_any lo rb _ _ w7 H7.out.rd).mono ?_
  rintro r w8 ⟨rfl, hp⟩
  have h8 := H7.out.step hp
  rw [HA6.out.1, HA6.out.2] at h8
  have H8 := Lib.hid h8
  clear H7 hp h8
  obtain ⟨k0, k1, k2, k3, k4, k5, k6⟩ := cells7 H8.out.res
  obtain ⟨z0, z1, z2, z3, z4, z5, z6, z7⟩ := frz7 H8.out.res
  go_wp2_with fail
  generalize hW : World.setCell _ _ _ = wf
  obtain ⟨hx, hfx⟩ := objs7 H8.out.res _ _ _ _ _ _ _ wf hW.symm
  clear hW k0 k1 k2 k3 k4 k5 k6 z0 z1 z2 z3 z4 z5 z6 z7
  obtain ⟨k0, k1, k2, k3, k4, k5, k6⟩ := cells7 hx
  refine bodyPost_ret (v := .agg #[.int .u32 ((decB l).s : Nat), .int .u8 ((decB l).p : Nat), .int .i32 (decB l).m, .int .u32 ((decB l).h : Nat), .int .u32 ((decB l).j : Nat), .int .u32 ((decB l).l : Nat), .int .u32 ((decB l).d : Nat)]) (by simp [results, Try.results27, go_sem, k0, k1, k2, k3, k4, k5, k6]; rw [← HT.out]; exact ⟨rfl, rfl, rfl, rfl, rfl, rfl, rfl⟩) rfl ?_
  exact HQ.out _ _ ⟨rfl, H8.out.post hfx⟩
end Go.Proofs.Ythgajlmhgbhmlaa
