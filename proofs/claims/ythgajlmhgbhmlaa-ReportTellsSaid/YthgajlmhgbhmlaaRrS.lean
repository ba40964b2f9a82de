/- The document's reader beside a report and a block that grow: what the walk of the document's Read stands on. -/
import Derived.Test.YthgajlmhgbhmlaaRRd
import Derived.Test.YthgajlmhgbhmlaaRrR
namespace Go.Proofs.Ythgajlmhgbhmlaa
open Go.RowKit

theorem rd0 {rb : Nat} {A : Option Addr} {c : Nat} {B : List UInt8} {w : World} (h : w.heap[rb]? = some (.cells #[.slice A B.length c, .int .i64 ((0 : Nat) : Int), .int .i64 0] 80 (0, 0))) (hb : BSx (fun k => k < rb) w (.slice A B.length c) B) :
    RRd w rb (.slice A B.length c) B B 0 0 := ⟨h, Nat.zero_le _, hb, fun _ => by simp, fun h => absurd rfl h⟩
set_option maxHeartbeats 1000000 in
theorem rn_any (rb : Nat) (vB : Value) (B l : List UInt8) (e : Int) (at_ : Nat) (w : World) (hr : RRd w rb vB B l e at_) (hB : B.length ≤ 1000) :
    Calls Try.prog 30 #[.pointer (some ⟨rb, 0, none⟩)] w fun r w' => ∃ at', r = .returned (.int .u32 (rdN 4 l : Nat)) ∧ RRd w' rb vB B (rawR 4 l) (rawE 4 l e) at' ∧ Fr (F1 rb) w w' := by
  have HR := Lib.hid hr
  clear hr
  refine calls_q fun Q HQ => ?_
  go_enter Try.func30, Try.ntmps30
  go_wp2_with fail
  refine (rrnum_any rb vB B l e at_ 4 w HR.out hB (by decide)).mono ?_
  rintro r w1 ⟨at', rfl, hd, hf⟩
  have HD := Lib.hid hd
  have HF := Lib.hid hf
  have hlt := rdN_lt 4 l
  generalize rdN 4 l = x at *
  have hlt : x < 4294967296 := hlt
  have hw : IntKind.u32.wrap (x : Int) = (x : Int) := by rw [wrap_u32]; omega
  clear hd hf
  go_wp2_with fail
  exact HQ.out _ _ ⟨at', rfl, HD.out, HF.out⟩
set_option maxHeartbeats 1000000 in
theorem rrend_any (rb : Nat) (vB : Value) (B l : List UInt8) (e : Int) (at_ : Nat) (w : World) (hr : RRd w rb vB B l e at_) (_hB : B.length ≤ 1000) :
    Calls Try.prog 32 #[.pointer (some ⟨rb, 0, none⟩)] w fun r w' => r = .returned (.int .i64 (endE l e)) ∧ Fr F0 w w' := by
  obtain ⟨A, c, rfl, _, _, _⟩ := bs_parts hr.bytes.1
  obtain ⟨k0, k1, k2⟩ := three_cells hr.box
  have hle := hr.le
  have HR := Lib.hid hr
  clear hr
  refine calls_q fun Q HQ => ?_
  by_cases he : e = 0
  · have hl := HR.out.left he
    subst he
    by_cases hlt : (at_ : Int) < (B.length : Int)
    · have HE := Lib.hid (show endE l 0 = 4 by rw [endE, if_neg]; rw [hl]; intro h; have h2 := congrArg List.length h; simp at h2; omega)
      clear hl
      go_enter Try.func32, Try.ntmps32
      go_wp2_with fail
      go_region
      go_wp2_with fail
      exact HQ.out _ _ ⟨by rw [HE.out]; rfl, Fr.drew _⟩
    · have HE := Lib.hid (show endE l 0 = 0 by rw [endE, if_pos]; rw [hl]; simp; omega)
      clear hl
      go_enter Try.func32, Try.ntmps32
      go_wp2_with fail
      go_region
      go_wp2_with fail
      exact HQ.out _ _ ⟨by rw [HE.out]; rfl, Fr.drew _⟩
  · have hl := HR.out.gone he
    have HE := Lib.hid (show endE l e = e by rw [endE, if_pos hl])
    have he' : (e == 0) = false := by simp [he]
    clear he hl
    go_enter Try.func32, Try.ntmps32
    go_wp2_with fail
    go_region
    go_wp2_with fail
    exact HQ.out _ _ ⟨by rw [HE.out]; rfl, Fr.drew _⟩
abbrev zeroD8 : Obj := .cells #[.bool false, .int .u32 0, .int .u32 0, .int .u32 0, .int .u32 0, .int .u32 0, .int .u32 0, .slice none 0 0] 41 (0, 0)
abbrev objD (d : DR) (v : Value) : Obj := .cells #[.bool d.sd, .int .u32 (d.so : Nat), .int .u32 (d.i0 : Nat), .int .u32 (d.i1 : Nat), .int .u32 (d.i2 : Nat), .int .u32 (d.i3 : Nat), .int .u32 (d.i4 : Nat), v] 41 (0, 0)
/-- a reader; the chunk's cells, the result's, a report and a block that grow -/
structure PD (w0 : World) (bx rx rb pb bb : Nat) (vB : Value) (B : List UInt8) (ock o ob : Obj) (k : Nat) (sv : Value) (xs : List DB) (w : World) : Prop where
  rd : ∃ at_, RRd w rb vB B (rawR k B) (rawE k B 0) at_
  ck : w.heap[bx]? = some ock
  res : w.heap[rx]? = some zeroD8
  p : w.heap[pb]? = some o
  b : w.heap[bb]? = some ob
  own : w.ownsRow (pb + 1) 68 7 sv xs.length (cellsB xs)
  nb : sv.ownBlock ≠ some bb
  below : Below w0.heap.size w0 w
  o0 : w0.heap.size ≤ bx
  o1 : bx < rx
  o2 : rx < rb
  o3 : rb < pb
  o4 : bb = bx ∨ pb < bb
section
variable {w0 w w' : World} {bx rx rb pb bb : Nat} {vB : Value} {B : List UInt8} {ock o ob : Obj} {k : Nat} {sv : Value} {xs : List DB}
theorem PD.call {n : Nat} (hn : 0 < n) (h : PD w0 bx rx rb pb bb vB B ock o ob k sv xs w) {at' : Nat} (hd : RRd w' rb vB B (rawR n (rawR k B)) (rawE n (rawR k B) (rawE k B 0)) at') (hf : Fr (F1 rb) w w') : PD w0 bx rx rb pb bb vB B ock o ob (k + n) sv xs w' := by
  have h0 := h.o0; have h1 := h.o1; have h2 := h.o2; have h3 := h.o3; have h4 := h.o4
  rw [rawR_add k n B hn, rawE_add k n B 0 hn] at hd
  exact ⟨⟨_, hd⟩, hf.heap h.ck (fun (h : bx = rb) => by omega), hf.heap h.res (fun (h : rx = rb) => by omega), hf.heap h.p (fun (h : pb = rb) => by omega), hf.heap h.b (fun (h : bb = rb) => by omega), hf.own h.own (fun k hk (hb : k = rb) => by have := (h.own.lt k hk).1; omega), h.nb, h.below.trans (hf.below h.below.size (fun k (hk : k = rb) => by omega)), h0, h1, h2, h3, h4⟩
theorem PD.fr0 (h : PD w0 bx rx rb pb bb vB B ock o ob k sv xs w) (hf : Fr F0 w w') : PD w0 bx rx rb pb bb vB B ock o ob k sv xs w' :=
  ⟨h.rd.elim fun a ha => ⟨a, ha.fr0 hf⟩, hf.heap h.ck (fun h => h), hf.heap h.res (fun h => h), hf.heap h.p (fun h => h), hf.heap h.b (fun h => h), hf.own h.own (fun _ _ h => h), h.nb, h.below.trans (hf.below h.below.size (fun _ hk => hk.elim)), h.o0, h.o1, h.o2, h.o3, h.o4⟩
theorem PD.app (h : PD w0 bx rx rb pb bb vB B ock o ob k sv xs w) {sv' : Value} {x : DB} (ho : w'.ownsRow (pb + 1) 68 7 sv' (xs.length + 1) (cellsB xs ++ x.row)) (hg : w.grownBy w' sv.ownBlock) (hk : sv'.ownBlock = sv.ownBlock ∨ sv'.ownBlock = some w.heap.size) :
    PD w0 bx rx rb pb bb vB B ock o ob k sv' (xs ++ [x]) w' := by
  have h0 := h.o0; have h1 := h.o1; have h2 := h.o2; have h3 := h.o3; have h4 := h.o4
  have hf := Fr.grown hg
  have hlt : ∀ k, some k = sv.ownBlock → pb + 1 ≤ k := fun k hk => (h.own.lt k hk.symm).1
  have hsz := h.below.size
  have hbl := obj_lt h.b
  refine ⟨h.rd.elim fun a ha => ⟨a, ha.fr hf (fun k hk hx => by have := hlt k hx; omega)⟩, hf.heap h.ck (fun hx => by have := hlt _ hx; omega), hf.heap h.res (fun hx => by have := hlt _ hx; omega), hf.heap h.p (fun hx => by have := hlt _ hx; omega), hf.heap h.b (fun hx => h.nb hx.symm), ?_, ?_, h.below.trans (hf.below hsz (fun k hk => by have := hlt k hk; omega)), h0, h1, h2, h3, h4⟩
  · rw [cellsB_snoc, List.length_append]
    exact ho
  · rcases hk with hk | hk
    · rw [hk]; exact h.nb
    · rw [hk]; intro he; simp only [Option.some.injEq] at he; omega
theorem PD.set {cs : Array Value} {t : TypeId} (h : PD w0 bx rx rb pb bb vB B ock (.cells cs t (0, 0)) ob k sv xs w) (i : Nat) (u : Value) : PD w0 bx rx rb pb bb vB B ock (.cells (cs.setIfInBounds i u) t (0, 0)) ob k sv xs (w.setCell ⟨pb, i, none⟩ u) := by
  have h0 := h.o0; have h1 := h.o1; have h2 := h.o2; have h3 := h.o3; have h4 := h.o4
  have hf : Fr (F1 pb) w (w.setCell ⟨pb, i, none⟩ u) := Fr.setCell w ⟨pb, i, none⟩ u
  have hsz := h.below.size
  exact ⟨h.rd.elim fun a ha => ⟨a, ha.fr hf (fun k hk (hx : k = pb) => by omega)⟩, hf.heap h.ck (fun (hx : bx = pb) => by omega), hf.heap h.res (fun (hx : rx = pb) => by omega), obj_set h.p i u, hf.heap h.b (fun (hx : bb = pb) => by omega), hf.own h.own (fun k hk (hx : k = pb) => by have := (h.own.lt k hk).1; omega), h.nb, h.below.trans (hf.below hsz (fun k (hk : k = pb) => by omega)), h0, h1, h2, h3, h4⟩
theorem PD.setb {cs : Array Value} {t : TypeId} (h : PD w0 bx rx rb pb bb vB B ock o (.cells cs t (0, 0)) k sv xs w) (hb : pb < bb) (i : Nat) (u : Value) : PD w0 bx rx rb pb bb vB B ock o (.cells (cs.setIfInBounds i u) t (0, 0)) k sv xs (w.setCell ⟨bb, i, none⟩ u) := by
  have h0 := h.o0; have h1 := h.o1; have h2 := h.o2; have h3 := h.o3; have h4 := h.o4
  have hf : Fr (F1 bb) w (w.setCell ⟨bb, i, none⟩ u) := Fr.setCell w ⟨bb, i, none⟩ u
  have hsz := h.below.size
  exact ⟨h.rd.elim fun a ha => ⟨a, ha.fr hf (fun k hk (hx : k = bb) => by omega)⟩, hf.heap h.ck (fun (hx : bx = bb) => by omega), hf.heap h.res (fun (hx : rx = bb) => by omega), hf.heap h.p (fun (hx : pb = bb) => by omega), obj_set h.b i u, hf.own h.own (fun k hk (hx : k = bb) => h.nb (by rw [hk, hx])), h.nb, h.below.trans (hf.below hsz (fun k (hk : k = bb) => by omega)), h0, h1, h2, h3, h4⟩
theorem PD.box (h : PD w0 bx rx rb pb bb vB B ock o ob k sv xs w) (cs : Array Value) (t : TypeId) : PD w0 bx rx rb pb w.heap.size vB B ock o (.cells cs t (0, 0)) k sv xs (w.alloc (.cells cs t (0, 0))) := by
  have h2 := h.fr0 (Fr.alloc w (.cells cs t (0, 0)))
  exact ⟨h2.rd, h2.ck, h2.res, h2.p, heap_alloc_new w _, h2.own, fun he => by have := (h.own.lt _ he).2; omega, h2.below, h2.o0, h2.o1, h2.o2, h2.o3, .inr (obj_lt h.p)⟩
/-- the next number of four bytes -/
theorem PD.num (h : PD w0 bx rx rb pb bb vB B ock o ob k sv xs w) (hB : B.length ≤ 1000) {x : Nat} (hx : rdN 4 (rawR k B) = x) :
    Calls Try.prog 30 #[.pointer (some ⟨rb, 0, none⟩)] w fun r w' => r = .returned (.int .u32 (x : Nat)) ∧ PD w0 bx rx rb pb bb vB B ock o ob (k + 4) sv xs w' := by
  obtain ⟨at_, hr⟩ := h.rd
  refine (rn_any rb vB B _ _ at_ w hr hB).mono ?_
  rintro r w1 ⟨at', rfl, hd, hf⟩
  exact ⟨by rw [hx], h.call (by decide) hd hf⟩
theorem PD.number (h : PD w0 bx rx rb pb bb vB B ock o ob k sv xs w) (hB : B.length ≤ 1000) (n : Nat) (h0 : 0 < n) (hn : n ≤ 8) {x : Nat} (hx : rdN n (rawR k B) = x) :
    Calls Try.prog 31 #[.pointer (some ⟨rb, 0, none⟩), .int .i64 n] w fun r w' => r = .returned (.int .u64 (x : Nat)) ∧ PD w0 bx rx rb pb bb vB B ock o ob (k + n) sv xs w' := by
  obtain ⟨at_, hr⟩ := h.rd
  refine (rrnum_any rb vB B _ _ at_ n w hr hB hn).mono ?_
  rintro r w1 ⟨at', rfl, hd, hf⟩
  exact ⟨by rw [hx], h.call h0 hd hf⟩
theorem PD.theEnd (h : PD w0 bx rx rb pb bb vB B ock o ob k sv xs w) (hB : B.length ≤ 1000) {er : Int} (he : endE (rawR k B) (rawE k B 0) = er) :
    Calls Try.prog 32 #[.pointer (some ⟨rb, 0, none⟩)] w fun r w' => r = .returned (.int .i64 er) ∧ PD w0 bx rx rb pb bb vB B ock o ob k sv xs w' := by
  obtain ⟨at_, hr⟩ := h.rd
  refine (rrend_any rb vB B _ _ at_ w hr hB).mono ?_
  rintro r w1 ⟨rfl, hf⟩
  exact ⟨by rw [he], h.fr0 hf⟩
end
end Go.Proofs.Ythgajlmhgbhmlaa
