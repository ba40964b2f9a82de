/- The document's reading of a packet: what stays while it goes on; its first cases. -/
import Derived.Test.YtphaehponljofaaRRd
import Derived.Test.YtphaehponljofaaHdCut
namespace Go.Proofs.Ytphaehponljofaa
open Go.RowKit

abbrev T38o (m ty seq st so sv has prof ve vp : Value) : Obj := .cells #[m, ty, seq, st, so, sv, has, prof, ve, vp] 38 (0, 0)
abbrev zero38 : Obj := T38o (.bool false) (.int .u8 0) (.int .u16 0) (.int .u32 0) (.int .u32 0) (.slice none 0 0) (.bool false) (.int .u16 0) (.slice none 0 0) (.slice none 0 0)
structure QSt (w0 : World) (rb pb : Nat) (vB : Value) (B l : List UInt8) (e : Int) (o : Obj) (sv : Value) (xs : List Nat) (w : World) : Prop where
  rd : ∃ at', RRd w rb vB B l e at'
  p : w.heap[pb]? = some o
  res : w.heap[w0.heap.size]? = some zero38
  own : w.ownsRow (rb + 1) 23 1 sv xs.length (nums xs)
  below : Below w0.heap.size w0 w
  vb : BSx (fun k => k < w0.heap.size) w vB B
  op : w0.heap.size < pb
  ob : pb < rb
section
variable {w0 : World} {rb pb : Nat} {vB : Value} {B l : List UInt8} {e : Int} {o : Obj} {sv : Value} {xs : List Nat} {w w' : World}
theorem QSt.call (h : QSt w0 rb pb vB B l e o sv xs w) {l' : List UInt8} {e' : Int} (hd : ∃ at', RRd w' rb vB B l' e' at') (hf : Fr (F1 rb) w w') : QSt w0 rb pb vB B l' e' o sv xs w' := by
  have h1 := h.op; have h2 := h.ob
  have hsz := h.below.size
  exact ⟨hd, hf.heap h.p (fun (h : pb = rb) => by omega), hf.heap h.res (fun (h : w0.heap.size = rb) => by omega), hf.own h.own (fun k hk (hb : k = rb) => by have := (h.own.lt k hk).1; omega),
    h.below.trans (hf.below hsz (fun k (hk : k = rb) => by omega)), h.vb.fr hf (fun k _ hk (hb : k = rb) => by omega), h1, h2⟩
theorem QSt.fr0 (h : QSt w0 rb pb vB B l e o sv xs w) (hf : Fr F0 w w') : QSt w0 rb pb vB B l e o sv xs w' := by
  obtain ⟨a, ha⟩ := h.rd
  exact ⟨⟨a, ha.fr0 hf⟩, hf.heap h.p (fun h => h), hf.heap h.res (fun h => h), hf.own h.own (fun _ _ h => h), h.below.trans (hf.below h.below.size (fun _ hk => hk.elim)), h.vb.fr hf (fun _ _ _ h => h), h.op, h.ob⟩
theorem QSt.app (h : QSt w0 rb pb vB B l e o sv xs w) {sv' : Value} {x : Nat} (ho : w'.ownsRow (rb + 1) 23 1 sv' (xs.length + 1) (nums xs ++ [.int .u32 (x : Nat)])) (hg : w.grownBy w' sv.ownBlock) :
    QSt w0 rb pb vB B l e o sv' (xs ++ [x]) w' := by
  have h1 := h.op; have h2 := h.ob
  have hf := Fr.grown hg
  have hlt : ∀ k, some k = sv.ownBlock → rb + 1 ≤ k := fun k hk => (h.own.lt k hk.symm).1
  have hsz := h.below.size
  obtain ⟨a, ha⟩ := h.rd
  refine ⟨⟨a, ha.fr hf (fun k hk hx => by have := hlt k hx; omega)⟩, hf.heap h.p (fun hx => by have := hlt _ hx; omega), hf.heap h.res (fun hx => by have := hlt _ hx; omega), ?_, h.below.trans (hf.below hsz (fun k hk => by have := hlt k hk; omega)),
    h.vb.fr hf (fun k _ hk hx => by have := hlt k hx; omega), h1, h2⟩
  have e1 : nums (xs ++ [x]) = nums xs ++ [.int .u32 (x : Nat)] := by simp [nums]
  rw [e1, List.length_append]
  exact ho
theorem QSt.set {cs : Array Value} {t : TypeId} (h : QSt w0 rb pb vB B l e (.cells cs t (0, 0)) sv xs w) (i : Nat) (u : Value) : QSt w0 rb pb vB B l e (.cells (cs.setIfInBounds i u) t (0, 0)) sv xs (w.setCell ⟨pb, i, none⟩ u) := by
  have h1 := h.op; have h2 := h.ob
  have hf : Fr (F1 pb) w (w.setCell ⟨pb, i, none⟩ u) := Fr.setCell w ⟨pb, i, none⟩ u
  have hsz := h.below.size
  have hvb := h.vb.fr hf (fun k _ hk (hb : k = pb) => by omega)
  obtain ⟨a, ha⟩ := h.rd
  exact ⟨⟨a, ⟨hf.heap ha.box (fun (hx : rb = pb) => by omega), ha.le, hvb.mono (fun k _ hk => by omega), ha.left, ha.gone⟩⟩, obj_set h.p i u, hf.heap h.res (fun (hx : w0.heap.size = pb) => by omega), hf.own h.own (fun k hk (hx : k = pb) => by have := (h.own.lt k hk).1; omega),
    h.below.trans (hf.below hsz (fun k (hk : k = pb) => by omega)), hvb, h1, h2⟩
end
section
variable {w0 : World} {rb pb : Nat} {vB : Value} {B l : List UInt8} {e : Int} {m ty seq st so sv0 has prof ve vp sv : Value} {xs : List Nat} {w : World}
theorem QSt.set2 (h : QSt w0 rb pb vB B l e (T38o m ty seq st so sv0 has prof ve vp) sv xs w) (u : Value) : QSt w0 rb pb vB B l e (T38o m ty u st so sv0 has prof ve vp) sv xs (w.setCell ⟨pb, 2, none⟩ u) := by
  simpa using h.set 2 u
theorem QSt.set3 (h : QSt w0 rb pb vB B l e (T38o m ty seq st so sv0 has prof ve vp) sv xs w) (u : Value) : QSt w0 rb pb vB B l e (T38o m ty seq u so sv0 has prof ve vp) sv xs (w.setCell ⟨pb, 3, none⟩ u) := by
  simpa using h.set 3 u
theorem QSt.set4 (h : QSt w0 rb pb vB B l e (T38o m ty seq st so sv0 has prof ve vp) sv xs w) (u : Value) : QSt w0 rb pb vB B l e (T38o m ty seq st u sv0 has prof ve vp) sv xs (w.setCell ⟨pb, 4, none⟩ u) := by
  simpa using h.set 4 u
theorem QSt.set5 (h : QSt w0 rb pb vB B l e (T38o m ty seq st so sv0 has prof ve vp) sv xs w) (u : Value) : QSt w0 rb pb vB B l e (T38o m ty seq st so u has prof ve vp) sv xs (w.setCell ⟨pb, 5, none⟩ u) := by
  simpa using h.set 5 u
theorem QSt.set6 (h : QSt w0 rb pb vB B l e (T38o m ty seq st so sv0 has prof ve vp) sv xs w) (u : Value) : QSt w0 rb pb vB B l e (T38o m ty seq st so sv0 u prof ve vp) sv xs (w.setCell ⟨pb, 6, none⟩ u) := by
  simpa using h.set 6 u
theorem QSt.set7 (h : QSt w0 rb pb vB B l e (T38o m ty seq st so sv0 has prof ve vp) sv xs w) (u : Value) : QSt w0 rb pb vB B l e (T38o m ty seq st so sv0 has u ve vp) sv xs (w.setCell ⟨pb, 7, none⟩ u) := by
  simpa using h.set 7 u
theorem QSt.set8 (h : QSt w0 rb pb vB B l e (T38o m ty seq st so sv0 has prof ve vp) sv xs w) (u : Value) : QSt w0 rb pb vB B l e (T38o m ty seq st so sv0 has prof u vp) sv xs (w.setCell ⟨pb, 8, none⟩ u) := by
  simpa using h.set 8 u
theorem QSt.set9 (h : QSt w0 rb pb vB B l e (T38o m ty seq st so sv0 has prof ve vp) sv xs w) (u : Value) : QSt w0 rb pb vB B l e (T38o m ty seq st so sv0 has prof ve u) sv xs (w.setCell ⟨pb, 9, none⟩ u) := by
  simpa using h.set 9 u
end
section
variable {w0 : World} {rb pb : Nat} {vB : Value} {B l : List UInt8} {e : Int} {o : Obj} {sv : Value} {xs : List Nat} {w : World}
theorem qnum (h : QSt w0 rb pb vB B l e o sv xs w) (hB : B.length ≤ 1000) (n : Nat) (hn : n ≤ 8) :
    Calls Try.prog 36 #[.pointer (some ⟨rb, 0, none⟩), .int .i64 (n : Nat)] w fun r w' => r = .returned (.int .u64 (rdN n l : Nat)) ∧ QSt w0 rb pb vB B (rawR n l) (rawE n l e) o sv xs w' := by
  obtain ⟨a, ha⟩ := h.rd
  refine (rrnum_any rb vB B l e a n w ha hB hn).mono ?_
  rintro r w' ⟨at', rfl, hd, hf⟩
  exact ⟨rfl, h.call ⟨at', hd⟩ hf⟩
theorem qnum_at {l0 : List UInt8} {k m n : Nat} (h : QSt w0 rb pb vB B (l0.drop k) e o sv xs w) (hB : B.length ≤ 1000) (hn : n ≤ 8) (hk : k + n ≤ l0.length) (hm : m = k + n) :
    Calls Try.prog 36 #[.pointer (some ⟨rb, 0, none⟩), .int .i64 (n : Nat)] w fun r w' => r = .returned (.int .u64 (rdN n (l0.drop k) : Nat)) ∧ QSt w0 rb pb vB B (l0.drop m) e o sv xs w' := by
  have hc := qnum h hB n hn
  rwa [rawR_drop hk hm, rawE_drop hk] at hc
theorem qraw (h : QSt w0 rb pb vB B l e o sv xs w) (hB : B.length ≤ 1000) (n : Nat) (hn : n ≤ 1000000) :
    Calls Try.prog 37 #[.pointer (some ⟨rb, 0, none⟩), .int .i64 (n : Nat)] w fun r w' => ∃ v, r = .returned v ∧ BSx (fun k => rb < k) w' v (rawL n l) ∧ QSt w0 rb pb vB B (rawR n l) (rawE n l e) o sv xs w' ∧ Fr (F1 rb) w w' := by
  obtain ⟨a, ha⟩ := h.rd
  refine (rrraw_any rb vB B l e a n w ha hB hn).mono ?_
  rintro r w' ⟨v, at', rfl, hv, hd, hf⟩
  have hlt := obj_lt ha.box
  exact ⟨v, rfl, hv.mono (fun k _ hk => by have hk2 : w.heap.size ≤ k := hk; omega), h.call ⟨at', hd⟩ hf, hf⟩
end
theorem BSx.take0 {G : Nat → Prop} {w : World} {A : Option Addr} {m c : Nat} {l : List UInt8} (h : BSx G w (.slice A m c) l) {j : Nat} (hj : j ≤ l.length) : BSx G w (.slice A j c) (l.take j) := by
  obtain ⟨⟨A1, c1, he, h1, h2, hr⟩, hg⟩ := h
  simp only [Value.slice.injEq] at he
  obtain ⟨rfl, _, rfl⟩ := he
  have hl : (l.take j).length = j := by simp; omega
  exact ⟨⟨_, _, by rw [hl], by omega, h2, hr.take j⟩, fun hp k hk => hg (by omega) k (by rw [ownB] at hk ⊢; exact hk)⟩
theorem far10 {w : World} {b r i : Nat} {x0 x1 x2 x3 x4 x5 x6 x7 x8 x9 : Value} {t : TypeId} {u : Value} (h : w.heap[b]? = some (.cells #[x0, x1, x2, x3, x4, x5, x6, x7, x8, x9] t (0, 0))) (hne : r ≠ b) (hc : w.cell? ⟨r, i, none⟩ = some u) (y0 y1 y2 y3 y4 y5 y6 y7 y8 y9 : Value) :
    ((((((((((w.setCell ⟨b, 0, none⟩ y0).setCell ⟨b, 1, none⟩ y1).setCell ⟨b, 2, none⟩ y2).setCell ⟨b, 3, none⟩ y3).setCell ⟨b, 4, none⟩ y4).setCell ⟨b, 5, none⟩ y5).setCell ⟨b, 6, none⟩ y6).setCell ⟨b, 7, none⟩ y7).setCell ⟨b, 8, none⟩ y8).setCell ⟨b, 9, none⟩ y9).cell? ⟨r, i, none⟩ = some u := by
  obtain ⟨_, hf⟩ := obj_set10 h y0 y1 y2 y3 y4 y5 y6 y7 y8 y9 _ rfl
  rw [World.cell?_of_block (w := w) (a := ⟨r, i, none⟩) (hf.block r (World.block_lt_of_cell? w _ hc) hne)]
  exact hc
theorem drew_cell (w : World) (a : Addr) : w.drew.cell? a = w.cell? a := rfl
theorem far10d {w : World} {b r i : Nat} {x0 x1 x2 x3 x4 x5 x6 x7 x8 x9 : Value} {t : TypeId} {u : Value} (h : w.heap[b]? = some (.cells #[x0, x1, x2, x3, x4, x5, x6, x7, x8, x9] t (0, 0))) (hne : r ≠ b) (hc : w.cell? ⟨r, i, none⟩ = some u) (y0 y1 y2 y3 y4 y5 y6 y7 y8 y9 : Value) :
    (((((((((((w.setCell ⟨b, 0, none⟩ y0).setCell ⟨b, 1, none⟩ y1).setCell ⟨b, 2, none⟩ y2).setCell ⟨b, 3, none⟩ y3).setCell ⟨b, 4, none⟩ y4).setCell ⟨b, 5, none⟩ y5).setCell ⟨b, 6, none⟩ y6).setCell ⟨b, 7, none⟩ y7).setCell ⟨b, 8, none⟩ y8).setCell ⟨b, 9, none⟩ y9).drew).cell? ⟨r, i, none⟩ = some u := by
  rw [drew_cell]
  exact far10 h hne hc y0 y1 y2 y3 y4 y5 y6 y7 y8 y9
theorem rd4_ne {l : List UInt8} (h : rd3E l ≠ 0) (hl : rd3L l = []) : rd4E l = rd3E l := by
  unfold rd4E padE padOk wrongE
  rw [hl]
  split
  · simp
  · rfl
theorem last_drop (l : List UInt8) (a : Nat) (h : 0 < (l.drop a).length) : ((l.drop a)[(l.drop a).length - 1]'(by omega)).toNat = lastB l := by
  have hl : (l.drop a).length = l.length - a := by simp
  rw [lastB_eq l (by omega)]
  congr 1
  rw [List.getElem_drop]
  congr 1
  omega
/-- what is read where nothing is padded, and where it is -/
theorem rd4_nopad {l : List UInt8} (h : padB l = false) (he : rd3E l = 0) : rd4E l = 0 ∧ (rd4L l).take ((rd4L l).length - rd4N l) = rd3L l := by
  unfold rd4E rd4L rd4N
  rw [h]
  simp [he]
theorem rd4_pad {l : List UInt8} (h : padB l = true) (he : rd3E l = 0) (hk : lastB l ≠ 0) (hl : lastB l ≤ (rd3L l).length) : rd4E l = 0 ∧ (rd4L l).take ((rd4L l).length - rd4N l) = (rd3L l).take ((rd3L l).length - lastB l) := by
  have hok : padOk (rd3L l) (lastB l) = true := by unfold padOk; simp; exact ⟨hk, hl⟩
  unfold rd4E rd4L rd4N padE padL padN
  rw [h, hok]
  simp [he]
theorem rd4_bad {l : List UInt8} (h : padB l = true) (he : rd3E l = 0) (hk : lastB l = 0 ∨ (rd3L l).length < lastB l) : rd4E l = 2 := by
  have hok : padOk (rd3L l) (lastB l) = false := by unfold padOk; simp; omega
  unfold rd4E padE
  rw [h, hok]
  simp [he, wrongE]
set_option maxHeartbeats 1000000 in
theorem rhread_long (v : Value) (l : List UInt8) (w : World) (hv : BS w v l) (h : 200 < l.length) :
    Calls Try.prog 11 #[v] w (ReadPost w l) := by
  obtain ⟨A, c, rfl, hc, hcm, hr⟩ := bs_parts hv
  have hE := Lib.hid (read_long l h)
  clear hv hr
  have hl : (200 : Int) < (l.length : Int) := by omega
  refine calls_q fun Q HQ => ?_
  go_enter Try.func11, Try.ntmps11
  go_wp2_with fail
  refine bodyPost_ret (v := .tuple #[zeroV, .int .i64 4]) (by simp [results, Try.results11, go_sem]; try rfl) rfl ?_
  exact HQ.out _ _ (read_no hE.out (by decide) (below_alloc _))
set_option maxHeartbeats 1000000 in
theorem rhread_short (v : Value) (l : List UInt8) (w : World) (hv : BS w v l) (h : l.length < 12) :
    Calls Try.prog 11 #[v] w (ReadPost w l) := by
  obtain ⟨A, c, rfl, hc, hcm, hr⟩ := bs_parts hv
  have hE := Lib.hid (read_short l h)
  clear hv hr
  have hl : ¬ (200 : Int) < (l.length : Int) := by omega
  have hl2 : (l.length : Int) < 12 := by omega
  refine calls_q fun Q HQ => ?_
  go_enter Try.func11, Try.ntmps11
  go_wp2_with fail
  refine bodyPost_ret (v := .tuple #[zeroV, .int .i64 3]) (by simp [results, Try.results11, go_sem]; try rfl) rfl ?_
  exact HQ.out _ _ (read_no hE.out (by decide) (below_alloc _))
set_option maxHeartbeats 1000000 in
theorem rhread_form (v : Value) (l : List UInt8) (w : World) (hv : BS w v l) (h : 12 ≤ l.length) (h2 : l.length ≤ 200) (hf : firstN l < 128 ∨ 191 < firstN l) :
    Calls Try.prog 11 #[v] w (ReadPost w l) := by
  have hE := Lib.hid (read_form l h h2 hf)
  obtain ⟨A, c, rfl, hc, hcm, hr⟩ := bs_parts hv
  obtain ⟨b, o, rfl, hb, hcell⟩ := hr (by omega)
  have hc0 := hcell 0 (by omega)
  rw [← rdN1 l (by omega), Nat.add_zero] at hc0
  rw [show rdN 1 l = firstN l from rfl] at hc0
  clear hv hr hcell
  have hl : ¬ (200 : Int) < (l.length : Int) := by omega
  have hl2 : ¬ (l.length : Int) < 12 := by omega
  have hl3 : (0 : Int) < (l.length : Int) := by omega
  refine calls_q fun Q HQ => ?_
  by_cases h128 : firstN l < 128
  · have h128' : (firstN l : Int) < 128 := by omega
    go_enter Try.func11, Try.ntmps11
    go_wp2_with fail
    refine bodyPost_ret (v := .tuple #[zeroV, .int .i64 2]) (by simp [results, Try.results11, go_sem]; try rfl) rfl ?_
    exact HQ.out _ _ (read_no hE.out (by decide) (below_alloc _))
  · have h128' : ¬ (firstN l : Int) < 128 := by omega
    have h191' : (191 : Int) < (firstN l : Int) := by omega
    go_enter Try.func11, Try.ntmps11
    go_wp2_with fail
    refine bodyPost_ret (v := .tuple #[zeroV, .int .i64 2]) (by simp [results, Try.results11, go_sem]; try rfl) rfl ?_
    exact HQ.out _ _ (read_no hE.out (by decide) (below_alloc _))
end Go.Proofs.Ytphaehponljofaa
