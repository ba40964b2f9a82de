/- The walk of head.Read. -/
import Derived.Test.YtphaehponljofaaHdRd
import Derived.Test.YtphaehponljofaaApp
import Derived.Deep.RegionLaw
namespace Go.Proofs.Ytphaehponljofaa
open Go.RowKit

/-- append onto a row of the call's own, as a step of a region that draws -/
theorem step_app {P : Program} {ops : Array Oper} {o : Oper} {a : Act} {w : World} {K : Act → World → Prop} {Q : Exit → Act → World → Prop} {E : Prop} (hgd : o.guard = none) (s x : Operand) (t : TypeId)
    (ho : o.op = .call { callee := .builtin .append, args := #[s, x], argTypes := #[t, t] })
    (base : Nat) (e : TypeId) (z : Value) (bytes : Nat) (ht : P.underlying t = some (.slice e)) (hi : (P.info? e).map (fun i => (i.zero, i.size, i.bytes)) = some (some z, 1, bytes))
    (hz : z.cells.size = 1) (v : Value) (n : Nat) (xs : List Value) (hs : a.eval s = v) (hown : w.ownsRow base e 1 v n xs) (A : Option Addr) (m c : Nat) (news : List Value) (hx : a.eval x = .slice A m c)
    (hsrc : Src w A m news) (h1 : ∀ u ∈ news, u.oneCell' = true) (h63 : n + m ≤ maxLen) (hb : (n + m) * bytes ≤ 140737488355328) (hbase : base ≤ w.heap.size)
    (h : ∀ v' w', w'.ownsRow base e 1 v' (n + m) (xs ++ news) → w.grownBy w' v.ownBlock → (v'.ownBlock = v.ownBlock ∨ v'.ownBlock = some w.heap.size) → K (a.put o.dst v') w') :
    if Region.wanted o (yielded ops a.tmps) = true then Oper.wp P o a w K Q else E := by
  have hw : Region.wanted o (yielded ops a.tmps) = true := by simp [Region.wanted, hgd]
  rw [if_pos hw]
  obtain ⟨v', w', hr, h2, h3, h4⟩ := run_app (P := P) base t o.type e z bytes ht hi hz v n xs hown A m c news hsrc h1 h63 hb hbase
  unfold Oper.wp execOp
  simp only [ho, resolve, invoke, builtin, Sem.run_bind, Sem.run_pure, Result.andThen_ok, List.map_toArray, List.map_cons, List.map_nil, hs, hx, hr]
  exact h v' w' h2 h3 h4

theorem src_one (w : World) (u : Value) (t : TypeId) : Src (w.alloc (.cells #[u] t)) (some ⟨w.heap.size, 0, none⟩) 1 [u] := by
  refine ⟨rfl, fun _ => ⟨_, rfl, fun j x hx => ?_⟩⟩
  match j, hx with
  | 0, hx =>
    simp only [List.getElem?_cons_zero, Option.some.injEq] at hx
    subst hx
    have : (⟨w.heap.size, 0, none⟩ : Addr).add 0 = ⟨w.heap.size, 0, none⟩ := by simp [Addr.add]
    rw [this, cell_of_row _ w.heap.size 0 #[u] t (0, 0) (heap_alloc_new w _)]
    rfl
  | n + 1, hx => simp at hx
theorem one_u32 (n : Int) : ∀ u ∈ [Value.int .u32 n], u.oneCell' = true := by intro u hu; simp at hu; subst hu; rfl
/-! ### the packet that grows -/
abbrev T29o (m ty seq st so sv has prof ve vp : Value) : Obj := .cells #[m, ty, seq, st, so, sv, has, prof, ve, vp] 29 (0, 0)
/-- the zero one -/
abbrev zero29 : Obj := T29o (.bool false) (.int .u8 0) (.int .u16 0) (.int .u32 0) (.int .u32 0) (.slice none 0 0) (.bool false) (.int .u16 0) (.slice none 0 0) (.slice none 0 0)
structure PSt (w0 : World) (lo rb pb : Nat) (l : List UInt8) (e : Int) (o : Obj) (sv : Value) (xs : List Nat) (w : World) : Prop where
  rd : Rd lo w rb l e
  p : w.heap[pb]? = some o
  res : w.heap[w0.heap.size]? = some zero29
  own : w.ownsRow (pb + 1) 23 1 sv xs.length (nums xs)
  below : Below w0.heap.size w0 w
  olo : w0.heap.size < lo
  orb : lo ≤ rb
  opb : rb < pb
section
variable {w0 : World} {lo rb pb : Nat} {l : List UInt8} {e : Int} {o : Obj} {sv : Value} {xs : List Nat} {w w' : World}
theorem PSt.call (h : PSt w0 lo rb pb l e o sv xs w) {l' : List UInt8} {e' : Int} (hp : RPost lo w rb l' e' w') : PSt w0 lo rb pb l' e' o sv xs w' := by
  have h1 := h.olo; have h2 := h.orb; have h3 := h.opb
  have hsz := h.below.size
  refine ⟨hp.1, hp.2.heap h.p (fun (h : pb = rb) => by omega), hp.2.heap h.res (fun (h : w0.heap.size = rb) => by omega), hp.2.own h.own (fun k hk (hb : k = rb) => by have := (h.own.lt k hk).1; omega), h.below.trans (hp.2.below hsz (fun k (hk : k = rb) => by omega)), h1, h2, h3⟩
theorem PSt.fr0 (h : PSt w0 lo rb pb l e o sv xs w) (hf : Fr F0 w w') : PSt w0 lo rb pb l e o sv xs w' := by
  have hsz := h.below.size
  exact ⟨h.rd.fr0 hf, hf.heap h.p (fun h => h), hf.heap h.res (fun h => h), hf.own h.own (fun _ _ h => h), h.below.trans (hf.below hsz (fun k hk => hk.elim)), h.olo, h.orb, h.opb⟩
theorem PSt.app (h : PSt w0 lo rb pb l e o sv xs w) {sv' : Value} {x : Nat} (ho : w'.ownsRow (pb + 1) 23 1 sv' (xs.length + 1) (nums xs ++ [.int .u32 (x : Nat)])) (hg : w.grownBy w' sv.ownBlock) :
    PSt w0 lo rb pb l e o sv' (xs ++ [x]) w' := by
  have h1 := h.olo; have h2 := h.orb; have h3 := h.opb
  have hf := Fr.grown hg
  have hlt : ∀ k, some k = sv.ownBlock → pb + 1 ≤ k := fun k hk => (h.own.lt k hk.symm).1
  have hsz := h.below.size
  refine ⟨h.rd.fr hf (fun k _ hk hx => by have := hlt k hx; omega), hf.heap h.p (fun hx => by have := hlt _ hx; omega), hf.heap h.res (fun hx => by have := hlt _ hx; omega), ?_, h.below.trans (hf.below hsz (fun k hk => by have := hlt k hk; omega)), h1, h2, h3⟩
  have e1 : nums (xs ++ [x]) = nums xs ++ [.int .u32 (x : Nat)] := by simp [nums]
  rw [e1, List.length_append]
  exact ho
theorem PSt.set {cs : Array Value} {t : TypeId} (h : PSt w0 lo rb pb l e (.cells cs t (0, 0)) sv xs w) (i : Nat) (u : Value) : PSt w0 lo rb pb l e (.cells (cs.setIfInBounds i u) t (0, 0)) sv xs (w.setCell ⟨pb, i, none⟩ u) := by
  have h1 := h.olo; have h2 := h.orb; have h3 := h.opb
  have hf : Fr (F1 pb) w (w.setCell ⟨pb, i, none⟩ u) := Fr.setCell w ⟨pb, i, none⟩ u
  have hsz := h.below.size
  refine ⟨h.rd.fr hf (fun k _ hk (hx : k = pb) => by omega), obj_set h.p i u, hf.heap h.res (fun (hx : w0.heap.size = pb) => by omega), hf.own h.own (fun k hk (hx : k = pb) => by have := (h.own.lt k hk).1; omega), h.below.trans (hf.below hsz (fun k (hk : k = pb) => by omega)), h1, h2, h3⟩
end
section
variable {w0 : World} {lo rb pb : Nat} {l : List UInt8} {e : Int} {m ty seq st so sv0 has prof ve vp sv : Value} {xs : List Nat} {w : World}
theorem PSt.set5 (h : PSt w0 lo rb pb l e (T29o m ty seq st so sv0 has prof ve vp) sv xs w) (u : Value) : PSt w0 lo rb pb l e (T29o m ty seq st so u has prof ve vp) sv xs (w.setCell ⟨pb, 5, none⟩ u) := by
  simpa using h.set 5 u
theorem PSt.set6 (h : PSt w0 lo rb pb l e (T29o m ty seq st so sv0 has prof ve vp) sv xs w) (u : Value) : PSt w0 lo rb pb l e (T29o m ty seq st so sv0 u prof ve vp) sv xs (w.setCell ⟨pb, 6, none⟩ u) := by
  simpa using h.set 6 u
theorem PSt.set7 (h : PSt w0 lo rb pb l e (T29o m ty seq st so sv0 has prof ve vp) sv xs w) (u : Value) : PSt w0 lo rb pb l e (T29o m ty seq st so sv0 has u ve vp) sv xs (w.setCell ⟨pb, 7, none⟩ u) := by
  simpa using h.set 7 u
theorem PSt.set8 (h : PSt w0 lo rb pb l e (T29o m ty seq st so sv0 has prof ve vp) sv xs w) (u : Value) : PSt w0 lo rb pb l e (T29o m ty seq st so sv0 has prof u vp) sv xs (w.setCell ⟨pb, 8, none⟩ u) := by
  simpa using h.set 8 u
theorem PSt.set9 (h : PSt w0 lo rb pb l e (T29o m ty seq st so sv0 has prof ve vp) sv xs w) (u : Value) : PSt w0 lo rb pb l e (T29o m ty seq st so sv0 has prof ve u) sv xs (w.setCell ⟨pb, 9, none⟩ u) := by
  simpa using h.set 9 u
end
theorem ten_cells {w : World} {b : Nat} {x0 x1 x2 x3 x4 x5 x6 x7 x8 x9 : Value} {t : TypeId} (h : w.heap[b]? = some (.cells #[x0, x1, x2, x3, x4, x5, x6, x7, x8, x9] t (0, 0))) :
    w.cell? ⟨b, 0, none⟩ = some x0 ∧ w.cell? ⟨b, 1, none⟩ = some x1 ∧ w.cell? ⟨b, 2, none⟩ = some x2 ∧ w.cell? ⟨b, 3, none⟩ = some x3 ∧ w.cell? ⟨b, 4, none⟩ = some x4 ∧
    w.cell? ⟨b, 5, none⟩ = some x5 ∧ w.cell? ⟨b, 6, none⟩ = some x6 ∧ w.cell? ⟨b, 7, none⟩ = some x7 ∧ w.cell? ⟨b, 8, none⟩ = some x8 ∧ w.cell? ⟨b, 9, none⟩ = some x9 := by
  have k := obj_cell h
  exact ⟨k 0, k 1, k 2, k 3, k 4, k 5, k 6, k 7, k 8, k 9⟩
theorem ten_frozen {w : World} {b : Nat} {cs : Array Value} {t : TypeId} (h : w.heap[b]? = some (.cells cs t (0, 0))) :
    w.frozen? ⟨b, 0, none⟩ = false ∧ w.frozen? ⟨b, 1, none⟩ = false ∧ w.frozen? ⟨b, 2, none⟩ = false ∧ w.frozen? ⟨b, 3, none⟩ = false ∧ w.frozen? ⟨b, 4, none⟩ = false ∧
    w.frozen? ⟨b, 5, none⟩ = false ∧ w.frozen? ⟨b, 6, none⟩ = false ∧ w.frozen? ⟨b, 7, none⟩ = false ∧ w.frozen? ⟨b, 8, none⟩ = false ∧ w.frozen? ⟨b, 9, none⟩ = false :=
  have k := obj_frozen h
  ⟨k 0, k 1, k 2, k 3, k 4, k 5, k 6, k 7, k 8, k 9⟩
/-! ### Read -/
def ReadPost (w : World) (l : List UInt8) (r : Ending) (w' : World) : Prop :=
  ∃ v, r = .returned (.tuple #[v, .int .i64 (readE l)]) ∧ PVx (fun k => w.heap.size ≤ k) w' v (readP l) ∧ Below w.heap.size w w'
theorem pv_zero (w : World) : PV w (.agg #[.bool false, .int .u8 0, .int .u16 0, .int .u32 0, .int .u32 0, .slice none 0 0, .bool false, .int .u16 0, .slice none 0 0, .slice none 0 0]) PD.zero :=
  ⟨.slice none 0 0, .slice none 0 0, .slice none 0 0, rfl, SV.nil w, BS.nil w, BS.nil w⟩
theorem pvx_zero (G : Nat → Prop) (w : World) : PVx G w (.agg #[.bool false, .int .u8 0, .int .u16 0, .int .u32 0, .int .u32 0, .slice none 0 0, .bool false, .int .u16 0, .slice none 0 0, .slice none 0 0]) PD.zero :=
  ⟨.slice none 0 0, .slice none 0 0, .slice none 0 0, rfl, SVx.nil _ w, BSx.nil _ w, BSx.nil _ w⟩
theorem read_no {w w' : World} {l : List UInt8} {e : Int} (h : readE l = e) (he : e ≠ 0) (hb : Below w.heap.size w w') :
    ReadPost w l (.returned (.tuple #[.agg #[.bool false, .int .u8 0, .int .u16 0, .int .u32 0, .int .u32 0, .slice none 0 0, .bool false, .int .u16 0, .slice none 0 0, .slice none 0 0], .int .i64 e])) w' := by
  refine ⟨_, by rw [h], ?_, hb⟩
  rw [readP, if_neg (by rw [h]; exact he)]
  exact pvx_zero _ w'
theorem read_long (l : List UInt8) (h : 200 < l.length) : readE l = 4 := by rw [readE, if_pos h]
theorem read_short (l : List UInt8) (h : l.length < 12) : readE l = 3 := by rw [readE, if_neg (by omega), if_pos h]
theorem read_form (l : List UInt8) (h : 12 ≤ l.length) (h2 : l.length ≤ 200) (hf : firstN l < 128 ∨ 191 < firstN l) : readE l = 2 := by rw [readE, if_neg (by omega), if_neg (by omega), if_pos hf]
theorem read_fine (l : List UInt8) (h : 12 ≤ l.length) (h2 : l.length ≤ 200) (hf : ¬ (firstN l < 128 ∨ 191 < firstN l)) : readE l = rd4E l := by rw [readE, if_neg (by omega), if_neg (by omega), if_neg hf]
abbrev zeroV : Value := .agg #[.bool false, .int .u8 0, .int .u16 0, .int .u32 0, .int .u32 0, .slice none 0 0, .bool false, .int .u16 0, .slice none 0 0, .slice none 0 0]
set_option maxHeartbeats 1000000 in
theorem hread_long (v : Value) (l : List UInt8) (w : World) (hv : BS w v l) (h : 200 < l.length) :
    Calls Try.prog 10 #[v] w (ReadPost w l) := by
  obtain ⟨A, c, rfl, hc, hcm, hr⟩ := bs_parts hv
  have hE := Lib.hid (read_long l h)
  clear hv hr
  have hl : (200 : Int) < (l.length : Int) := by omega
  refine calls_q fun Q HQ => ?_
  go_enter Try.func10, Try.ntmps10
  go_wp2_with fail
  refine bodyPost_ret (v := .tuple #[zeroV, .int .i64 4]) (by simp [results, Try.results10, go_sem]; try rfl) rfl ?_
  exact HQ.out _ _ (read_no hE.out (by decide) (below_alloc _))
set_option maxHeartbeats 1000000 in
theorem hread_short (v : Value) (l : List UInt8) (w : World) (hv : BS w v l) (h : l.length < 12) :
    Calls Try.prog 10 #[v] w (ReadPost w l) := by
  obtain ⟨A, c, rfl, hc, hcm, hr⟩ := bs_parts hv
  have hE := Lib.hid (read_short l h)
  clear hv hr
  have hl : ¬ (200 : Int) < (l.length : Int) := by omega
  have hl2 : (l.length : Int) < 12 := by omega
  refine calls_q fun Q HQ => ?_
  go_enter Try.func10, Try.ntmps10
  go_wp2_with fail
  refine bodyPost_ret (v := .tuple #[zeroV, .int .i64 3]) (by simp [results, Try.results10, go_sem]; try rfl) rfl ?_
  exact HQ.out _ _ (read_no hE.out (by decide) (below_alloc _))
/-- ten cells set anew -/
theorem obj_set10 {w : World} {b : Nat} {x0 x1 x2 x3 x4 x5 x6 x7 x8 x9 : Value} {t : TypeId} (h : w.heap[b]? = some (.cells #[x0, x1, x2, x3, x4, x5, x6, x7, x8, x9] t (0, 0))) (y0 y1 y2 y3 y4 y5 y6 y7 y8 y9 : Value) :
    ∀ w', w' = ((((((((((w.setCell ⟨b, 0, none⟩ y0).setCell ⟨b, 1, none⟩ y1).setCell ⟨b, 2, none⟩ y2).setCell ⟨b, 3, none⟩ y3).setCell ⟨b, 4, none⟩ y4).setCell ⟨b, 5, none⟩ y5).setCell ⟨b, 6, none⟩ y6).setCell ⟨b, 7, none⟩ y7).setCell ⟨b, 8, none⟩ y8).setCell ⟨b, 9, none⟩ y9) →
      w'.heap[b]? = some (.cells #[y0, y1, y2, y3, y4, y5, y6, y7, y8, y9] t (0, 0)) ∧ Fr (F1 b) w w' := by
  rintro _ rfl
  have h0 := obj_set h 0 y0
  have h1 := obj_set h0 1 y1
  have h2 := obj_set h1 2 y2
  have h3 := obj_set h2 3 y3
  have h4 := obj_set h3 4 y4
  have h5 := obj_set h4 5 y5
  have h6 := obj_set h5 6 y6
  have h7 := obj_set h6 7 y7
  have h8 := obj_set h7 8 y8
  have h9 := obj_set h8 9 y9
  refine ⟨by simpa using h9, ?_⟩
  have f0 : Fr (F1 b) w (w.setCell ⟨b, 0, none⟩ y0) := Fr.setCell w ⟨b, 0, none⟩ y0
  have f1 : Fr (F1 b) w ((w.setCell ⟨b, 0, none⟩ y0).setCell ⟨b, 1, none⟩ y1) := f0.trans (Fr.setCell _ ⟨b, 1, none⟩ y1) (fun _ h => .inl h)
  have f2 := f1.trans (Fr.setCell _ ⟨b, 2, none⟩ y2) (fun _ h => .inl h)
  have f3 := f2.trans (Fr.setCell _ ⟨b, 3, none⟩ y3) (fun _ h => .inl h)
  have f4 := f3.trans (Fr.setCell _ ⟨b, 4, none⟩ y4) (fun _ h => .inl h)
  have f5 := f4.trans (Fr.setCell _ ⟨b, 5, none⟩ y5) (fun _ h => .inl h)
  have f6 := f5.trans (Fr.setCell _ ⟨b, 6, none⟩ y6) (fun _ h => .inl h)
  have f7 := f6.trans (Fr.setCell _ ⟨b, 7, none⟩ y7) (fun _ h => .inl h)
  have f8 := f7.trans (Fr.setCell _ ⟨b, 8, none⟩ y8) (fun _ h => .inl h)
  exact f8.trans (Fr.setCell _ ⟨b, 9, none⟩ y9) (fun _ h => .inl h)
set_option maxHeartbeats 1000000 in
theorem hread_form (v : Value) (l : List UInt8) (w : World) (hv : BS w v l) (h : 12 ≤ l.length) (h2 : l.length ≤ 200) (hf : firstN l < 128 ∨ 191 < firstN l) :
    Calls Try.prog 10 #[v] w (ReadPost w l) := by
  have hv0 := hv.below (below_alloc zero29)
  have hE := Lib.hid (read_form l h h2 hf)
  have hn := new_any v l _ hv0 (by omega)
  obtain ⟨A, c, rfl, hc, hcm, hr⟩ := bs_parts hv
  have HN := Lib.hid hn
  have HX := Lib.hid (heap_alloc_new w zero29)
  clear hv hr hv0 hn
  have hl : ¬ (200 : Int) < (l.length : Int) := by omega
  have hl2 : ¬ (l.length : Int) < 12 := by omega
  have hlt := firstN_lt l
  have hu := u64_id (u64n _ hlt)
  have hq : (((firstN l / 2 ^ 6 % 2 ^ 2 : Nat) : Int) != 2) = true := by simp; omega
  have hfl := fun w => fld_any (firstN l) 6 2 hlt (by omega) (by omega) w
  generalize firstN l / 2 ^ 6 % 2 ^ 2 = fq at *
  have HFl := Lib.hid hfl
  clear hfl hf
  refine calls_q fun Q HQ => ?_
  go_enter Try.func10, Try.ntmps10
  go_wp2_with fail
  refine HN.out.mono ?_
  rintro r w1 ⟨rb, rfl, hr, hb, hsz⟩
  have HB := Lib.hid hb
  have HS := Lib.hid (show RSt w1 (w.alloc zero29).heap.size rb (l.drop 0) 0 w1 from ⟨hr, Fr.refl _ _⟩)
  clear hr hb hsz
  go_wp2_with fail
  refine (rbyte_at HS.out (m := 1) (by omega) rfl).mono ?_
  rintro r w2 ⟨rfl, hs⟩
  rw [show rdN 1 (l.drop 0) = firstN l from rfl]
  have HS2 := Lib.hid hs
  clear hs
  go_wp2_with fail
  refine (HFl.out _).mono ?_
  rintro r w3 ⟨rfl, n1, rfl⟩
  have hrb := HS.out.rd.lt
  have hsz := World.size_alloc w zero29
  have hbx := (HS2.out.fr0 (Fr.drewN w2 n1)).box ((Fr.of HB.out).heap HX.out (fun h => h)) (show w.heap.size ≠ rb by omega)
  have HF := Lib.hid (fr_drewN HS2.out.fr n1)
  obtain ⟨k0, k1, k2, k3, k4, k5, k6, k7, k8, k9⟩ := ten_cells hbx
  obtain ⟨z0, z1, z2, z3, z4, z5, z6, z7, z8, z9⟩ := ten_frozen hbx
  have HBX := Lib.hid hbx
  clear hbx
  go_wp2_with fail
  generalize hW : World.setCell _ _ _ = wf
  obtain ⟨hx, hfx⟩ := obj_set10 HBX.out _ _ _ _ _ _ _ _ _ _ wf hW.symm
  clear hW k0 k1 k2 k3 k4 k5 k6 k7 k8 k9 z0 z1 z2 z3 z4 z5 z6 z7 z8 z9
  obtain ⟨k0, k1, k2, k3, k4, k5, k6, k7, k8, k9⟩ := ten_cells hx
  refine bodyPost_ret (v := .tuple #[zeroV, .int .i64 2]) (by simp [results, Try.results10, go_sem, k0, k1, k2, k3, k4, k5, k6, k7, k8, k9]; try rfl) rfl ?_
  refine HQ.out _ _ (read_no hE.out (by decide) ?_)
  have hb0 := (below_alloc (w := w) zero29).trans (HB.out.mono (by simp))
  have hb1 := hb0.trans (HF.out.below hb0.size (fun k (hk : k = rb) => by omega))
  exact hb1.trans (hfx.below hb1.size (fun k (hk : k = w.heap.size) => by omega))
/-! ### what is left behind the sources and the extension -/
theorem BSx.keep {lo rb b : Nat} {w w' : World} {v : Value} {x : List UInt8} (h : BSx (fun k => lo ≤ k ∧ k < rb) w v x) (hf : Fr (F1 b) w w') (hb : rb ≤ b) : BSx (fun k => lo ≤ k ∧ k < rb) w' v x :=
  h.fr hf (fun k _ hk (hx : k = b) => by omega)
theorem pad_le (l3 : List UInt8) (k : Nat) : padN l3 k ≤ (padL l3 k).length := by
  unfold padN padL
  split
  · next h => unfold padOk at h; simp at h; exact h.2
  · simp
theorem rd4_le (l : List UInt8) : rd4N l ≤ (rd4L l).length := by
  unfold rd4N rd4L
  split
  · exact pad_le _ _
  · omega
theorem itR_len (j : Nat) (l : List UInt8) : (itR j l).length ≤ l.length := by
  induction j with
  | zero => exact Nat.le_refl _
  | succ j ih =>
    show (rawR 4 (itR j l)).length ≤ _
    unfold rawR; split <;> simp <;> omega
theorem rawR_len (n : Nat) (l : List UInt8) : (rawR n l).length ≤ l.length := by
  unfold rawR; split <;> simp
theorem rd2_len (l : List UInt8) : (rd2L l).length ≤ l.length := by
  have := itR_len (firstN l % 16) (l.drop 12)
  simp at this
  unfold rd2L; omega
theorem rd3_len (l : List UInt8) : (rd3L l).length ≤ l.length := by
  have h1 := rd2_len l
  have h2 := rawR_len 2 (rd2L l)
  have h3 := rawR_len 2 (rawR 2 (rd2L l))
  have h4 := rawR_len (exN l) (rawR 2 (rawR 2 (rd2L l)))
  unfold rd3L; split <;> omega
theorem rd4_len (l : List UInt8) : (rd4L l).length ≤ l.length := by
  have h1 := rd3_len l
  unfold rd4L padL
  split
  · split
    · exact h1
    · simp
  · exact h1
theorem raw_rest (l4 : List UInt8) (n : Nat) (e : Int) (h : n ≤ l4.length) : rawL (l4.length - n) l4 = l4.take (l4.length - n) ∧ rawR n (rawR (l4.length - n) l4) = [] ∧ rawE n (rawR (l4.length - n) l4) (rawE (l4.length - n) l4 e) = e := by
  have h1 : rawR (l4.length - n) l4 = l4.drop (l4.length - n) := by rw [rawR, if_pos (by omega)]
  have h2 : (l4.drop (l4.length - n)).length = n := by simp; omega
  refine ⟨by rw [rawL, if_pos (by omega)], ?_, ?_⟩
  · rw [h1, rawR, if_pos (by omega)]
    exact List.drop_eq_nil_of_le (by omega)
  · rw [h1, rawE, if_pos (by omega), rawE, if_pos (by omega)]
theorem lastB_eq (l : List UInt8) (h : 0 < l.length) : lastB l = (l[l.length - 1]'(by omega)).toNat := by
  unfold lastB
  rw [List.getLastD_eq_getLast?, List.getLast?_eq_getElem?, List.getElem?_eq_getElem (by omega)]
  rfl
theorem readE_fine {l : List UInt8} {e : Int} (h : readE l = e) (h0 : e = 0) : readP l = readOf l := by rw [readP, if_pos (by rw [h, h0])]
theorem endE_nil (e : Int) : endE [] e = e := by simp [endE]
theorem rd_of_st {w0 : World} {lo rb pb : Nat} {l : List UInt8} {e : Int} {o : Obj} {sv : Value} {xs : List Nat} {w : World} (h : PSt w0 lo rb pb l e o sv xs w) : rb < pb ∧ pb < w.heap.size := ⟨h.opb, obj_lt h.p⟩
theorem read_yes {w wf : World} {l : List UInt8} {sv ve vp : Value} {has : Bool} {prof : Int} {ex PL : List UInt8} (hE : readE l = rd4E l) (h0 : rd4E l = 0) (h1 : (extOf l).has = has) (h2 : ((extOf l).prof : Int) = prof) (h3 : (extOf l).ex = ex)
    (hPL : (rd4L l).take ((rd4L l).length - rd4N l) = PL) (hs : SVx (fun k => w.heap.size ≤ k) wf sv (nums (itS (firstN l % 16) (l.drop 12)))) (he : BSx (fun k => w.heap.size ≤ k) wf ve ex) (hp : BSx (fun k => w.heap.size ≤ k) wf vp PL) (hb : Below w.heap.size w wf) :
    ReadPost w l (.returned (.tuple #[.agg #[.bool (decide (128 ≤ secondN l)), .int .u8 ((secondN l : Int) % 128), .int .u16 (rdN 2 (l.drop 2) : Nat), .int .u32 (rdN 4 (l.drop 4) : Nat), .int .u32 (rdN 4 (l.drop 8) : Nat), sv, .bool has, .int .u16 prof, ve, vp], .int .i64 0])) wf := by
  have hz : readE l = 0 := hE.trans h0
  refine ⟨_, by rw [hz], ?_, hb⟩
  rw [readP, if_pos hz]
  subst h1 h2 h3 hPL
  have e1 : (extOf l).m = decide (128 ≤ secondN l) ∧ (extOf l).ty = secondN l % 128 ∧ (extOf l).seq = rdN 2 (l.drop 2) ∧ (extOf l).st = rdN 4 (l.drop 4) ∧ (extOf l).so = rdN 4 (l.drop 8) ∧ (extOf l).srcs = itS (firstN l % 16) (l.drop 12) := by
    unfold extOf; split <;> exact ⟨rfl, rfl, rfl, rfl, rfl, rfl⟩
  obtain ⟨e1, e2, e3, e4, e5, e6⟩ := e1
  refine ⟨sv, ve, vp, ?_, ?_, he, hp⟩
  · show _ = Value.agg #[.bool (extOf l).m, .int .u8 ((extOf l).ty : Nat), .int .u16 ((extOf l).seq : Nat), .int .u32 ((extOf l).st : Nat), .int .u32 ((extOf l).so : Nat), sv, .bool (extOf l).has, .int .u16 ((extOf l).prof : Nat), ve, vp]
    rw [e1, e2, e3, e4, e5]
    simp
  · show SVx _ wf sv (nums (extOf l).srcs)
    rw [e6]; exact hs
end Go.Proofs.Ytphaehponljofaa
