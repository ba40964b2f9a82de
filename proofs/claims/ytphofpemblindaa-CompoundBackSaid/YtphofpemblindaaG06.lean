/- Laid together: RpRd, Fp, Fq. -/
import Derived.Test.YtphofpemblindaaG05
import Derived.Deep.RegionLaw
import Derived.Test.YtphofpemblindaaG03
import Derived.Test.YtphofpemblindaaG01
import Derived.Deep.RegionHeld3
import Derived.Deep.DeepCutAuto
/- The walk of report.Read. -/
namespace Go.Proofs.Ytphofpemblindaa
open Go.RowKit

/-- append onto a row of the call's own, of elements that are there, as a step of a region that draws -/
theorem step_appk {P : Program} {ops : Array Oper} {o : Oper} {a : Act} {w : World} {K : Act → World → Prop} {Q : Exit → Act → World → Prop} {E : Prop} (hgd : o.guard = none) (s x : Operand) (t : TypeId)
    (ho : o.op = .call { callee := .builtin .append, args := #[s, x], argTypes := #[t, t] })
    (base : Nat) (e : TypeId) (z : Value) (size bytes : Nat) (ht : P.underlying t = some (.slice e)) (hi : (P.info? e).map (fun i => (i.zero, i.size, i.bytes)) = some (some z, size, bytes))
    (hz : z.cells.size = size) (hsz : 0 < size) (v : Value) (n : Nat) (xs : List Value) (hs : a.eval s = v) (hown : w.ownsRow base e size v n xs) (ad : Addr) (m c : Nat) (news : List Value) (hx : a.eval x = .slice (some ad) m c)
    (hl : news.length = m * size) (hsrc : ∀ j u, news[j]? = some u → w.cell? (ad.add j) = some u) (h1 : ∀ u ∈ news, u.oneCell' = true) (h63 : n + m ≤ maxLen) (hb : (n + m) * bytes ≤ 140737488355328) (hbase : base ≤ w.heap.size)
    (h : ∀ v' w', w'.ownsRow base e size v' (n + m) (xs ++ news) → w.grownBy w' v.ownBlock → (v'.ownBlock = v.ownBlock ∨ v'.ownBlock = some w.heap.size) → K (a.put o.dst v') w') :
    if Region.wanted o (yielded ops a.tmps) = true then Oper.wp P o a w K Q else E := by
  have hw : Region.wanted o (yielded ops a.tmps) = true := by simp [Region.wanted, hgd]
  rw [if_pos hw]
  obtain ⟨i, hi, hz0, hsz', hby⟩ := info_parts hi
  obtain ⟨v', w', hr, h2, h3, _, h4⟩ := run_append_own_at (P := P) w base t o.type e i z size bytes ht hi hz0 hsz' hby hz hsz v n xs hown ad m c news hl hsrc h1 h63 hb hbase
  unfold Oper.wp execOp
  simp only [ho, resolve, invoke, builtin, Sem.run_bind, Sem.run_pure, Result.andThen_ok, List.map_toArray, List.map_cons, List.map_nil, hs, hx, hr]
  exact h v' w' h2 h3 h4
def cellsB (bs : List DB) : List Value := (bs.map DB.row).flatten
theorem cellsB_snoc (bs : List DB) (b : DB) : cellsB (bs ++ [b]) = cellsB bs ++ b.row := by simp [cellsB]
theorem DB.rows7 (bs : List DB) : ∀ r ∈ bs.map DB.row, r.length = 7 := by
  intro r hr
  obtain ⟨t, _, rfl⟩ := List.mem_map.1 hr
  rfl
theorem own_blocks {w : World} {base : Nat} {e : TypeId} {v : Value} {n : Nat} {bs : List DB} (hn : bs.length = n) (h : w.ownsRow base e 7 v n (cellsB bs)) (hk : ∀ b ∈ bs, b.Ok) : BlS w v bs :=
  ⟨own_rows (by simpa using hn) (DB.rows7 bs) h, hk⟩
/-- a report's value -/
def rval (r : DR) (v : Value) : Value := .agg #[.bool r.sd, .int .u32 (r.so : Nat), .int .u32 (r.i0 : Nat), .int .u32 (r.i1 : Nat), .int .u32 (r.i2 : Nat), .int .u32 (r.i3 : Nat), .int .u32 (r.i4 : Nat), v]
/-- what Read answers -/
def RdPostR (w : World) (d : DC) (r : Ending) (w' : World) : Prop :=
  ∃ v, r = .returned (.tuple #[rval (readR d) v, .int .i64 (rdErr d)]) ∧ BlS w' v (readR d).bl ∧ Below w.heap.size w w'
/-- .. and where its blocks lie -/
def RdPostX (w : World) (d : DC) (r : Ending) (w' : World) : Prop :=
  ∃ v, r = .returned (.tuple #[rval (readR d) v, .int .i64 (rdErr d)]) ∧ BlS w' v (readR d).bl ∧ Below w.heap.size w w' ∧ NewV w.heap.size v
abbrev zeroR8 : Obj := .cells #[.bool false, .int .u32 0, .int .u32 0, .int .u32 0, .int .u32 0, .int .u32 0, .int .u32 0, .slice none 0 0] 34 (0, 0)
abbrev objR (sd : Bool) (so i0 i1 i2 i3 i4 : Nat) (v : Value) : Obj := .cells #[.bool sd, .int .u32 (so : Nat), .int .u32 (i0 : Nat), .int .u32 (i1 : Nat), .int .u32 (i2 : Nat), .int .u32 (i3 : Nat), .int .u32 (i4 : Nat), v] 34 (0, 0)
/-- a report that grows: its cells -/
abbrev objX (d : DR) (v : Value) : Obj := .cells #[.bool d.sd, .int .u32 (d.so : Nat), .int .u32 (d.i0 : Nat), .int .u32 (d.i1 : Nat), .int .u32 (d.i2 : Nat), .int .u32 (d.i3 : Nat), .int .u32 (d.i4 : Nat), v] 34 (0, 0)
theorem rawR_more (a j : Nat) (l : List UInt8) : rawR (24 * j) (rawR a l) = rawR (a + 24 * j) l := by
  cases j with
  | zero => rw [Nat.mul_zero, rawR_0, Nat.add_zero]
  | succ j => exact rawR_add a _ l (by omega)
theorem rows_one (b : DB) : ∀ u ∈ b.row, u.oneCell' = true := by
  intro u hu
  simp [DB.row] at hu
  rcases hu with rfl | rfl | rfl | rfl | rfl | rfl | rfl <;> rfl
/-- a reader; the chunk's cells, the result's, and a report that grows -/
structure PR (w0 : World) (bx rx lo rb pb : Nat) (ock o : Obj) (l : List UInt8) (e : Int) (sv : Value) (xs : List DB) (w : World) : Prop where
  rd : Rd lo w rb l e
  ck : w.heap[bx]? = some ock
  res : w.heap[rx]? = some zeroR8
  p : w.heap[pb]? = some o
  own : w.ownsRow (pb + 1) 86 7 sv xs.length (cellsB xs)
  below : Below w0.heap.size w0 w
  o0 : w0.heap.size ≤ bx
  o1 : bx < rx
  o2 : rx < lo
  o3 : rb < pb
section
variable {w0 : World} {bx rx lo rb pb : Nat} {ock o : Obj} {l l' : List UInt8} {e e' : Int} {sv : Value} {xs : List DB} {w w' : World}
theorem PR.lob (h : PR w0 bx rx lo rb pb ock o l e sv xs w) : lo ≤ rb := h.rd.1
theorem PR.call (h : PR w0 bx rx lo rb pb ock o l e sv xs w) (hp : RPost lo w rb l' e' w') : PR w0 bx rx lo rb pb ock o l' e' sv xs w' := by
  have h0 := h.o0; have h1 := h.o1; have h2 := h.o2; have h3 := h.o3; have h4 := h.lob
  refine ⟨hp.1, hp.2.heap h.ck (fun (h : bx = rb) => by omega), hp.2.heap h.res (fun (h : rx = rb) => by omega), hp.2.heap h.p (fun (h : pb = rb) => by omega), hp.2.own h.own (fun k hk (hb : k = rb) => by have := (h.own.lt k hk).1; omega), h.below.trans (hp.2.below h.below.size (fun k (hk : k = rb) => by omega)), h0, h1, h2, h3⟩
theorem PR.fr0 (h : PR w0 bx rx lo rb pb ock o l e sv xs w) (hf : Fr F0 w w') : PR w0 bx rx lo rb pb ock o l e sv xs w' :=
  ⟨h.rd.fr0 hf, hf.heap h.ck (fun h => h), hf.heap h.res (fun h => h), hf.heap h.p (fun h => h), hf.own h.own (fun _ _ h => h), h.below.trans (hf.below h.below.size (fun _ hk => hk.elim)), h.o0, h.o1, h.o2, h.o3⟩
theorem PR.app (h : PR w0 bx rx lo rb pb ock o l e sv xs w) {sv' : Value} {x : DB} (ho : w'.ownsRow (pb + 1) 86 7 sv' (xs.length + 1) (cellsB xs ++ x.row)) (hg : w.grownBy w' sv.ownBlock) :
    PR w0 bx rx lo rb pb ock o l e sv' (xs ++ [x]) w' := by
  have h0 := h.o0; have h1 := h.o1; have h2 := h.o2; have h3 := h.o3; have h4 := h.lob
  have hf := Fr.grown hg
  have hlt : ∀ k, some k = sv.ownBlock → pb + 1 ≤ k := fun k hk => (h.own.lt k hk.symm).1
  have hsz := h.below.size
  refine ⟨h.rd.fr hf (fun k _ hk hx => by have := hlt k hx; omega), hf.heap h.ck (fun hx => by have := hlt _ hx; omega), hf.heap h.res (fun hx => by have := hlt _ hx; omega), hf.heap h.p (fun hx => by have := hlt _ hx; omega), ?_, h.below.trans (hf.below hsz (fun k hk => by have := hlt k hk; omega)), h0, h1, h2, h3⟩
  rw [cellsB_snoc, List.length_append]
  exact ho
theorem PR.set {cs : Array Value} {t : TypeId} (h : PR w0 bx rx lo rb pb ock (.cells cs t (0, 0)) l e sv xs w) (i : Nat) (u : Value) : PR w0 bx rx lo rb pb ock (.cells (cs.setIfInBounds i u) t (0, 0)) l e sv xs (w.setCell ⟨pb, i, none⟩ u) := by
  have h0 := h.o0; have h1 := h.o1; have h2 := h.o2; have h3 := h.o3; have h4 := h.lob
  have hf : Fr (F1 pb) w (w.setCell ⟨pb, i, none⟩ u) := Fr.setCell w ⟨pb, i, none⟩ u
  have hsz := h.below.size
  refine ⟨h.rd.fr hf (fun k _ hk (hx : k = pb) => by omega), hf.heap h.ck (fun (hx : bx = pb) => by omega), hf.heap h.res (fun (hx : rx = pb) => by omega), obj_set h.p i u, hf.own h.own (fun k hk (hx : k = pb) => by have := (h.own.lt k hk).1; omega), h.below.trans (hf.below hsz (fun k (hk : k = pb) => by omega)), h0, h1, h2, h3⟩
end
theorem BlS.frx {w w' : World} {base : Nat} {e : TypeId} {v : Value} {n : Nat} {bs : List DB} (hn : bs.length = n) (h : w.ownsRow base e 7 v n (cellsB bs)) (hk : ∀ b ∈ bs, b.Ok) {F : Nat → Prop} (hf : Fr F w w') (hF : ∀ k, base ≤ k → ¬ F k) : BlS w' v bs :=
  own_blocks hn (hf.own h (fun k hk => hF k (h.lt k hk).1)) hk
set_option maxHeartbeats 4000000 in
theorem rpread_x (n y : Nat) (A : Option Addr) (c : Nat) (B : List UInt8) (w : World) (hv : BS w (.slice A B.length c) B) (hn : n < 256) (hy : y < 256) (hl : B.length ≤ 1000) :
    Calls Try.prog 35 #[.agg #[.int .u8 (n : Nat), .int .u8 (y : Nat), .slice A B.length c]] w (RdPostX w (n, y, B)) := by
  have HV := Lib.hid hv
  clear hv
  refine calls_q fun Q HQ => ?_
  unfold RdPostX rval at HQ
  have hbx := heap_alloc_new w (.cells #[.int .u8 (n : Nat), .int .u8 (y : Nat), .slice A B.length c] 40 (0, 0))
  have hb1 := below_alloc (w := w) (.cells #[.int .u8 (n : Nat), .int .u8 (y : Nat), .slice A B.length c] 40 (0, 0))
  have hrx := heap_alloc_new (w.alloc (.cells #[.int .u8 (n : Nat), .int .u8 (y : Nat), .slice A B.length c] 40 (0, 0))) zeroR8
  have hbx2 := (Fr.alloc (w.alloc (.cells #[.int .u8 (n : Nat), .int .u8 (y : Nat), .slice A B.length c] 40 (0, 0))) zeroR8).heap hbx (fun h => h)
  have hb2 := hb1.alloc hb1.size zeroR8
  rw [World.size_alloc] at hrx
  have HX := Lib.hid hbx2
  have HRx := Lib.hid hrx
  have HB := Lib.hid hb2
  clear hbx hb1 hrx hbx2 hb2
  go_enter Try.func35, Try.ntmps35
  go_wp2_with fail
  have HS := Lib.hid (show w.heap.size < w.heap.size + 1 ∧ w.heap.size + 1 < ((w.alloc (.cells #[.int .u8 (n : Nat), .int .u8 (y : Nat), .slice A B.length c] 40 (0, 0))).alloc zeroR8).heap.size by simp)
  rw [show (w.alloc (.cells #[.int .u8 (n : Nat), .int .u8 (y : Nat), .slice A B.length c] 40)).alloc (Obj.cells #[.bool false, .int .u32 0, .int .u32 0, .int .u32 0, .int .u32 0, .int .u32 0, .int .u32 0, .slice none 0 0] 34) = (w.alloc (.cells #[.int .u8 (n : Nat), .int .u8 (y : Nat), .slice A B.length c] 40 (0, 0))).alloc zeroR8 from rfl] at *
  generalize hbx : w.heap.size = bx at HX HRx HS ⊢
  have HBx := Lib.hid (show w.heap.size ≤ bx by omega)
  clear hbx
  generalize (w.alloc (.cells #[.int .u8 (n : Nat), .int .u8 (y : Nat), .slice A B.length c] 40 (0, 0))).alloc zeroR8 = wa at *
  obtain ⟨rx, hrx⟩ : ∃ rx, rx = bx + 1 := ⟨_, rfl⟩
  rw [← hrx] at HRx HS ⊢
  clear hrx
  refine (cright_any n y A c B _ (by omega)).mono ?_
  rintro r w1 ⟨rfl, hb⟩
  have HX1 := Lib.hid ((Fr.of hb).heap HX.out (fun h => h))
  have HRx1 := Lib.hid ((Fr.of hb).heap HRx.out (fun h => h))
  have HB1 := Lib.hid (HB.out.trans (hb.mono HB.out.size))
  have HS1 := Lib.hid (show bx < rx ∧ rx < w1.heap.size by have := HS.out; have := hb.size; omega)
  clear hb HX HRx HB HS
  by_cases hr : rightC (n, y, B) = true
  · rw [hr]
    have HR := Lib.hid hr
    obtain ⟨k0, k1, k2, z0, z1, z2⟩ := cells3 HX1.out
    go_wp2_with fail
    refine (new_any _ B w1 (HV.out.below HB1.out) (by omega)).mono ?_
    rintro r w2 ⟨rb, rfl, hrd, hb, hsz⟩
    have HX2 := Lib.hid ((Fr.of hb).heap HX1.out (fun h => h))
    have HRx2 := Lib.hid ((Fr.of hb).heap HRx1.out (fun h => h))
    have HB2 := Lib.hid (HB1.out.trans (hb.mono HB1.out.size))
    have HRd2 := Lib.hid hrd
    generalize w1.heap.size = lo at *
    clear hrd hb hsz HX1 HRx1 HB1 k0 k1 k2 z0 z1 z2
    go_wp2_with fail
    refine (rnum_any lo rb B 0 w2 HRd2.out).mono ?_
    rintro r w3 ⟨rfl, hp⟩
    have h1 := HRd2.out.1
    have hlt := HRd2.out.lt
    have hs1 := HS1.out
    have HX3 := Lib.hid (hp.2.heap HX2.out (fun (h : bx = rb) => by omega))
    have HRx3 := Lib.hid (hp.2.heap HRx2.out (fun (h : rx = rb) => by omega))
    have hbx0 := HBx.out
    have HB3 := Lib.hid (HB2.out.trans (hp.2.below HB2.out.size (fun k (hk : k = rb) => by omega)))
    have hpr : PR w bx rx lo rb w3.heap.size (.cells #[.int .u8 (n : Nat), .int .u8 (y : Nat), .slice A B.length c] 40 (0, 0)) (objR false (rdN 4 B) 0 0 0 0 0 (.slice none 0 0)) (rawR 4 B) (rawE 4 B 0) (.slice none 0 0) [] (w3.alloc (objR false (rdN 4 B) 0 0 0 0 0 (.slice none 0 0))) := by
      have ha := Fr.alloc w3 (objR false (rdN 4 B) 0 0 0 0 0 (.slice none 0 0))
      have := hp.1.lt
      exact ⟨hp.1.fr0 ha, ha.heap HX3.out (fun h => h), ha.heap HRx3.out (fun h => h), heap_alloc_new _ _, World.ownsRow_nil _ _ _ _, HB3.out.alloc HB3.out.size _, hbx0, hs1.1, hs1.2, this.2⟩
    have HP := Lib.hid hpr
    clear hpr hp h1 hlt hs1 hbx0 HX2 HRx2 HB2 HRd2 HX3 HRx3 HB3 HBx HS1
    generalize hso : rdN 4 B = so at *
    have HSo := Lib.hid hso
    clear hso
    go_upto_region 5 with fail
    rw [show w3.alloc (Obj.cells #[.bool false, .int .u32 (so : Nat), .int .u32 0, .int .u32 0, .int .u32 0, .int .u32 0, .int .u32 0, .slice none 0 0] 34) = w3.alloc (objR false so 0 0 0 0 0 (.slice none 0 0)) from rfl]
    generalize w3.alloc (objR false so 0 0 0 0 0 (.slice none 0 0)) = w4 at *
    generalize w3.heap.size = pb at *
    have hd0 : decR (n, y, B) = (if y = 200 then ⟨true, so, rdN 4 (rawR 4 B), rdN 4 (rawR 8 B), rdN 4 (rawR 12 B), rdN 4 (rawR 16 B), rdN 4 (rawR 20 B), decBs n (rawR 24 B)⟩ else ⟨false, so, 0, 0, 0, 0, 0, decBs n (rawR 4 B)⟩) := by rw [← HSo.out]; rfl
    have hre0 : y = 200 ∨ y = 201 → rdErr (n, y, B) = endE (rawR (wantN (n, y, B)) B) (rawE (wantN (n, y, B)) B 0) := by
      intro hy3
      have hi : isR y = true := by simpa [isR] using hy3
      rw [rdErr, if_pos hr]
      show (if isR y = true then _ else _) = _
      rw [if_pos hi]
    have hre1 : ¬ (y = 200 ∨ y = 201) → rdErr (n, y, B) = 5 := by
      intro hy3
      have hi : isR y = false := by simpa [isR] using hy3
      rw [rdErr, if_pos hr]
      show (if isR y = true then _ else _) = _
      rw [if_neg (by simp [hi])]
    obtain ⟨rd, hrd⟩ : ∃ rd, readR (n, y, B) = rd := ⟨_, rfl⟩
    have hrr : rd = if rdErr (n, y, B) = 0 then decR (n, y, B) else DR.zero := hrd.symm
    obtain ⟨er, her⟩ : ∃ er, rdErr (n, y, B) = er := ⟨_, rfl⟩
    obtain ⟨d, hd⟩ : ∃ d, decR (n, y, B) = d := ⟨_, rfl⟩
    rw [hd] at hd0
    rw [her] at hre0 hre1
    rw [her, hd] at hrr
    rw [hrd, her] at HQ
    have HRr := Lib.hid hrr
    have hok : ∀ k, ∀ b ∈ decBs k (rawR 24 B), b.Ok := fun k b hb => (decBs_ok _ _ b hb).1
    clear hrd her hrr hr hd hok
    by_cases hy3 : y = 200 ∨ y = 201
    · have hre := hre0 hy3
      clear hre0 hre1
      rcases hy3 with rfl | rfl
      case' inl =>
        rw [if_pos rfl] at hd0
        have HDec := Lib.hid hd0
        have HRe := Lib.hid (show er = endE (rawR (24 + 24 * n) B) (rawE (24 + 24 * n) B 0) from hre)
        clear hd0 hre
        obtain ⟨k0, k1, k2, z0, z1, z2⟩ := cells3 HP.out.ck
        obtain ⟨q0, q1, q2, q3, q4, q5, q6, q7⟩ := frz7 HP.out.p
        obtain ⟨p0, p1, p2, p3, p4, p5, p6, p7⟩ := cells8 HP.out.p
        have h5 := HP.out.set 0 (.bool true)
        rw [show (#[Value.bool false, .int .u32 (so : Nat), .int .u32 ((0 : Nat) : Int), .int .u32 ((0 : Nat) : Int), .int .u32 ((0 : Nat) : Int), .int .u32 ((0 : Nat) : Int), .int .u32 ((0 : Nat) : Int), .slice none 0 0].setIfInBounds 0 (.bool true)) = #[.bool true, .int .u32 (so : Nat), .int .u32 ((0 : Nat) : Int), .int .u32 ((0 : Nat) : Int), .int .u32 ((0 : Nat) : Int), .int .u32 ((0 : Nat) : Int), .int .u32 ((0 : Nat) : Int), .slice none 0 0] from rfl] at h5
        have H5 := Lib.hid h5
        clear HP h5
        go_upto_region 9 with fail
        generalize w4.setCell ⟨pb, 0, none⟩ (.bool true) = w5 at *
        clear k0 k1 k2 z0 z1 z2 q0 q1 q2 q3 q4 q5 q6 q7 p0 p1 p2 p3 p4 p5 p6 p7
        have hri := rinfo_any lo rb (rawR 4 B) (rawE 4 B 0) w5 H5.out.rd
        rw [rawR_add 4 4 B (by decide), rawR_add 4 8 B (by decide), rawR_add 4 12 B (by decide), rawR_add 4 16 B (by decide), rawR_add 4 20 B (by decide), rawE_add 4 20 B 0 (by decide)] at hri
        simp only [Nat.reduceAdd] at hri
        generalize rdN 4 (rawR 4 B) = j0 at *
        generalize rdN 4 (rawR 8 B) = j1 at *
        generalize rdN 4 (rawR 12 B) = j2 at *
        generalize rdN 4 (rawR 16 B) = j3 at *
        generalize rdN 4 (rawR 20 B) = j4 at *
        have HRi := Lib.hid hri
        clear hri
        obtain ⟨q0, q1, q2, q3, q4, q5, q6, q7⟩ := frz7 H5.out.p
        obtain ⟨p0, p1, p2, p3, p4, p5, p6, p7⟩ := cells8 H5.out.p
        go_wp2_with fail
        refine HRi.out.mono ?_
        rintro r w6 ⟨rfl, hp⟩
        have H6 := Lib.hid (H5.out.call hp)
        clear HRi H5 hp q0 q1 q2 q3 q4 q5 q6 q7 p0 p1 p2 p3 p4 p5 p6 p7
        obtain ⟨q0, q1, q2, q3, q4, q5, q6, q7⟩ := frz7 H6.out.p
        obtain ⟨p0, p1, p2, p3, p4, p5, p6, p7⟩ := cells8 H6.out.p
        go_upto_region 10 with fail
        have h7 := ((((H6.out.set 2 (.int .u32 (j0 : Nat))).set 3 (.int .u32 (j1 : Nat))).set 4 (.int .u32 (j2 : Nat))).set 5 (.int .u32 (j3 : Nat))).set 6 (.int .u32 (j4 : Nat))
        have pack : ∃ ah : Nat, Hid (PR w bx rx lo rb pb (.cells #[.int .u8 (n : Nat), .int .u8 ((200 : Nat) : Int), .slice A B.length c] 40 (0, 0)) (objX d (.slice none 0 0)) (rawR ah B) (rawE ah B 0) (.slice none 0 0) [] (((((w6.setCell ⟨pb, 2, none⟩ (.int .u32 (j0 : Nat))).setCell ⟨pb, 3, none⟩ (.int .u32 (j1 : Nat))).setCell ⟨pb, 4, none⟩ (.int .u32 (j2 : Nat))).setCell ⟨pb, 5, none⟩ (.int .u32 (j3 : Nat))).setCell ⟨pb, 6, none⟩ (.int .u32 (j4 : Nat)))) ∧
            Hid (er = endE (rawR (ah + 24 * n) B) (rawE (ah + 24 * n) B 0)) ∧ Hid (d.bl = decBs n (rawR ah B)) :=
          ⟨24, Lib.hid (by rw [HDec.out]; exact h7), HRe, Lib.hid (by rw [HDec.out])⟩
        obtain ⟨ah, H7, HRa, HBl⟩ := pack
        clear h7 H6 HRe HDec q0 q1 q2 q3 q4 q5 q6 q7 p0 p1 p2 p3 p4 p5 p6 p7
        generalize ((((w6.setCell ⟨pb, 2, none⟩ (.int .u32 (j0 : Nat))).setCell ⟨pb, 3, none⟩ (.int .u32 (j1 : Nat))).setCell ⟨pb, 4, none⟩ (.int .u32 (j2 : Nat))).setCell ⟨pb, 5, none⟩ (.int .u32 (j3 : Nat))).setCell ⟨pb, 6, none⟩ (.int .u32 (j4 : Nat)) = w7 at *
        obtain ⟨k0, k1, k2, z0, z1, z2⟩ := cells3 H7.out.ck
        go_upto_region 11 with fail
        generalize (Obj.cells #[.int .u8 (n : Nat), .int .u8 ((200 : Nat) : Int), .slice A B.length c] 40 (0, 0)) = ock at *
        clear k0 k1 k2 z0 z1 z2
      case' inr =>
        rw [if_neg (by decide)] at hd0
        obtain ⟨k0, k1, k2, z0, z1, z2⟩ := cells3 HP.out.ck
        have pack : ∃ ah : Nat, Hid (PR w bx rx lo rb pb (.cells #[.int .u8 (n : Nat), .int .u8 ((201 : Nat) : Int), .slice A B.length c] 40 (0, 0)) (objX d (.slice none 0 0)) (rawR ah B) (rawE ah B 0) (.slice none 0 0) [] w4) ∧
            Hid (er = endE (rawR (ah + 24 * n) B) (rawE (ah + 24 * n) B 0)) ∧ Hid (d.bl = decBs n (rawR ah B)) :=
          ⟨4, Lib.hid (by rw [hd0]; exact HP.out), Lib.hid hre, Lib.hid (by rw [hd0])⟩
        obtain ⟨ah, H7, HRa, HBl⟩ := pack
        clear HP hd0 hre
        obtain ⟨w7, hw7⟩ : ∃ w7, w4 = w7 := ⟨_, rfl⟩
        rw [hw7] at H7 k0 k1 k2 z0 z1 z2 ⊢
        clear hw7
        go_upto_region 11 with fail
        generalize (Obj.cells #[.int .u8 (n : Nat), .int .u8 ((201 : Nat) : Int), .slice A B.length c] 40 (0, 0)) = ock at *
        clear k0 k1 k2 z0 z1 z2
      all_goals
        go_loopw [29] (fun i wr => ∃ (j : Nat) (sv : Value), j ≤ n ∧ i = .int .u8 j ∧ PR w bx rx lo rb pb ock (objX d sv) (rawR (ah + 24 * j) B) (rawE (ah + 24 * j) B 0) sv (decBs j (rawR ah B)) wr) (fun i _ => n - (intOf i).toNat)
        case atStart => exact ⟨0, .slice none 0 0, Nat.zero_le _, rfl, H7.out⟩
        case round =>
          obtain ⟨j, sv, hj, rfl, hs⟩ := hrel
          obtain ⟨A5, c5, rfl⟩ := own_slice hs.own
          have hjl := decBs_len j (rawR ah B)
          rw [hjl] at hs
          have HSt := Lib.hid hs
          clear hs
          by_cases hlt : j < n
          · have hjc : (j : Int) < (n : Int) := by omega
            have hw8 : IntKind.u8.wrap ((j : Int) + 1) = (j : Int) + 1 := by rw [wrap_u8]; omega
            go_wp2_with fail
            have HD := Lib.hid (HSt.out.fr0 (Fr.drew wr))
            have k5 := (cells8 HD.out.p).2.2.2.2.2.2.2
            go_region_law (first
              | (refine step_appk rfl (.tmp 32) (.tmp 35) 32 rfl (pb + 1) 86 (.agg #[.int .u32 0, .int .u8 0, .int .i32 0, .int .u32 0, .int .u32 0, .int .u32 0, .int .u32 0]) 7 28 Try.underlying32 (by kernel_rfl) rfl (by decide) _ _ _ rfl HA.out.own _ 1 1 (decB (rawR (ah + 24 * j) B)).row rfl rfl (new_cells w6 (decB (rawR (ah + 24 * j) B)).row _) (rows_one _) (by unfold maxLen; omega) (by omega) HAb.out ?_
                 intro v' w7 hown hg hblk
                 obtain ⟨A7, c7, rfl⟩ := own_slice hown
                 have HP7 := Lib.hid (HA.out.app hown hg)
                 have k57 := (cells8 HP7.out.p).2.2.2.2.2.2.2
                 have z57 := (frz7 HP7.out.p).2.2.2.2.2.2.2
                 clear hown hg hblk)
              | (go_simp
                 go_at_call 54
                 refine (rblock_any _ _ _ _ _ HD.out.rd).mono ?_
                 rintro r w6 ⟨rfl, hp⟩
                 have HC := Lib.hid (HD.out.call hp)
                 have k56 := (cells8 HC.out.p).2.2.2.2.2.2.2
                 have HA := Lib.hid (HC.out.fr0 (Fr.alloc w6 (.cells #[.int .u32 ((decB (rawR (ah + 24 * j) B)).s : Nat), .int .u8 ((decB (rawR (ah + 24 * j) B)).p : Nat), .int .i32 (decB (rawR (ah + 24 * j) B)).m, .int .u32 ((decB (rawR (ah + 24 * j) B)).h : Nat), .int .u32 ((decB (rawR (ah + 24 * j) B)).j : Nat), .int .u32 ((decB (rawR (ah + 24 * j) B)).l : Nat), .int .u32 ((decB (rawR (ah + 24 * j) B)).d : Nat)] 86)))
                 have k56a := (cells8 HA.out.p).2.2.2.2.2.2.2
                 have HAb := Lib.hid (show pb + 1 ≤ (w6.alloc (.cells #[.int .u32 ((decB (rawR (ah + 24 * j) B)).s : Nat), .int .u8 ((decB (rawR (ah + 24 * j) B)).p : Nat), .int .i32 (decB (rawR (ah + 24 * j) B)).m, .int .u32 ((decB (rawR (ah + 24 * j) B)).h : Nat), .int .u32 ((decB (rawR (ah + 24 * j) B)).j : Nat), .int .u32 ((decB (rawR (ah + 24 * j) B)).l : Nat), .int .u32 ((decB (rawR (ah + 24 * j) B)).d : Nat)] 86)).heap.size by rw [World.size_alloc]; have := obj_lt HC.out.p; omega)
                 clear hp))
            all_goals
              (have hn7 := HP7.out.set 7 (.slice A7 ((decBs j (rawR ah B)).length + 1) c7)
               rw [rawR_add _ 24 _ (by decide), rawE_add _ 24 _ _ (by decide), hjl, show ah + 24 * j + 24 = ah + 24 * (j + 1) by omega, ← rawR_more ah j B, ← decBs_snoc] at hn7
               have HN7 := Lib.hid (show PR w bx rx lo rb pb ock (objX d (.slice A7 (j + 1) c7)) (rawR (ah + 24 * (j + 1)) B) (rawE (ah + 24 * (j + 1)) B 0) (.slice A7 (j + 1) c7) (decBs (j + 1) (rawR ah B)) _ from hn7)
               clear hn7
               rw [hjl] at *
               go_wp2_with fail
               go_roundw
               case rel => first | exact ⟨j + 1, .slice A7 (j + 1) c7, by omega, by go_num, HN7.out⟩ | exact ⟨j + 1, by omega, .slice A7 (j + 1) c7, by go_num, HN7.out⟩ | exact ⟨j + 1, by omega, by go_num, .slice A7 (j + 1) c7, HN7.out⟩
               case measure => simp [intOf]; omega)
          · have : j = n := by omega
            subst this
            have hre2 := rend_any lo rb _ _ wr HSt.out.rd
            rw [← HRa.out] at hre2
            have HEn := Lib.hid hre2
            have HBs := Lib.hid (own_blocks hjl (by have h := HSt.out.own; rw [hjl] at h; exact h) (fun b hb => (decBs_ok _ _ b hb).1))
            clear hre2
            by_cases he : er = 0
            · have hr0 := HRr.out
              rw [if_pos he] at hr0
              subst he
              subst hr0
              go_wp2_with fail
              refine HEn.out.mono ?_
              rintro r w8 ⟨rfl, rfl⟩
              obtain ⟨p0, p1, p2, p3, p4, p5, p6, p7⟩ := cells8 HSt.out.p
              obtain ⟨m0, m1, m2, m3, m4, m5, m6, m7⟩ := cells8 HSt.out.res
              obtain ⟨q0, q1, q2, q3, q4, q5, q6, q7⟩ := frz7 HSt.out.res
              go_wp2_with fail
              generalize hW : World.setCell _ _ _ = wf
              obtain ⟨hx, hfx⟩ := objs8 HSt.out.res _ _ _ _ _ _ _ _ wf hW.symm
              clear hW p0 p1 p2 p3 p4 p5 p6 p7 m0 m1 m2 m3 m4 m5 m6 m7 q0 q1 q2 q3 q4 q5 q6 q7
              obtain ⟨m0, m1, m2, m3, m4, m5, m6, m7⟩ := cells8 hx
              have hbl := HBs.out
              have o0 := HSt.out.o0
              have o1 := HSt.out.o1
              have o2 := HSt.out.o2
              have o3 := HSt.out.o3
              have o4 := HSt.out.lob
              refine bodyPost_ret (v := .tuple #[.agg #[.bool rd.sd, .int .u32 (rd.so : Nat), .int .u32 (rd.i0 : Nat), .int .u32 (rd.i1 : Nat), .int .u32 (rd.i2 : Nat), .int .u32 (rd.i3 : Nat), .int .u32 (rd.i4 : Nat), .slice A5 j c5], .int .i64 0]) (by simp [results, Try.results35, go_sem, m0, m1, m2, m3, m4, m5, m6, m7]; try rfl) rfl ?_
              refine HQ.out _ _ ⟨.slice A5 j c5, rfl, ?_, HSt.out.below.trans (hfx.below HSt.out.below.size (fun k (hk : k = rx) => by omega)), own_newv HSt.out.own (by have := HSt.out.rd.lt.1; omega)⟩
              rw [HBl.out]
              exact BlS.frx hjl (by have h := HSt.out.own; rw [hjl] at h; exact h) (fun b hb => (decBs_ok _ _ b hb).1) hfx (fun k hk (hx : k = rx) => by omega)
            · have hr0 := HRr.out
              rw [if_neg he] at hr0
              subst hr0
              have hne : (er != 0) = true := by simp [he]
              clear he HRr HRa HBs HBl hjl
              go_wp2_with fail
              refine HEn.out.mono ?_
              rintro r w8 ⟨rfl, rfl⟩
              obtain ⟨m0, m1, m2, m3, m4, m5, m6, m7⟩ := cells8 HSt.out.res
              obtain ⟨q0, q1, q2, q3, q4, q5, q6, q7⟩ := frz7 HSt.out.res
              go_wp2_with fail
              generalize hW : World.setCell _ _ _ = wf
              obtain ⟨hx, hfx⟩ := objs8 HSt.out.res _ _ _ _ _ _ _ _ wf hW.symm
              clear hW m0 m1 m2 m3 m4 m5 m6 m7 q0 q1 q2 q3 q4 q5 q6 q7
              obtain ⟨m0, m1, m2, m3, m4, m5, m6, m7⟩ := cells8 hx
              have o0 := HSt.out.o0
              have o1 := HSt.out.o1
              refine bodyPost_ret (v := .tuple #[.agg #[.bool false, .int .u32 0, .int .u32 0, .int .u32 0, .int .u32 0, .int .u32 0, .int .u32 0, .slice none 0 0], .int .i64 er]) (by simp [results, Try.results35, go_sem, m0, m1, m2, m3, m4, m5, m6, m7]; try rfl) rfl ?_
              exact HQ.out _ _ ⟨.slice none 0 0, rfl, BlS.nil _, HSt.out.below.trans (hfx.below HSt.out.below.size (fun k (hk : k = rx) => by omega)), NewV.nil _ _ _⟩
    · have he5 := hre1 hy3
      subst he5
      have hr0 := HRr.out
      rw [if_neg (by decide)] at hr0
      subst hr0
      have hy1 : ((y : Int) == 200) = false := by simp; omega
      have hy2 : ((y : Int) == 201) = false := by simp; omega
      clear hre0 hre1 hd0 HRr hy3
      obtain ⟨k0, k1, k2, z0, z1, z2⟩ := cells3 HP.out.ck
      obtain ⟨m0, m1, m2, m3, m4, m5, m6, m7⟩ := cells8 HP.out.res
      obtain ⟨q0, q1, q2, q3, q4, q5, q6, q7⟩ := frz7 HP.out.res
      go_wp2_with fail
      generalize hW : World.setCell _ _ _ = wf
      obtain ⟨hx, hfx⟩ := objs8 HP.out.res _ _ _ _ _ _ _ _ wf hW.symm
      clear hW m0 m1 m2 m3 m4 m5 m6 m7 q0 q1 q2 q3 q4 q5 q6 q7
      obtain ⟨m0, m1, m2, m3, m4, m5, m6, m7⟩ := cells8 hx
      have o0 := HP.out.o0
      have o1 := HP.out.o1
      refine bodyPost_ret (v := .tuple #[.agg #[.bool false, .int .u32 0, .int .u32 0, .int .u32 0, .int .u32 0, .int .u32 0, .int .u32 0, .slice none 0 0], .int .i64 5]) (by simp [results, Try.results35, go_sem, m0, m1, m2, m3, m4, m5, m6, m7]; try rfl) rfl ?_
      exact HQ.out _ _ ⟨.slice none 0 0, rfl, BlS.nil _, HP.out.below.trans (hfx.below HP.out.below.size (fun k (hk : k = rx) => by omega)), NewV.nil _ _ _⟩
  · have hr' : rightC (n, y, B) = false := by simpa using hr
    have her : rdErr (n, y, B) = 1 := by rw [rdErr, if_neg hr]
    have hrr : readR (n, y, B) = DR.zero := by rw [readR, if_neg (by rw [her]; decide)]
    rw [her, hrr] at HQ
    rw [hr']
    obtain ⟨m0, m1, m2, m3, m4, m5, m6, m7⟩ := cells8 HRx1.out
    obtain ⟨q0, q1, q2, q3, q4, q5, q6, q7⟩ := frz7 HRx1.out
    clear hr hr' her hrr
    go_wp2_with fail
    generalize hW : World.setCell _ _ _ = wf
    obtain ⟨hx, hfx⟩ := objs8 HRx1.out _ _ _ _ _ _ _ _ wf hW.symm
    clear hW m0 m1 m2 m3 m4 m5 m6 m7 q0 q1 q2 q3 q4 q5 q6 q7
    obtain ⟨m0, m1, m2, m3, m4, m5, m6, m7⟩ := cells8 hx
    refine bodyPost_ret (v := .tuple #[.agg #[.bool false, .int .u32 0, .int .u32 0, .int .u32 0, .int .u32 0, .int .u32 0, .int .u32 0, .slice none 0 0], .int .i64 1]) (by simp [results, Try.results35, go_sem, m0, m1, m2, m3, m4, m5, m6, m7]; try rfl) rfl ?_
    exact HQ.out _ _ ⟨.slice none 0 0, rfl, BlS.nil _, HB1.out.trans (hfx.below HB1.out.size (fun k (hk : k = rx) => by have := HS1.out; have := HBx.out; omega)), NewV.nil _ _ _⟩
theorem rpread_any (n y : Nat) (A : Option Addr) (c : Nat) (B : List UInt8) (w : World) (hv : BS w (.slice A B.length c) B) (hn : n < 256) (hy : y < 256) (hl : B.length ≤ 1000) :
    Calls Try.prog 35 #[.agg #[.int .u8 (n : Nat), .int .u8 (y : Nat), .slice A B.length c]] w (RdPostR w (n, y, B)) :=
  (rpread_x n y A c B w hv hn hy hl).mono fun _ _ ⟨u, he, hu, hb, _⟩ => ⟨u, he, hu, hb⟩
end Go.Proofs.Ytphofpemblindaa
/- The walks of feed's pairs: after, firstPair, fits. -/
namespace Go.Proofs.Ytphofpemblindaa
open Go.RowKit

theorem aft_wrap (n : Int) (k : Nat) : IntKind.u16.wrap (IntKind.u16.wrap (n + IntKind.u16.wrap (k : Int)) + 1) = aft n k := by
  rw [wrap_u16, wrap_u16, wrap_u16]; unfold aft; omega
set_option maxHeartbeats 400000 in
theorem after_any (n a : Int) (k : Nat) (w : World) :
    Calls Try.prog 74 #[.agg #[.int .u16 n, .int .u16 a], .int .i64 (k : Nat)] w fun e w' => e = .returned (.int .u16 (aft n k)) ∧ Below w.heap.size w w' := by
  have hw := aft_wrap n k
  refine calls_q fun Q HQ => ?_
  go_enter Try.func74, Try.ntmps74
  go_wp2_with fail
  exact HQ.out _ _ ⟨rfl, below_alloc _⟩

/-! ### lost numbers as a slice -/
/-- lost numbers, in blocks of G -/
abbrev LoG (G : Nat → Prop) (w : World) (v : Value) (l : List Int) : Prop := SVx G w v (ints .u16 l)
theorem LoG.parts {G : Nat → Prop} {w : World} {v : Value} {l : List Int} (h : LoG G w v l) : ∃ A c, v = .slice A l.length c ∧ l.length ≤ c ∧ c ≤ 9223372036854775807 ∧
    (0 < l.length → ∃ b o, A = some ⟨b, o, none⟩ ∧ b < w.heap.size ∧ G b ∧ ∀ j (h : j < l.length), w.cell? ⟨b, o + j, none⟩ = some (.int .u16 l[j])) := by
  obtain ⟨⟨A, c, rfl, h1, h2, h3⟩, h4⟩ := h
  have hl := ints_len .u16 l
  refine ⟨A, c, by rw [hl], by omega, by unfold maxLen at h2; omega, fun hp => ?_⟩
  obtain ⟨b, o, rfl, hb, hc⟩ := h3 (by omega)
  refine ⟨b, o, rfl, hb, h4 (by omega) b rfl, fun j hj => ?_⟩
  have := hc j (by omega)
  simpa [ints] using this
/-- all but the first -/
theorem LoG.tail {G : Nat → Prop} {w : World} {A A' : Option Addr} {n c c' : Nat} {x : Int} {l : List Int} (h : LoG G w (.slice A n c) (x :: l)) (hA : l.length = 0 ∨ A' = A.map (fun x => x.add 1)) (hc : l.length ≤ c') (hm : c' ≤ 9223372036854775807) :
    LoG G w (.slice A' l.length c') l := by
  obtain ⟨⟨A1, c1, he, h1, h2, h3⟩, h4⟩ := h
  simp only [Value.slice.injEq] at he
  obtain ⟨rfl, _, rfl⟩ := he
  have hl := ints_len .u16 l
  by_cases hz : l.length = 0
  · obtain rfl := List.eq_nil_of_length_eq_zero hz
    exact ⟨⟨A', c', rfl, Nat.zero_le _, by unfold maxLen; omega, fun h => absurd h (by simp [ints])⟩, fun h => absurd h (by simp [ints])⟩
  · obtain rfl := hA.resolve_left hz
    obtain ⟨b, o, rfl, hb, hcell⟩ := h3 (by simp [ints])
    have hG := h4 (by simp [ints]) b rfl
    have ha : (⟨b, o, none⟩ : Addr).add 1 = ⟨b, o + 1, none⟩ := by rw [RowV.add rfl]
    refine ⟨⟨_, c', by rw [hl], by rw [hl]; exact hc, by unfold maxLen; omega, fun _ => ⟨b, o + 1, by rw [Option.map_some, ha], hb, fun j hj => ?_⟩⟩, fun _ k hk => ?_⟩
    · have := hcell (j + 1) (by rw [ints_len] at hj ⊢; simpa using hj)
      rw [show o + 1 + j = o + (j + 1) by omega, this]
      simp [ints]
    · rw [Option.map_some, ha] at hk
      simp only [Value.ownBlock, Option.some.injEq] at hk
      exact hk ▸ hG
theorem LoG.below {G : Nat → Prop} {w w' : World} {v : Value} {l : List Int} (h : LoG G w v l) (hb : Below w.heap.size w w') : LoG G w' v l := h.fr (Fr.of hb) (fun _ _ _ h => h)
theorem objs2 {w : World} {b : Nat} {c0 c1 : Value} {t : TypeId} (h : w.heap[b]? = some (.cells #[c0, c1] t (0, 0))) (x y : Value) (w' : World) (hw : w' = (w.setCell ⟨b, 0, none⟩ x).setCell ⟨b, 1, none⟩ y) :
    w'.heap[b]? = some (.cells #[x, y] t (0, 0)) ∧ Fr (F1 b) w w' := by
  subst hw
  have h1 := obj_set h 0 x
  have h2 := obj_set h1 1 y
  exact ⟨by simpa using h2, (Fr.setCell w ⟨b, 0, none⟩ x).trans (Fr.setCell _ ⟨b, 1, none⟩ y) (fun _ h => .inl h)⟩
/-- a pair that grows, beside the numbers that are left -/
structure FpS (G : Nat → Prop) (w0 : World) (rx bp : Nat) (n : Int) (a : Nat) (l : List Int) (v : Value) (w : World) : Prop where
  res : w.heap[rx]? = some (.cells #[.int .u16 0, .int .u16 0] 126 (0, 0))
  p : w.heap[bp]? = some (.cells #[.int .u16 n, .int .u16 (a : Nat)] 126 (0, 0))
  v : LoG (fun k => G k ∧ k < w0.heap.size) w v l
  below : Below w0.heap.size w0 w
  o0 : w0.heap.size ≤ rx
  o1 : rx < bp
section
variable {G : Nat → Prop} {w0 : World} {rx bp : Nat} {n : Int} {a : Nat} {l : List Int} {v : Value} {w w' : World}
theorem FpS.after (h : FpS G w0 rx bp n a l v w) (hb : Below w.heap.size w w') : FpS G w0 rx bp n a l v w' :=
  ⟨(Fr.of hb).heap h.res (fun h => h), (Fr.of hb).heap h.p (fun h => h), h.v.below hb, h.below.trans (hb.mono h.below.size), h.o0, h.o1⟩
theorem FpS.drew (h : FpS G w0 rx bp n a l v w) : FpS G w0 rx bp n a l v w.drew := h.after (below_drewN (Below.refl _ _) 1)
theorem FpS.cells (h : FpS G w0 rx bp n a l v w) : w.cell? ⟨bp, 0, none⟩ = some (.int .u16 n) ∧ w.cell? ⟨bp, 1, none⟩ = some (.int .u16 (a : Nat)) ∧ w.frozen? ⟨bp, 0, none⟩ = false ∧ w.frozen? ⟨bp, 1, none⟩ = false :=
  ⟨obj_cell h.p 0, obj_cell h.p 1, obj_frozen h.p 0, obj_frozen h.p 1⟩
theorem FpS.set (h : FpS G w0 rx bp n a l v w) (b : Nat) : FpS G w0 rx bp n b l v (w.setCell ⟨bp, 1, none⟩ (.int .u16 (b : Nat))) := by
  have h0 := h.o0; have h1 := h.o1
  have hf : Fr (F1 bp) w (w.setCell ⟨bp, 1, none⟩ (.int .u16 (b : Nat))) := Fr.setCell w ⟨bp, 1, none⟩ _
  exact ⟨hf.heap h.res (fun (hx : rx = bp) => by omega), by simpa using obj_set h.p 1 (.int .u16 (b : Nat)), h.v.fr hf (fun k _ hk (hx : k = bp) => by omega), h.below.trans (hf.below h.below.size (fun k (hk : k = bp) => by omega)), h0, h1⟩
end
theorem u16_or_nat (a b : Nat) (ha : a < 65536) (hb : b < 65536) : bits .or .u16 (a : Int) (b : Int) = ((a ||| b : Nat) : Int) := by
  have hx : a ||| b < 2 ^ 16 := Nat.or_lt_two_pow (by omega) (by omega)
  show IntKind.u16.wrap ((BitVec.ofInt 16 (a : Int) ||| BitVec.ofInt 16 (b : Int)).toNat : Int) = _
  rw [BitVec.ofInt_natCast, BitVec.ofInt_natCast, wrap_u16, BitVec.toNat_or, BitVec.toNat_ofNat, BitVec.toNat_ofNat, Nat.mod_eq_of_lt (by omega), Nat.mod_eq_of_lt (by omega)]
  omega
theorem or_wrap (a k : Nat) (ha : a < 2 ^ k) (hk : k < 16) : bits .or .u16 (a : Int) (IntKind.u16.wrap (2 ^ k)) = ((a ||| 2 ^ k : Nat) : Int) := by
  have h : (2 : Nat) ^ k ≤ 2 ^ 15 := Nat.pow_le_pow_right (by decide) (by omega)
  have e : IntKind.u16.wrap (2 ^ k) = ((2 ^ k : Nat) : Int) := by rw [natpow_cast, wrap_u16]; omega
  rw [e, u16_or_nat _ _ (by omega) (by omega)]
theorem FpS.tl {G : Nat → Prop} {w0 : World} {rx bp : Nat} {n x : Int} {a m c c' : Nat} {t : List Int} {A A' : Option Addr} {w : World} (h : FpS G w0 rx bp n a (x :: t) (.slice A m c) w)
    (hA : t.length = 0 ∨ A' = A.map (fun x => x.add 1)) (hc : t.length ≤ c') (hm : c' ≤ 9223372036854775807) : FpS G w0 rx bp n a t (.slice A' t.length c') w :=
  ⟨h.res, h.p, LoG.tail h.v hA hc hm, h.below, h.o0, h.o1⟩
theorem add1 (b o : Nat) : (⟨b, o, none⟩ : Addr).add 1 = ⟨b, o + 1, none⟩ := by rw [RowV.add rfl]
set_option maxHeartbeats 2000000 in
theorem firstpair_any (G : Nat → Prop) (n : Int) (l : List Int) (v : Value) (w : World) (h : LoG G w v (n :: l)) :
    Calls Try.prog 59 #[v] w fun e w' => ∃ u, e = .returned (.tuple #[.agg #[.int .u16 n, .int .u16 ((fp n l).1 : Nat)], u]) ∧ LoG G w' u (fp n l).2 ∧ Below w.heap.size w w' := by
  obtain ⟨A, c, rfl, hc1, hc2, hp⟩ := h.parts
  obtain ⟨b, o, rfl, hb, hG, hcell⟩ := hp (by simp)
  have hc0 := hcell 0 (by simp)
  simp at hc0
  have HT := Lib.hid h
  have hln : ((n :: l).length : Int) = (l.length : Int) + 1 := by simp
  have hlc : l.length + 1 ≤ c := by simpa using hc1
  have hl0 : (n :: l).length = l.length + 1 := rfl
  rw [hl0] at HT ⊢
  clear h hp hcell hc1 hln hl0
  refine calls_q fun Q HQ => ?_
  have HS0 := Lib.hid (show ∀ (A' : Option Addr) (c' : Nat), (l.length = 0 ∨ A' = some ⟨b, o + 1, none⟩) → l.length ≤ c' → c' ≤ 9223372036854775807 → FpS G w w.heap.size (w.heap.size + 1) n (fpK n l 0).1 (fpK n l 0).2 (.slice A' l.length c') ((w.alloc (.cells #[.int .u16 0, .int .u16 0] 126 (0, 0))).alloc (.cells #[.int .u16 n, .int .u16 0] 126 (0, 0))) by
    intro A' c' hA h1 h2
    have hb1 := below_alloc (w := w) (.cells #[.int .u16 0, .int .u16 0] 126 (0, 0))
    have hb2 := hb1.alloc hb1.size (.cells #[.int .u16 n, .int .u16 0] 126 (0, 0))
    have hx := heap_alloc_new w (.cells #[.int .u16 0, .int .u16 0] 126 (0, 0))
    have hy := heap_alloc_new (w.alloc (.cells #[.int .u16 0, .int .u16 0] 126 (0, 0))) (.cells #[.int .u16 n, .int .u16 0] 126 (0, 0))
    rw [World.size_alloc] at hy
    have ha : (⟨b, o, none⟩ : Addr).add 1 = ⟨b, o + 1, none⟩ := by rw [RowV.add rfl]
    have hv := HT.out.tail (A' := A') (c' := c') (by rw [Option.map_some, ha]; exact hA) h1 h2
    have hv2 : LoG (fun k => G k ∧ k < w.heap.size) w (.slice A' l.length c') l := hv.mono (fun k hk h => ⟨h, hk⟩)
    exact ⟨(Fr.alloc _ _).heap hx (fun h => h), hy, LoG.below hv2 hb2, hb2, Nat.le_refl _, Nat.lt_succ_self _⟩)
  obtain ⟨F, hF⟩ : ∃ F : Nat → Nat × List Int, F = fpK n l := ⟨_, rfl⟩
  rw [← hF] at HS0
  have HFb := Lib.hid (show ∀ k, (F k).1 < 2 ^ k by rw [hF]; exact fun k => (fpK_back n l k).1)
  have HFs := Lib.hid (show ∀ k, F (k + 1) = fpS n k (F k) by rw [hF]; exact fun k => rfl)
  rw [show fp n l = F 16 by rw [hF]; rfl] at HQ
  clear hF
  generalize l.length = m at *
  by_cases hce : c = 1
  all_goals
    first
      | (subst hce; obtain rfl : m = 0 := by omega)
      | skip
    go_enter Try.func59, Try.ntmps59
    go_upto_region 3 with fail
    go_wp2_with fail
    rw [show ((w.alloc (.cells #[.int .u16 0, .int .u16 0] 126)).alloc (.cells #[.int .u16 n, .int .u16 0] 126)) = ((w.alloc (.cells #[.int .u16 0, .int .u16 0] 126 (0, 0))).alloc (.cells #[.int .u16 n, .int .u16 0] 126 (0, 0))) from rfl]
    generalize ((w.alloc (.cells #[.int .u16 0, .int .u16 0] 126 (0, 0))).alloc (.cells #[.int .u16 n, .int .u16 0] 126 (0, 0))) = w3 at *
    generalize w.heap.size + 1 = bp at *
    generalize hrx : w.heap.size = rx at *
    clear HT hc0 hb
    go_loopw [0, 12] (fun v i wr => ∃ j : Nat, j ≤ 16 ∧ i = .int .i64 j ∧ FpS G w rx bp n (F j).1 (F j).2 v wr) (fun _ i _ => 16 - (intOf i).toNat)
    case atStart => first | exact ⟨0, by omega, rfl, HS0.out _ _ (.inr rfl) (by omega) (by omega)⟩ | exact ⟨0, by omega, rfl, HS0.out (some ⟨b, o, none⟩) 0 (by simp) (Nat.le_refl _) (by decide)⟩
    case round =>
      obtain ⟨j, hj, rfl, hs⟩ := hrel
      have HS := Lib.hid hs
      clear hs HS0
      by_cases hlt : j < 16
      · have hfl := HFb.out j
        have hst := HFs.out j
        generalize F j = s at *
        obtain ⟨a, t⟩ := s
        simp only at HS hfl
        cases t with
        | nil =>
          have HE := Lib.hid (show F (j + 1) = (a, []) from hst)
          clear hst
          obtain ⟨A1, c1, rfl, hc3, hc4, _⟩ := HS.out.v.parts
          simp only [List.length_nil] at HS ⊢
          clear hfl
          have h16 : (j : Int) < 16 := by omega
          go_wp2_with fail
          go_quiet (fail)
          go_wp2_with fail
          go_roundw
          case rel => exact ⟨j + 1, by omega, by go_num, by rw [HE.out]; exact HS.out.after (below_drewN (Below.refl _ _) _)⟩
          case measure => simp [intOf]; omega
        | cons x t =>
          obtain ⟨A1, c1, rfl, hc3, hc4, hp⟩ := HS.out.v.parts
          obtain ⟨b1, o1, rfl, hb1, ⟨_, hG1⟩, hcell⟩ := hp (by simp)
          have hc0 := hcell 0 (by simp)
          simp at hc0
          have hl0 : (x :: t).length = t.length + 1 := rfl
          rw [hl0] at HS hc3 ⊢
          have h0 : (0 : Int) < (t.length : Int) + 1 := by omega
          have h16 : (j : Int) < 16 := by omega
          clear hp hcell hl0
          have HC := Lib.hid (show ∀ w', FpS G w rx bp n a (x :: t) (.slice (some ⟨b1, o1, none⟩) (t.length + 1) c1) w' → FpS G w rx bp n a (x :: t) (.slice (some ⟨b1, o1, none⟩) (t.length + 1) c1) w' ∧ w'.cell? ⟨b1, o1, none⟩ = some (.int .u16 x) ∧ w'.cell? ⟨bp, 0, none⟩ = some (.int .u16 n) ∧ w'.cell? ⟨bp, 1, none⟩ = some (.int .u16 (a : Nat)) from fun w' h => ⟨h, by
                obtain ⟨_, _, he, _, _, hp⟩ := h.v.parts
                simp only [Value.slice.injEq] at he
                obtain ⟨_, _, he2, _, _, hcell⟩ := hp (by simp)
                rw [← he.1] at he2
                simp only [Option.some.injEq, Addr.mk.injEq, and_true] at he2
                obtain ⟨rfl, rfl⟩ := he2
                exact hcell 0 (by simp), h.cells.1, h.cells.2.1⟩)
          by_cases hx : x = aft n j
          · have HE := Lib.hid (show F (j + 1) = (a ||| 2 ^ j, t) from hst.trans (by simp [fpS, hx]))
            have hx0 : (x == aft n j) = true := by simpa using hx
            clear hst hx
            go_wp2_with fail
            go_region_held3 (fun w' => FpS G w rx bp n a (x :: t) (.slice (some ⟨b1, o1, none⟩) (t.length + 1) c1) w' ∧ w'.cell? ⟨b1, o1, none⟩ = some (.int .u16 x) ∧ w'.cell? ⟨bp, 0, none⟩ = some (.int .u16 n) ∧ w'.cell? ⟨bp, 1, none⟩ = some (.int .u16 (a : Nat))) (first | exact HC.out _ ((‹FpS _ _ _ _ _ _ _ _ _ ∧ _›).1.after (by assumption)) | exact HC.out _ HS.out.drew) (first | (go_at_call 74; refine (after_any n (a : Nat) j _).mono ?_; rintro e w9 ⟨rfl, hb⟩))
            have hh := (‹FpS _ _ _ _ _ _ _ _ _ ∧ _›).1
            clear HC HS
            have hcs := hh.cells
            obtain ⟨k0, k1, z0, z1⟩ := hcs
            have hor := or_wrap a j hfl hlt
            have hset := (hh.set (a ||| 2 ^ j)).drew
            generalize a ||| 2 ^ j = a2 at *
            have HH := Lib.hid hset
            clear hb hh hset hfl hx0
            by_cases hc1 : c1 = 1
            · subst hc1
              have hm : t.length = 0 := by omega
              obtain rfl := List.eq_nil_of_length_eq_zero hm
              simp only [List.length_nil] at HH h0 ⊢
              go_wp2_with fail
              go_region
              go_wp2_with fail
              go_roundw
              case rel => exact ⟨j + 1, by omega, by go_num, by rw [HE.out]; exact FpS.tl HH.out (.inl rfl) (Nat.zero_le _) (by decide)⟩
              case measure => simp [intOf]; omega
            · go_wp2_with fail
              go_region
              go_wp2_with fail
              go_roundw
              case rel => exact ⟨j + 1, by omega, by go_num, by rw [HE.out]; exact FpS.tl (t := t) HH.out (.inr (by rw [Option.map_some, add1])) (by omega) (by omega)⟩
              case measure => simp [intOf]; omega
          · have HE := Lib.hid (show F (j + 1) = (a, x :: t) from hst.trans (by simp [fpS, hx]))
            clear hst hfl
            have HX := Lib.hid hx
            have hx0 : (x == aft n j) = false := by simpa using hx
            go_wp2_with fail
            go_region_held3 (fun w' => FpS G w rx bp n a (x :: t) (.slice (some ⟨b1, o1, none⟩) (t.length + 1) c1) w' ∧ w'.cell? ⟨b1, o1, none⟩ = some (.int .u16 x) ∧ w'.cell? ⟨bp, 0, none⟩ = some (.int .u16 n) ∧ w'.cell? ⟨bp, 1, none⟩ = some (.int .u16 (a : Nat))) (first | exact HC.out _ ((‹FpS _ _ _ _ _ _ _ _ _ ∧ _›).1.after (by assumption)) | exact HC.out _ HS.out.drew) (first | (go_at_call 74; refine (after_any n (a : Nat) j _).mono ?_; rintro e w9 ⟨rfl, hb⟩))
            have hh := (‹FpS _ _ _ _ _ _ _ _ _ ∧ _›).1
            go_wp2_with fail
            go_roundw
            case rel => exact ⟨j + 1, by omega, by go_num, by rw [HE.out]; exact hh⟩
            case measure => simp [intOf]; omega
      · obtain rfl : j = 16 := by omega
        have HX := Lib.hid hlt
        clear hlt
        generalize F 16 = s at *
        obtain ⟨a, t⟩ := s
        simp only at HS HQ
        have hcs := HS.out.cells
        have r0 := obj_cell HS.out.res 0
        have r1 := obj_cell HS.out.res 1
        have q0 := obj_frozen HS.out.res 0
        have q1 := obj_frozen HS.out.res 1
        obtain ⟨k0, k1, z0, z1⟩ := hcs
        simp at r0 r1
        obtain ⟨A1, c1, rfl, _, _, _⟩ := HS.out.v.parts
        go_wp2_with fail
        generalize hW : World.setCell _ _ _ = wf
        obtain ⟨hx, hfx⟩ := objs2 HS.out.res _ _ wf hW.symm
        clear hW k0 k1 z0 z1 r0 r1 q0 q1
        have m0 := obj_cell hx 0
        have m1 := obj_cell hx 1
        simp at m0 m1
        refine bodyPost_ret (v := .tuple #[.agg #[.int .u16 n, .int .u16 (a : Nat)], .slice A1 t.length c1]) (by simp [results, Try.results59, go_sem, m0, m1]; try rfl) rfl ?_
        have o0 := HS.out.o0
        have hv2 := HS.out.v.fr hfx (fun k _ hk (hx : k = rx) => by omega)
        refine HQ.out _ _ ⟨_, rfl, hv2.mono (fun k _ h => h.1), ?_⟩
        have := HS.out.below.trans (hfx.below HS.out.below.size (fun k (hk : k = rx) => by omega))
        rw [hrx] at this; exact this
end Go.Proofs.Ytphofpemblindaa
/- The walks of rises and fits: may lost numbers be? -/
namespace Go.Proofs.Ytphofpemblindaa
open Go.RowKit

theorem pairs_pos (l : List Int) : (pairsL l).length = 0 ↔ l = [] := by
  constructor
  · intro h
    have := pairs_len l
    exact List.eq_nil_of_length_eq_zero (by omega)
  · rintro rfl; rfl
set_option maxHeartbeats 1000000 in
theorem fits_any (l : List Int) (v : Value) (w : World) (h : SV w v (ints .u16 l)) :
    Calls Try.prog 39 #[v] w fun e w' => e = .returned (.bool (fitsL l)) ∧ Below w.heap.size w w' := by
  have hx := h.x
  clear h
  have HX := Lib.hid hx
  obtain ⟨A, c, rfl, _, _, _⟩ := LoG.parts hx
  clear hx
  obtain ⟨F, hF⟩ : ∃ F : Nat, F = (pairsL l).length := ⟨_, rfl⟩
  have HL := Lib.hid hF
  clear hF
  refine calls_q fun Q HQ => ?_
  go_enter Try.func39, Try.ntmps39
  go_wp2_with fail
  go_loopw [0, 3] (fun v i wr => ∃ (j : Nat) (t : List Int), j ≤ 47 ∧ i = .int .i64 j ∧ LoG (fun k => k < w.heap.size) wr v t ∧ F = j + (pairsL t).length ∧ Below w.heap.size w wr) (fun _ i _ => 47 - (intOf i).toNat)
  case atStart => exact ⟨0, l, by omega, rfl, HX.out, by rw [HL.out]; omega, Below.refl _ _⟩
  case round =>
    obtain ⟨j, t, hj, rfl, hv, hf, hb⟩ := hrel
    obtain ⟨A1, c1, rfl, _, _, _⟩ := LoG.parts hv
    have HV := Lib.hid hv
    have HF := Lib.hid hf
    have HB := Lib.hid hb
    clear hv hf hb
    by_cases hlt : (j : Int) < 47
    · cases t with
      | nil =>
        simp only [List.length_nil]
        go_wp2_with fail
        refine HQ.out _ _ ⟨ret_bool ?_, HB.out⟩
        have := HF.out
        rw [fitsL, ← HL.out, this, pairsL_nil]; simp; omega
      | cons x t =>
        have hl0 : (x :: t).length = t.length + 1 := rfl
        rw [hl0] at HV ⊢
        have h0 : (0 : Int) < (t.length : Int) + 1 := by omega
        go_wp2_with fail
        refine (firstpair_any _ x t _ wr HV.out).mono ?_
        rintro e w1 ⟨u, rfl, hu, hb1⟩
        have HU := Lib.hid hu
        have HB1 := Lib.hid (HB.out.trans (hb1.mono HB.out.size))
        have HF1 := Lib.hid (show F = j + 1 + (pairsL (fp x t).2).length by have := HF.out; rw [pairsL_cons, List.length_cons] at this; omega)
        generalize fp x t = s at *
        clear hu hb1
        go_wp2_with fail
        go_roundw
        case rel => exact ⟨j + 1, s.2, by omega, by go_num, HU.out, HF1.out, HB1.out⟩
        case measure => simp [intOf]; omega
    · obtain rfl : j = 47 := by omega
      go_wp2_with fail
      refine HQ.out _ _ ⟨ret_bool ?_, HB.out⟩
      have := HF.out
      have h2 := HL.out
      have h3 := pairs_pos t
      rw [fitsL, Bool.eq_iff_iff]
      simp only [decide_eq_true_eq, beq_iff_eq]
      constructor
      · intro h
        have : t = [] := List.eq_nil_of_length_eq_zero (by omega)
        have := h3.2 this
        omega
      · intro h
        have : t = [] := h3.1 (by omega)
        subst this; rfl
theorem risB_false (l : List Int) (k : Nat) (h : k + 1 < l.length) (hn : ¬ 0 < ahd 65536 l[k] l[k + 1]) : risB l = false := by
  rcases hb : risB l with _ | _
  · rfl
  · exact absurd ((risB_iff l).1 hb k h) hn
set_option maxHeartbeats 1000000 in
theorem rises_any (l : List Int) (v : Value) (w : World) (h : SV w v (ints .u16 l)) :
    Calls Try.prog 38 #[v] w fun e w' => e = .returned (.bool (risB l)) ∧ Below w.heap.size w w' := by
  have hx := h.x
  clear h
  obtain ⟨A, c, rfl, _, _, hp⟩ := LoG.parts hx
  have HX := Lib.hid hx
  have h63 := hx.1.len
  rw [ints_len] at h63
  clear hx hp
  refine calls_q fun Q HQ => ?_
  go_enter Try.func38, Try.ntmps38
  go_wp2_with fail
  go_loopw [3] (fun i wr => ∃ j : Nat, (∀ k (h : k + 1 < l.length), k + 1 < j → 0 < ahd 65536 l[k] l[k + 1]) ∧ 1 ≤ j ∧ (j = 1 ∨ j ≤ l.length) ∧ i = .int .i64 j ∧ Below w.heap.size w wr) (fun i _ => l.length + 1 - (intOf i).toNat)
  case atStart => exact ⟨1, fun k h hk => by omega, Nat.le_refl _, .inl rfl, rfl, Below.refl _ _⟩
  case round =>
    obtain ⟨j, hall, hj1, hjl, rfl, hbw⟩ := hrel
    have hx2 := LoG.below HX.out hbw
    obtain ⟨_, _, he, _, _, hp2⟩ := LoG.parts hx2
    simp only [Value.slice.injEq, true_and] at he
    obtain ⟨rfl, rfl⟩ := he
    have HB := Lib.hid hbw
    have HA := Lib.hid hall
    have HJ := Lib.hid hjl
    clear hall hjl hx2
    by_cases hlt : (j : Int) < (l.length : Int)
    · obtain ⟨b, o, rfl, hb, _, hcell⟩ := hp2 (by omega)
      have hc0 := hcell (j - 1) (by omega)
      have hc1 := hcell j (by omega)
      obtain ⟨k, rfl⟩ : ∃ k, j = k + 1 := ⟨j - 1, by omega⟩
      simp only [Nat.add_sub_cancel] at hc0
      have hk0 : (0 : Int) ≤ (k : Int) := by omega
      have hn := HA.out
      have hfal := risB_false l k (by omega)
      have hstep : 0 < ahd 65536 (l[k]'(by omega)) (l[k + 1]'(by omega)) → ∀ i (h : i + 1 < l.length), i + 1 < k + 1 + 1 → 0 < ahd 65536 l[i] l[i + 1] := by
        intro h1 i hi hi2
        rcases Nat.lt_or_ge (i + 1) (k + 1) with h3 | h3
        · exact hn i hi h3
        · obtain rfl : i = k := by omega
          exact h1
      generalize l[k]'(by omega) = x at *
      generalize l[k + 1]'(by omega) = y at *
      have HF := Lib.hid hfal
      have HS := Lib.hid hstep
      clear hcell hn hfal hstep hp2 hbw
      have hks : IntKind.i64.wrap (k : Int) = (k : Int) := by simp [IntKind.wrap, IntKind.bits, IntKind.signed]; omega
      rw [show ((k + 1 : Nat) : Int) = (k : Int) + 1 by omega] at *
      by_cases hd : 0 < ahd 65536 x y
      · have hdd := decide_eq_true hd
        have HD := Lib.hid (HS.out hd)
        have HN := Lib.hid (fun w => newer_any x y w)
        generalize ahd 65536 x y = z at *
        clear hd HS HF
        go_wp2_with fail
        go_quiet ((go_at_call 58; exact Calls.quiet_of_same (HN.out _)))
        go_wp2_with fail
        go_roundw
        case rel => exact ⟨k + 2, HD.out, by omega, .inr (by omega), by go_num, below_drewN HB.out _⟩
        case measure => simp [intOf]; omega
      · have hdd := decide_eq_false hd
        have HD := Lib.hid (HF.out hd)
        have HN := Lib.hid (fun w => newer_any x y w)
        generalize ahd 65536 x y = z at *
        clear hd HS HF
        go_wp2_with fail
        go_quiet ((go_at_call 58; exact Calls.quiet_of_same (HN.out _)))
        go_wp2_with fail
        exact HQ.out _ _ ⟨ret_bool HD.out.symm, below_drewN HB.out _⟩
    · have HR := Lib.hid (show risB l = true from (risB_iff l).2 fun k hk => HA.out k hk (by have := HJ.out; omega))
      clear hp2
      go_wp2_with fail
      exact HQ.out _ _ ⟨ret_bool HR.out.symm, HB.out⟩
end Go.Proofs.Ytphofpemblindaa
