/- Laid together: CkOp, CmV, CmR, CmX, CmG, CmW, CmL. -/
import Derived.Test.YtphofpemblindaaG01
import Derived.Test.YtphofpemblindaaG04
import Derived.Test.YtphofpemblindaaG06
import Derived.Test.YtphofpemblindaaG08
import Derived.Deep.RegionHeld3
import Derived.Deep.MidRow
import Derived.Deep.WholeRow
/- Chunks that come in. -/
namespace Go.Proofs.Ytphofpemblindaa
open Go.ChangeShapes Go.WideShapes Go.ChangeAt Go.RowKit Go.Deep

/-- a chunk's -/
def CV (w : World) (v : Value) (d : DC) : Prop := ∃ u, v = .agg #[.int .u8 (d.1 : Nat), .int .u8 (d.2.1 : Nat), u] ∧ BS w u d.2.2
theorem nat_u32 {n : Int} (h : (Lit.int .u32 n).wf = true) : ∃ z : Nat, n = (z : Int) ∧ z < 4294967296 := by
  have h0 := (fits_u32 h).lo
  have h1 := (fits_u32 h).hi
  exact ⟨n.toNat, by omega, by omega⟩
theorem nat_u8 {n : Int} (h : (Lit.int .u8 n).wf = true) : ∃ z : Nat, n = (z : Int) ∧ z < 256 := by
  have h0 := (fits_u8 h).lo
  have h1 := (fits_u8 h).hi
  exact ⟨n.toNat, by omega, by omega⟩
set_option maxRecDepth 20000 in
theorem open_chunk {H : Type} {enc : TypeId × Value → H} {W : World} {base : Nat} {v : Value} {d : DataW H} {p : List MemPlace}
    (hval : Value.okWide Try.prog W .any base 40 v)
    (h : DataW.Trod enc Try.prog W 0 (fun _ => true) true 40 v d p) : ∃ c : DC, CV W v c ∧ c.1 < 256 ∧ c.2.1 < 256 := by
  obtain ⟨cs, rfl, hsz⟩ := okWide_struct Try.underlying40 hval
  obtain ⟨fuel, hf⟩ := h
  have hc3 : Try.prog.cellsOf 40 = 3 := by kernel_rfl
  rw [hc3] at hsz
  obtain ⟨l, hl, rfl⟩ : ∃ l : List Value, l.length = 3 ∧ cs = l.toArray := ⟨cs.toList, by simpa using hsz, by simp⟩
  match l, hl with
  | [x0, x1, x2], _ =>
    obtain ⟨_, hh⟩ := fields_of_trod Try.underlying40 (by kernel_rfl) (by kernel_rfl) hf
    obtain ⟨v0, n0, y0, e0, s0⟩ := hh 0 _ rfl
    obtain ⟨v1, n1, y1, e1, s1⟩ := hh 1 _ rfl
    obtain ⟨v2, n2, y2, e2, s2⟩ := hh 2 _ rfl
    obtain ⟨z0, rfl, w0⟩ := int_of_trod Try.underlying5 s0
    obtain ⟨z1, rfl, w1⟩ := int_of_trod Try.underlying5 s1
    obtain ⟨l2, b2⟩ := bs_of_trod Try.underlying23 Try.underlying5 (by kernel_rfl) s2
    simp [Value.cells] at e0 e1 e2
    subst e0 e1 e2
    obtain ⟨n, rfl, g0⟩ := nat_u8 w0
    obtain ⟨y, rfl, g1⟩ := nat_u8 w1
    exact ⟨(n, y, l2), ⟨_, rfl, b2⟩, g0, g1⟩
end Go.Proofs.Ytphofpemblindaa
/- Items as values: a slice of items. -/
namespace Go.Proofs.Ytphofpemblindaa
open Go.RowKit

structure It where
  k : Int
  r : DR
  ra : Option Addr
  rc : Nat
  m : DM
  aa : Option Addr
  ac : Nat
  la : Option Addr
  lc : Nat
  c : DC
  ca : Option Addr
  cc : Nat
def It.d (t : It) : DI := ⟨t.k, t.r, t.m, t.c⟩
def It.row (t : It) : List Value := [.int .i64 t.k, .bool t.r.sd, .int .u32 (t.r.so : Nat), .int .u32 (t.r.i0 : Nat), .int .u32 (t.r.i1 : Nat), .int .u32 (t.r.i2 : Nat), .int .u32 (t.r.i3 : Nat), .int .u32 (t.r.i4 : Nat), (.slice t.ra t.r.bl.length t.rc), .int .i64 t.m.k, .int .u32 (t.m.se : Nat), .int .u32 (t.m.me : Nat), (.slice t.aa t.m.ak.length t.ac), (.slice t.la t.m.lo.length t.lc), .int .u8 (t.c.1 : Nat), .int .u8 (t.c.2.1 : Nat), (.slice t.ca t.c.2.2.length t.cc)]
structure It.Ok (w : World) (t : It) : Prop where
  b : BlS w (.slice t.ra t.r.bl.length t.rc) t.r.bl
  a : AsS w (.slice t.aa t.m.ak.length t.ac) t.m.ak
  l : LoS w (.slice t.la t.m.lo.length t.lc) t.m.lo
  c : BS w (.slice t.ca t.c.2.2.length t.cc) t.c.2.2
  ok : t.d.Ok
theorem LoS.fr {w w' : World} {v : Value} {l : List Int} (h : LoS w v l) {F : Nat → Prop} (hf : Fr F w w') (hF : ∀ b, b < w.heap.size → ¬ F b) : LoS w' v l :=
  (SVx.fr (SV.x h) hf (fun k hk _ => hF k hk)).1
theorem It.Ok.fr {w w' : World} {t : It} (h : t.Ok w) {F : Nat → Prop} (hf : Fr F w w') (hF : ∀ b, b < w.heap.size → ¬ F b) : t.Ok w' :=
  ⟨h.b.fr hf hF, h.a.fr hf hF, h.l.fr hf hF, h.c.fr hf hF, h.ok⟩
theorem It.Ok.below {w w' : World} {t : It} (h : t.Ok w) (hb : Below w.heap.size w w') : t.Ok w' := h.fr (Fr.of hb) (fun _ _ h => h)
/-- a slice of items -/
def ItS (w : World) (v : Value) (ts : List It) : Prop := RowsV 17 w v (ts.map It.row) ∧ ∀ t ∈ ts, t.Ok w
theorem ItS.fr {w w' : World} {v : Value} {ts : List It} (h : ItS w v ts) {F : Nat → Prop} (hf : Fr F w w') (hF : ∀ b, b < w.heap.size → ¬ F b) : ItS w' v ts :=
  ⟨h.1.fr hf hF, fun t ht => (h.2 t ht).fr hf hF⟩
theorem ItS.below {w w' : World} {v : Value} {ts : List It} (h : ItS w v ts) (hb : Below w.heap.size w w') : ItS w' v ts := h.fr (Fr.of hb) (fun _ _ h => h)
theorem ItS.nil (w : World) : ItS w (.slice none 0 0) [] := ⟨⟨none, 0, rfl, Nat.le_refl _, Nat.zero_le _, fun h => absurd h (by simp)⟩, fun b hb => absurd hb (by simp)⟩
theorem ItS.parts {w : World} {v : Value} {ts : List It} (h : ItS w v ts) : ∃ A c, v = .slice A ts.length c ∧ ts.length ≤ c ∧ c ≤ 9223372036854775807 ∧ (0 < ts.length → ∃ b o, A = some ⟨b, o, none⟩ ∧ b < w.heap.size) := by
  obtain ⟨⟨A, c, rfl, h1, h2, h3⟩, _⟩ := h
  have hl : (ts.map It.row).length = ts.length := List.length_map ..
  refine ⟨A, c, by rw [hl], by omega, by unfold maxLen at h2; omega, fun hp => ?_⟩
  obtain ⟨b, o, rfl, hb, _⟩ := h3 (by omega)
  exact ⟨b, o, rfl, hb⟩
set_option maxRecDepth 20000 in
/-- the cells of one of them -/
theorem ItS.at {w : World} {b o : Nat} {n c : Nat} {ts : List It} (h : ItS w (.slice (some ⟨b, o, none⟩) n c) ts) (i : Nat) (hi : i < ts.length) :
    w.cell? ⟨b, o + i * 17, none⟩ = some (.int .i64 ts[i].k) ∧ w.cell? ⟨b, o + i * 17 + 1, none⟩ = some (.bool ts[i].r.sd) ∧ w.cell? ⟨b, o + i * 17 + 2, none⟩ = some (.int .u32 (ts[i].r.so : Nat)) ∧ w.cell? ⟨b, o + i * 17 + 3, none⟩ = some (.int .u32 (ts[i].r.i0 : Nat)) ∧ w.cell? ⟨b, o + i * 17 + 4, none⟩ = some (.int .u32 (ts[i].r.i1 : Nat)) ∧ w.cell? ⟨b, o + i * 17 + 5, none⟩ = some (.int .u32 (ts[i].r.i2 : Nat)) ∧ w.cell? ⟨b, o + i * 17 + 6, none⟩ = some (.int .u32 (ts[i].r.i3 : Nat)) ∧ w.cell? ⟨b, o + i * 17 + 7, none⟩ = some (.int .u32 (ts[i].r.i4 : Nat)) ∧ w.cell? ⟨b, o + i * 17 + 8, none⟩ = some (.slice ts[i].ra ts[i].r.bl.length ts[i].rc) ∧ w.cell? ⟨b, o + i * 17 + 9, none⟩ = some (.int .i64 ts[i].m.k) ∧ w.cell? ⟨b, o + i * 17 + 10, none⟩ = some (.int .u32 (ts[i].m.se : Nat)) ∧ w.cell? ⟨b, o + i * 17 + 11, none⟩ = some (.int .u32 (ts[i].m.me : Nat)) ∧ w.cell? ⟨b, o + i * 17 + 12, none⟩ = some (.slice ts[i].aa ts[i].m.ak.length ts[i].ac) ∧ w.cell? ⟨b, o + i * 17 + 13, none⟩ = some (.slice ts[i].la ts[i].m.lo.length ts[i].lc) ∧ w.cell? ⟨b, o + i * 17 + 14, none⟩ = some (.int .u8 (ts[i].c.1 : Nat)) ∧ w.cell? ⟨b, o + i * 17 + 15, none⟩ = some (.int .u8 (ts[i].c.2.1 : Nat)) ∧ w.cell? ⟨b, o + i * 17 + 16, none⟩ = some (.slice ts[i].ca ts[i].c.2.2.length ts[i].cc) := by
  obtain ⟨⟨A, c', he, _, _, hr⟩, _⟩ := h
  simp only [Value.slice.injEq] at he
  obtain ⟨b', o', hA, _, hc⟩ := hr (by simp; omega)
  rw [hA] at he
  simp only [Option.some.injEq, Addr.mk.injEq, and_true] at he
  obtain ⟨⟨rfl, rfl⟩, _⟩ := he
  have := fun j u hu => hc i (by simpa using hi) j u (by simpa using hu)
  exact ⟨this 0 _ rfl, this 1 _ rfl, this 2 _ rfl, this 3 _ rfl, this 4 _ rfl, this 5 _ rfl, this 6 _ rfl, this 7 _ rfl, this 8 _ rfl, this 9 _ rfl, this 10 _ rfl, this 11 _ rfl, this 12 _ rfl, this 13 _ rfl, this 14 _ rfl, this 15 _ rfl, this 16 _ rfl⟩
theorem It.rows17 (ts : List It) : ∀ r ∈ ts.map It.row, r.length = 17 := by
  intro r hr
  obtain ⟨t, _, rfl⟩ := List.mem_map.1 hr
  rfl
def cellsI (ts : List It) : List Value := (ts.map It.row).flatten
theorem cellsI_snoc (ts : List It) (t : It) : cellsI (ts ++ [t]) = cellsI ts ++ t.row := by simp [cellsI]
theorem own_items {w : World} {base : Nat} {e : TypeId} {v : Value} {n : Nat} {ts : List It} (hn : ts.length = n) (h : w.ownsRow base e 17 v n (cellsI ts)) (hk : ∀ t ∈ ts, t.Ok w) : ItS w v ts :=
  ⟨own_rows (by simpa using hn) (It.rows17 ts) h, hk⟩
def dis (ts : List It) : List DI := ts.map It.d
theorem dis_len (ts : List It) : (dis ts).length = ts.length := by simp [dis]
theorem dis_app (ts us : List It) : dis (ts ++ us) = dis ts ++ dis us := by simp [dis]
theorem ItS.okd {w : World} {v : Value} {ts : List It} (h : ItS w v ts) : ∀ d ∈ dis ts, d.Ok := by
  intro d hd
  obtain ⟨t, ht, rfl⟩ := List.mem_map.1 hd
  exact (h.2 t ht).ok
theorem cells17 {w : World} {b : Nat} {x0 x1 x2 x3 x4 x5 x6 x7 x8 x9 x10 x11 x12 x13 x14 x15 x16 : Value} {t : TypeId} (h : w.heap[b]? = some (.cells #[x0, x1, x2, x3, x4, x5, x6, x7, x8, x9, x10, x11, x12, x13, x14, x15, x16] t (0, 0))) :
    w.cell? ⟨b, 0, none⟩ = some x0 ∧ w.cell? ⟨b, 1, none⟩ = some x1 ∧ w.cell? ⟨b, 2, none⟩ = some x2 ∧ w.cell? ⟨b, 3, none⟩ = some x3 ∧ w.cell? ⟨b, 4, none⟩ = some x4 ∧ w.cell? ⟨b, 5, none⟩ = some x5 ∧ w.cell? ⟨b, 6, none⟩ = some x6 ∧ w.cell? ⟨b, 7, none⟩ = some x7 ∧ w.cell? ⟨b, 8, none⟩ = some x8 ∧ w.cell? ⟨b, 9, none⟩ = some x9 ∧ w.cell? ⟨b, 10, none⟩ = some x10 ∧ w.cell? ⟨b, 11, none⟩ = some x11 ∧ w.cell? ⟨b, 12, none⟩ = some x12 ∧ w.cell? ⟨b, 13, none⟩ = some x13 ∧ w.cell? ⟨b, 14, none⟩ = some x14 ∧ w.cell? ⟨b, 15, none⟩ = some x15 ∧ w.cell? ⟨b, 16, none⟩ = some x16 :=
  ⟨obj_cell h 0, obj_cell h 1, obj_cell h 2, obj_cell h 3, obj_cell h 4, obj_cell h 5, obj_cell h 6, obj_cell h 7, obj_cell h 8, obj_cell h 9, obj_cell h 10, obj_cell h 11, obj_cell h 12, obj_cell h 13, obj_cell h 14, obj_cell h 15, obj_cell h 16⟩
/-! ### the calls, over an item's parts -/
theorem rpright_i {t : It} {w : World} (h : t.Ok w) : Calls Try.prog 19 #[.agg #[.bool t.r.sd, .int .u32 (t.r.so : Nat), .int .u32 (t.r.i0 : Nat), .int .u32 (t.r.i1 : Nat), .int .u32 (t.r.i2 : Nat), .int .u32 (t.r.i3 : Nat), .int .u32 (t.r.i4 : Nat), .slice t.ra t.r.bl.length t.rc]] w fun e w' => e = .returned (.bool (rightR t.r)) ∧ Below w.heap.size w w' :=
  rpright_any t.r.sd t.r.so t.r.i0 t.r.i1 t.r.i2 t.r.i3 t.r.i4 t.r.bl t.ra t.rc w h.b
theorem rpwrite_i {t : It} {w : World} (h : t.Ok w) : Calls Try.prog 60 #[.agg #[.bool t.r.sd, .int .u32 (t.r.so : Nat), .int .u32 (t.r.i0 : Nat), .int .u32 (t.r.i1 : Nat), .int .u32 (t.r.i2 : Nat), .int .u32 (t.r.i3 : Nat), .int .u32 (t.r.i4 : Nat), .slice t.ra t.r.bl.length t.rc]] w (WritePostX w t.r) :=
  rpwrite_x t.r.sd t.r.so t.r.i0 t.r.i1 t.r.i2 t.r.i3 t.r.i4 t.r.bl t.ra t.rc w h.b h.ok.r
theorem fright_i {t : It} {w : World} (h : t.Ok w) : Calls Try.prog 23 #[.agg #[.int .i64 t.m.k, .int .u32 (t.m.se : Nat), .int .u32 (t.m.me : Nat), .slice t.aa t.m.ak.length t.ac, .slice t.la t.m.lo.length t.lc]] w fun e w' => e = .returned (.bool (rightM t.m)) ∧ Below w.heap.size w w' :=
  fright_any t.m.k t.m.se t.m.me _ _ t.m.ak t.m.lo w h.a h.l
theorem fwrite_i {t : It} {w : World} (h : t.Ok w) : Calls Try.prog 61 #[.agg #[.int .i64 t.m.k, .int .u32 (t.m.se : Nat), .int .u32 (t.m.me : Nat), .slice t.aa t.m.ak.length t.ac, .slice t.la t.m.lo.length t.lc]] w (FWPostX w t.m) :=
  fwrite_x t.m.k t.m.se t.m.me _ _ t.m.ak t.m.lo w h.a h.l h.ok.m
theorem rpread_i (n y : Nat) (v : Value) (B : List UInt8) (w : World) (hv : BS w v B) (hn : n < 256) (hy : y < 256) (hl : B.length ≤ 1000) :
    Calls Try.prog 35 #[.agg #[.int .u8 (n : Nat), .int .u8 (y : Nat), v]] w (RdPostX w (n, y, B)) := by
  obtain ⟨A, c, rfl, _⟩ := bs_parts hv
  exact rpread_x n y A c B w hv hn hy hl
theorem fread_i (n y : Nat) (v : Value) (B : List UInt8) (w : World) (hv : BS w v B) (hl : B.length ≤ 1000) :
    Calls Try.prog 36 #[.agg #[.int .u8 (n : Nat), .int .u8 (y : Nat), v]] w (FRPostX w (n, y, B)) := by
  obtain ⟨A, c, rfl, _⟩ := bs_parts hv
  exact fread_x n y A c B w hv hl
/-! ### an item in its box -/
structure BxI (w0 : World) (b : Nat) (t : It) (w : World) : Prop where
  x : w.heap[b]? = some (.cells t.row.toArray 42 (0, 0))
  ok : t.Ok w
  below : Below w0.heap.size w0 w
theorem BxI.after {w0 w w' : World} {b : Nat} {t : It} (h : BxI w0 b t w) (hb : Below w.heap.size w w') : BxI w0 b t w' :=
  ⟨(Fr.of hb).heap h.x (fun h => h), h.ok.below hb, h.below.trans (hb.mono h.below.size)⟩
theorem BxI.new {w : World} {t : It} (h : t.Ok w) : BxI w w.heap.size t (w.alloc (.cells t.row.toArray 42 (0, 0))) :=
  ⟨heap_alloc_new _ _, h.below (below_alloc _), below_alloc _⟩
set_option maxRecDepth 20000 in
theorem BxI.cells {w0 w : World} {b : Nat} {t : It} (h : BxI w0 b t w) :
    w.cell? ⟨b, 0, none⟩ = some (.int .i64 t.k) ∧ w.cell? ⟨b, 1, none⟩ = some (.bool t.r.sd) ∧ w.cell? ⟨b, 2, none⟩ = some (.int .u32 (t.r.so : Nat)) ∧ w.cell? ⟨b, 3, none⟩ = some (.int .u32 (t.r.i0 : Nat)) ∧ w.cell? ⟨b, 4, none⟩ = some (.int .u32 (t.r.i1 : Nat)) ∧ w.cell? ⟨b, 5, none⟩ = some (.int .u32 (t.r.i2 : Nat)) ∧ w.cell? ⟨b, 6, none⟩ = some (.int .u32 (t.r.i3 : Nat)) ∧ w.cell? ⟨b, 7, none⟩ = some (.int .u32 (t.r.i4 : Nat)) ∧ w.cell? ⟨b, 8, none⟩ = some ((.slice t.ra t.r.bl.length t.rc)) ∧ w.cell? ⟨b, 9, none⟩ = some (.int .i64 t.m.k) ∧ w.cell? ⟨b, 10, none⟩ = some (.int .u32 (t.m.se : Nat)) ∧ w.cell? ⟨b, 11, none⟩ = some (.int .u32 (t.m.me : Nat)) ∧ w.cell? ⟨b, 12, none⟩ = some ((.slice t.aa t.m.ak.length t.ac)) ∧ w.cell? ⟨b, 13, none⟩ = some ((.slice t.la t.m.lo.length t.lc)) ∧ w.cell? ⟨b, 14, none⟩ = some (.int .u8 (t.c.1 : Nat)) ∧ w.cell? ⟨b, 15, none⟩ = some (.int .u8 (t.c.2.1 : Nat)) ∧ w.cell? ⟨b, 16, none⟩ = some ((.slice t.ca t.c.2.2.length t.cc)) :=
  cells17 h.x
end Go.Proofs.Ytphofpemblindaa
/- The walks of noReport, noMsg, noChunk, rightOther and Right. -/
namespace Go.Proofs.Ytphofpemblindaa
open Go.RowKit

theorem nat_eq0 (n : Nat) : ((n : Int) == 0) = decide (n = 0) := by cases n <;> simp <;> omega
set_option maxHeartbeats 1000000 in
theorem noreport_any (sd : Bool) (so i0 i1 i2 i3 i4 : Nat) (bl : List DB) (v : Value) (w : World) (h : BlS w v bl) :
    Calls Try.prog 22 #[.agg #[.bool sd, .int .u32 (so : Nat), .int .u32 (i0 : Nat), .int .u32 (i1 : Nat), .int .u32 (i2 : Nat), .int .u32 (i3 : Nat), .int .u32 (i4 : Nat), v]] w
      fun e w' => e = .returned (.bool (noR ⟨sd, so, i0, i1, i2, i3, i4, bl⟩)) ∧ Below w.heap.size w w' := by
  obtain ⟨A, c, rfl, _⟩ := h.parts
  clear h
  refine calls_q fun Q HQ => ?_
  rcases (show sd = true ∨ (sd = false ∧ so ≠ 0) ∨ (sd = false ∧ so = 0 ∧ i0 ≠ 0) ∨ (sd = false ∧ so = 0 ∧ i0 = 0 ∧ i1 ≠ 0) ∨ (sd = false ∧ so = 0 ∧ i0 = 0 ∧ i1 = 0 ∧ i2 ≠ 0) ∨ (sd = false ∧ so = 0 ∧ i0 = 0 ∧ i1 = 0 ∧ i2 = 0 ∧ i3 ≠ 0) ∨ (sd = false ∧ so = 0 ∧ i0 = 0 ∧ i1 = 0 ∧ i2 = 0 ∧ i3 = 0 ∧ i4 ≠ 0) ∨ (sd = false ∧ so = 0 ∧ i0 = 0 ∧ i1 = 0 ∧ i2 = 0 ∧ i3 = 0 ∧ i4 = 0) by cases sd <;> simp <;> omega)
    with h1 | ⟨rfl, h1⟩ | ⟨rfl, rfl, h1⟩ | ⟨rfl, rfl, rfl, h1⟩ | ⟨rfl, rfl, rfl, rfl, h1⟩ | ⟨rfl, rfl, rfl, rfl, rfl, h1⟩ | ⟨rfl, rfl, rfl, rfl, rfl, rfl, h1⟩ | ⟨rfl, rfl, rfl, rfl, rfl, rfl, rfl⟩
  rotate_right
  · have HN := Lib.hid (show noR ⟨false, 0, 0, 0, 0, 0, 0, bl⟩ = decide (bl.length = 0) by simp [noR, noInfo])
    generalize bl.length = n at *
    go_enter Try.func22, Try.ntmps22
    go_wp2_with fail
    rw [HN.out] at HQ
    exact HQ.out _ _ ⟨ret_bool (nat_eq0 n), below_alloc _⟩
  subst h1
  have h1 := True.intro
  all_goals
    go_enter Try.func22, Try.ntmps22
    go_wp2_with fail
    exact HQ.out _ _ ⟨ret_bool (by simp [noR, noInfo, h1]), below_alloc _⟩
set_option maxHeartbeats 1000000 in
theorem nomsg_any (k : Int) (se me : Nat) (va vl : Value) (ak : List (Nat × Nat)) (lo : List Int) (w : World) (ha : AsS w va ak) (hl : LoS w vl lo) :
    Calls Try.prog 20 #[.agg #[.int .i64 k, .int .u32 (se : Nat), .int .u32 (me : Nat), va, vl]] w
      fun e w' => e = .returned (.bool (noM ⟨k, se, me, ak, lo⟩)) ∧ Below w.heap.size w w' := by
  obtain ⟨A, c, rfl, hx⟩ := ha.parts
  obtain ⟨A2, c2, rfl, hy⟩ := hl.parts
  clear ha hl hx hy
  refine calls_q fun Q HQ => ?_
  rcases (show k ≠ 0 ∨ (k = 0 ∧ se ≠ 0) ∨ (k = 0 ∧ se = 0 ∧ me ≠ 0) ∨ (k = 0 ∧ se = 0 ∧ me = 0 ∧ ak.length ≠ 0) ∨ (k = 0 ∧ se = 0 ∧ me = 0 ∧ ak.length = 0) by omega)
    with h1 | ⟨rfl, h1⟩ | ⟨rfl, rfl, h1⟩ | ⟨rfl, rfl, rfl, h1⟩ | ⟨rfl, rfl, rfl, h1⟩
  rotate_right
  · have HN := Lib.hid (show noM ⟨0, 0, 0, ak, lo⟩ = decide (lo.length = 0) by simp [noM, h1])
    rw [h1]
    generalize lo.length = n at *
    go_enter Try.func20, Try.ntmps20
    go_wp2_with fail
    rw [HN.out] at HQ
    exact HQ.out _ _ ⟨ret_bool (nat_eq0 n), below_alloc _⟩
  rotate_right
  · have HN := Lib.hid (show noM ⟨0, 0, 0, ak, lo⟩ = false by simp [noM, h1])
    rw [HN.out] at HQ
    generalize ak.length = n at *
    go_enter Try.func20, Try.ntmps20
    go_wp2_with fail
    exact HQ.out _ _ ⟨ret_bool rfl, below_alloc _⟩
  all_goals
    go_enter Try.func20, Try.ntmps20
    go_wp2_with fail
    exact HQ.out _ _ ⟨ret_bool (by simp [noM, h1]), below_alloc _⟩
set_option maxHeartbeats 1000000 in
theorem nochunk_any (n y : Nat) (v : Value) (B : List UInt8) (w : World) (hv : BS w v B) :
    Calls Try.prog 21 #[.agg #[.int .u8 (n : Nat), .int .u8 (y : Nat), v]] w
      fun e w' => e = .returned (.bool (noC (n, y, B))) ∧ Below w.heap.size w w' := by
  obtain ⟨A, c, rfl, _⟩ := bs_parts hv
  clear hv
  refine calls_q fun Q HQ => ?_
  rcases (show n ≠ 0 ∨ (n = 0 ∧ y ≠ 0) ∨ (n = 0 ∧ y = 0) by omega) with h1 | ⟨rfl, h1⟩ | ⟨rfl, rfl⟩
  rotate_right
  · have HN := Lib.hid (show noC (0, 0, B) = decide (B.length = 0) by simp [noC])
    rw [HN.out] at HQ
    generalize B.length = n at *
    go_enter Try.func21, Try.ntmps21
    go_wp2_with fail
    exact HQ.out _ _ ⟨ret_bool (nat_eq0 n), below_alloc _⟩
  all_goals
    go_enter Try.func21, Try.ntmps21
    go_wp2_with fail
    exact HQ.out _ _ ⟨ret_bool (by simp [noC, h1]), below_alloc _⟩
set_option maxHeartbeats 1000000 in
theorem rightother_any (n y : Nat) (v : Value) (B : List UInt8) (w : World) (hv : BS w v B) (hn : n < 256) (hy : y < 256) (hl : B.length ≤ 1000) :
    Calls Try.prog 24 #[.agg #[.int .u8 (n : Nat), .int .u8 (y : Nat), v]] w
      fun e w' => e = .returned (.bool (otherC (n, y, B))) ∧ Below w.heap.size w w' := by
  have hvr := hv
  obtain ⟨A, c, rfl, _⟩ := bs_parts hv
  have hb1 := below_alloc (w := w) (oChk n y (.slice A B.length c))
  have HX := Lib.hid (heap_alloc_new w (oChk n y (.slice A B.length c)))
  have HV := Lib.hid (hvr.below hb1)
  have HB := Lib.hid hb1
  clear hv hvr hb1
  refine calls_q fun Q HQ => ?_
  go_enter Try.func24, Try.ntmps24
  go_upto_region 1 with fail
  rw [show w.alloc (.cells #[.int .u8 (n : Nat), .int .u8 (y : Nat), .slice A B.length c] 40) = w.alloc (oChk n y (.slice A B.length c)) from rfl]
  generalize w.alloc (oChk n y (.slice A B.length c)) = w1 at *
  generalize hbx : w.heap.size = bx at *
  obtain ⟨k0, k1, k2, _, _, _⟩ := cells3m HX.out
  go_wp2_with fail
  refine (rpread_i n y _ B w1 HV.out hn hy hl).mono ?_
  rintro e w2 ⟨u, rfl, hu, hb, _⟩
  unfold rval
  generalize readR (n, y, B) = r at *
  obtain ⟨Au, cu, rfl, _⟩ := hu.parts
  have hb2 := hb.alloc hb.size (objX r (.slice Au r.bl.length cu))
  have HX2 := Lib.hid ((Fr.of hb2).heap HX.out (fun h => h))
  have HV2 := Lib.hid (HV.out.below hb2)
  have HB2 := Lib.hid (HB.out.trans (hb2.mono (hbx ▸ HB.out.size)))
  clear hb hb2 hu HV HB HX k0 k1 k2
  go_upto_region 2 with fail
  rw [show w2.alloc (.cells #[.bool r.sd, .int .u32 (r.so : Nat), .int .u32 (r.i0 : Nat), .int .u32 (r.i1 : Nat), .int .u32 (r.i2 : Nat), .int .u32 (r.i3 : Nat), .int .u32 (r.i4 : Nat), .slice Au r.bl.length cu] 34) = w2.alloc (objX r (.slice Au r.bl.length cu)) from rfl]
  generalize w2.alloc (objX r (.slice Au r.bl.length cu)) = w3 at *
  obtain ⟨k0, k1, k2, _, _, _⟩ := cells3m HX2.out
  go_wp2_with fail
  refine (fread_i n y _ B w3 HV2.out hl).mono ?_
  rintro e w4 ⟨va, vl, rfl, hva, hvl, hb, _⟩
  generalize readM (n, y, B) = m at *
  obtain ⟨Aa, ca, rfl, _⟩ := hva.parts
  obtain ⟨Al, cl, rfl, _⟩ := hvl.parts
  clear hva hvl
  have HB3 := Lib.hid (HB2.out.trans ((hb.alloc hb.size (oMsg m.k m.se m.me (.slice Aa m.ak.length ca) (.slice Al m.lo.length cl))).mono (hbx ▸ HB2.out.size)))
  clear hb HX2 HV2 HB2 k0 k1 k2
  go_upto_region 3 with fail
  rw [show w4.alloc (.cells #[.int .i64 m.k, .int .u32 (m.se : Nat), .int .u32 (m.me : Nat), .slice Aa m.ak.length ca, .slice Al m.lo.length cl] 38) = w4.alloc (oMsg m.k m.se m.me (.slice Aa m.ak.length ca) (.slice Al m.lo.length cl)) from rfl]
  generalize w4.alloc (oMsg m.k m.se m.me (.slice Aa m.ak.length ca) (.slice Al m.lo.length cl)) = w5 at *
  unfold otherC at HQ
  generalize rdErr (n, y, B) = e1 at *
  generalize rdEM (n, y, B) = e2 at *
  by_cases h1 : e1 = 5
  · subst h1
    by_cases h2 : e2 = 5
    · subst h2
      go_wp2_with fail
      exact HQ.out _ _ ⟨ret_bool rfl, HB3.out⟩
    · have hi : (e2 == 5) = false := by simp [h2]
      go_wp2_with fail
      exact HQ.out _ _ ⟨ret_bool (by simp [h2]), HB3.out⟩
  · have hi : (e1 == 5) = false := by simp [h1]
    go_wp2_with fail
    exact HQ.out _ _ ⟨ret_bool (by simp [h1]), HB3.out⟩
end Go.Proofs.Ytphofpemblindaa
/- The walk of Right. -/
namespace Go.Proofs.Ytphofpemblindaa
open Go.RowKit

theorem rightI_1 {x : DI} (h : x.k = 1) : rightI x = (rightR x.r && (noM x.m && noC x.c)) := by rw [rightI, if_pos h]
theorem rightI_2 {x : DI} (h : x.k = 2) : rightI x = (noR x.r && (rightM x.m && noC x.c)) := by rw [rightI, if_neg (by omega), if_pos h]
theorem rightI_3 {x : DI} (h : x.k = 3) : rightI x = (noR x.r && (noM x.m && otherC x.c)) := by rw [rightI, if_neg (by omega), if_neg (by omega), if_pos h]
theorem rightI_0 {x : DI} (h1 : x.k ≠ 1) (h2 : x.k ≠ 2) (h3 : x.k ≠ 3) : rightI x = false := by rw [rightI, if_neg h1, if_neg h2, if_neg h3]
set_option maxRecDepth 20000 in
set_option maxHeartbeats 2000000 in
theorem cmright_any (t : It) (w : World) (h : t.Ok w) (hl : t.c.2.2.length ≤ 1000) :
    Calls Try.prog 8 #[.agg t.row.toArray] w fun e w' => e = .returned (.bool (rightI t.d)) ∧ Below w.heap.size w w' := by
  have HS := Lib.hid (BxI.new h)
  clear h
  refine calls_q fun Q HQ => ?_
  by_cases h1 : t.k = 1
  · have HK := Lib.hid (show t.k = 1 from h1)
    rw [rightI_1 (x := t.d) HK.out] at HQ
    clear h1
    simp only [It.d] at HQ
    have hs := HS.out
    rw [show t.row = [.int .i64 1, .bool t.r.sd, .int .u32 (t.r.so : Nat), .int .u32 (t.r.i0 : Nat), .int .u32 (t.r.i1 : Nat), .int .u32 (t.r.i2 : Nat), .int .u32 (t.r.i3 : Nat), .int .u32 (t.r.i4 : Nat), (.slice t.ra t.r.bl.length t.rc), .int .i64 t.m.k, .int .u32 (t.m.se : Nat), .int .u32 (t.m.me : Nat), (.slice t.aa t.m.ak.length t.ac), (.slice t.la t.m.lo.length t.lc), .int .u8 (t.c.1 : Nat), .int .u8 (t.c.2.1 : Nat), (.slice t.ca t.c.2.2.length t.cc)] by simp only [It.row, HK.out]] at hs ⊢
    have HX := Lib.hid hs
    clear HS hs
    go_enter Try.func8, Try.ntmps8
    go_upto_region 1 with fail
    rw [show w.alloc (.cells #[.int .i64 1, .bool t.r.sd, .int .u32 (t.r.so : Nat), .int .u32 (t.r.i0 : Nat), .int .u32 (t.r.i1 : Nat), .int .u32 (t.r.i2 : Nat), .int .u32 (t.r.i3 : Nat), .int .u32 (t.r.i4 : Nat), (.slice t.ra t.r.bl.length t.rc), .int .i64 t.m.k, .int .u32 (t.m.se : Nat), .int .u32 (t.m.me : Nat), (.slice t.aa t.m.ak.length t.ac), (.slice t.la t.m.lo.length t.lc), .int .u8 (t.c.1 : Nat), .int .u8 (t.c.2.1 : Nat), (.slice t.ca t.c.2.2.length t.cc)] 42) = w.alloc (.cells ([.int .i64 1, .bool t.r.sd, .int .u32 (t.r.so : Nat), .int .u32 (t.r.i0 : Nat), .int .u32 (t.r.i1 : Nat), .int .u32 (t.r.i2 : Nat), .int .u32 (t.r.i3 : Nat), .int .u32 (t.r.i4 : Nat), (.slice t.ra t.r.bl.length t.rc), .int .i64 t.m.k, .int .u32 (t.m.se : Nat), .int .u32 (t.m.me : Nat), (.slice t.aa t.m.ak.length t.ac), (.slice t.la t.m.lo.length t.lc), .int .u8 (t.c.1 : Nat), .int .u8 (t.c.2.1 : Nat), (.slice t.ca t.c.2.2.length t.cc)] : List Value).toArray 42 (0, 0)) from rfl]
    generalize w.alloc (.cells ([.int .i64 1, .bool t.r.sd, .int .u32 (t.r.so : Nat), .int .u32 (t.r.i0 : Nat), .int .u32 (t.r.i1 : Nat), .int .u32 (t.r.i2 : Nat), .int .u32 (t.r.i3 : Nat), .int .u32 (t.r.i4 : Nat), (.slice t.ra t.r.bl.length t.rc), .int .i64 t.m.k, .int .u32 (t.m.se : Nat), .int .u32 (t.m.me : Nat), (.slice t.aa t.m.ak.length t.ac), (.slice t.la t.m.lo.length t.lc), .int .u8 (t.c.1 : Nat), .int .u8 (t.c.2.1 : Nat), (.slice t.ca t.c.2.2.length t.cc)] : List Value).toArray 42 (0, 0)) = w1 at *
    generalize hbx : w.heap.size = bx at *
    obtain ⟨k0, k1, k2, k3, k4, k5, k6, k7, k8, k9, k10, k11, k12, k13, k14, k15, k16⟩ := HX.out.cells
    rw [HK.out] at k0
    go_wp2_with fail
    refine (rpright_i HX.out.ok).mono ?_
    rintro e w2 ⟨rfl, hb⟩
    have HX2 := Lib.hid (HX.out.after hb)
    clear hb k0 k1 k2 k3 k4 k5 k6 k7 k8 k9 k10 k11 k12 k13 k14 k15 k16
    cases hr0 : rightR t.r
    · go_wp2_with fail
      exact HQ.out _ _ ⟨ret_bool (by rw [hr0]; rfl), hbx ▸ HX2.out.below⟩
    obtain ⟨k0, k1, k2, k3, k4, k5, k6, k7, k8, k9, k10, k11, k12, k13, k14, k15, k16⟩ := HX2.out.cells
    rw [HK.out] at k0
    go_wp2_with fail
    refine (nomsg_any _ _ _ _ _ _ _ w2 HX2.out.ok.a HX2.out.ok.l).mono ?_
    rintro e w3 ⟨rfl, hb⟩
    have HX3 := Lib.hid (HX2.out.after hb)
    clear hb k0 k1 k2 k3 k4 k5 k6 k7 k8 k9 k10 k11 k12 k13 k14 k15 k16
    cases hr1 : noM t.m
    · go_wp2_with fail
      exact HQ.out _ _ ⟨ret_bool (by rw [hr0, hr1]; rfl), hbx ▸ HX3.out.below⟩
    obtain ⟨k0, k1, k2, k3, k4, k5, k6, k7, k8, k9, k10, k11, k12, k13, k14, k15, k16⟩ := HX3.out.cells
    rw [HK.out] at k0
    go_wp2_with fail
    refine (nochunk_any _ _ _ _ w3 HX3.out.ok.c).mono ?_
    rintro e w4 ⟨rfl, hb⟩
    have HX4 := Lib.hid (HX3.out.after hb)
    clear hb k0 k1 k2 k3 k4 k5 k6 k7 k8 k9 k10 k11 k12 k13 k14 k15 k16
    go_wp2_with fail
    exact HQ.out _ _ ⟨ret_bool (by rw [hr0, hr1]; rfl), hbx ▸ HX4.out.below⟩
  by_cases h2 : t.k = 2
  · have HK := Lib.hid (show t.k = 2 from h2)
    rw [rightI_2 (x := t.d) HK.out] at HQ
    clear h1 h2
    simp only [It.d] at HQ
    have hs := HS.out
    rw [show t.row = [.int .i64 2, .bool t.r.sd, .int .u32 (t.r.so : Nat), .int .u32 (t.r.i0 : Nat), .int .u32 (t.r.i1 : Nat), .int .u32 (t.r.i2 : Nat), .int .u32 (t.r.i3 : Nat), .int .u32 (t.r.i4 : Nat), (.slice t.ra t.r.bl.length t.rc), .int .i64 t.m.k, .int .u32 (t.m.se : Nat), .int .u32 (t.m.me : Nat), (.slice t.aa t.m.ak.length t.ac), (.slice t.la t.m.lo.length t.lc), .int .u8 (t.c.1 : Nat), .int .u8 (t.c.2.1 : Nat), (.slice t.ca t.c.2.2.length t.cc)] by simp only [It.row, HK.out]] at hs ⊢
    have HX := Lib.hid hs
    clear HS hs
    go_enter Try.func8, Try.ntmps8
    go_upto_region 1 with fail
    rw [show w.alloc (.cells #[.int .i64 2, .bool t.r.sd, .int .u32 (t.r.so : Nat), .int .u32 (t.r.i0 : Nat), .int .u32 (t.r.i1 : Nat), .int .u32 (t.r.i2 : Nat), .int .u32 (t.r.i3 : Nat), .int .u32 (t.r.i4 : Nat), (.slice t.ra t.r.bl.length t.rc), .int .i64 t.m.k, .int .u32 (t.m.se : Nat), .int .u32 (t.m.me : Nat), (.slice t.aa t.m.ak.length t.ac), (.slice t.la t.m.lo.length t.lc), .int .u8 (t.c.1 : Nat), .int .u8 (t.c.2.1 : Nat), (.slice t.ca t.c.2.2.length t.cc)] 42) = w.alloc (.cells ([.int .i64 2, .bool t.r.sd, .int .u32 (t.r.so : Nat), .int .u32 (t.r.i0 : Nat), .int .u32 (t.r.i1 : Nat), .int .u32 (t.r.i2 : Nat), .int .u32 (t.r.i3 : Nat), .int .u32 (t.r.i4 : Nat), (.slice t.ra t.r.bl.length t.rc), .int .i64 t.m.k, .int .u32 (t.m.se : Nat), .int .u32 (t.m.me : Nat), (.slice t.aa t.m.ak.length t.ac), (.slice t.la t.m.lo.length t.lc), .int .u8 (t.c.1 : Nat), .int .u8 (t.c.2.1 : Nat), (.slice t.ca t.c.2.2.length t.cc)] : List Value).toArray 42 (0, 0)) from rfl]
    generalize w.alloc (.cells ([.int .i64 2, .bool t.r.sd, .int .u32 (t.r.so : Nat), .int .u32 (t.r.i0 : Nat), .int .u32 (t.r.i1 : Nat), .int .u32 (t.r.i2 : Nat), .int .u32 (t.r.i3 : Nat), .int .u32 (t.r.i4 : Nat), (.slice t.ra t.r.bl.length t.rc), .int .i64 t.m.k, .int .u32 (t.m.se : Nat), .int .u32 (t.m.me : Nat), (.slice t.aa t.m.ak.length t.ac), (.slice t.la t.m.lo.length t.lc), .int .u8 (t.c.1 : Nat), .int .u8 (t.c.2.1 : Nat), (.slice t.ca t.c.2.2.length t.cc)] : List Value).toArray 42 (0, 0)) = w1 at *
    generalize hbx : w.heap.size = bx at *
    obtain ⟨k0, k1, k2, k3, k4, k5, k6, k7, k8, k9, k10, k11, k12, k13, k14, k15, k16⟩ := HX.out.cells
    rw [HK.out] at k0
    go_wp2_with fail
    refine (noreport_any _ _ _ _ _ _ _ _ _ w1 HX.out.ok.b).mono ?_
    rintro e w2 ⟨rfl, hb⟩
    have HX2 := Lib.hid (HX.out.after hb)
    clear hb k0 k1 k2 k3 k4 k5 k6 k7 k8 k9 k10 k11 k12 k13 k14 k15 k16
    cases hr0 : noR t.r
    · go_wp2_with fail
      exact HQ.out _ _ ⟨ret_bool (by rw [hr0]; rfl), hbx ▸ HX2.out.below⟩
    obtain ⟨k0, k1, k2, k3, k4, k5, k6, k7, k8, k9, k10, k11, k12, k13, k14, k15, k16⟩ := HX2.out.cells
    rw [HK.out] at k0
    go_wp2_with fail
    refine (fright_i HX2.out.ok).mono ?_
    rintro e w3 ⟨rfl, hb⟩
    have HX3 := Lib.hid (HX2.out.after hb)
    clear hb k0 k1 k2 k3 k4 k5 k6 k7 k8 k9 k10 k11 k12 k13 k14 k15 k16
    cases hr1 : rightM t.m
    · go_wp2_with fail
      exact HQ.out _ _ ⟨ret_bool (by rw [hr0, hr1]; rfl), hbx ▸ HX3.out.below⟩
    obtain ⟨k0, k1, k2, k3, k4, k5, k6, k7, k8, k9, k10, k11, k12, k13, k14, k15, k16⟩ := HX3.out.cells
    rw [HK.out] at k0
    go_wp2_with fail
    refine (nochunk_any _ _ _ _ w3 HX3.out.ok.c).mono ?_
    rintro e w4 ⟨rfl, hb⟩
    have HX4 := Lib.hid (HX3.out.after hb)
    clear hb k0 k1 k2 k3 k4 k5 k6 k7 k8 k9 k10 k11 k12 k13 k14 k15 k16
    go_wp2_with fail
    exact HQ.out _ _ ⟨ret_bool (by rw [hr0, hr1]; rfl), hbx ▸ HX4.out.below⟩
  by_cases h3 : t.k = 3
  · have HK := Lib.hid (show t.k = 3 from h3)
    rw [rightI_3 (x := t.d) HK.out] at HQ
    clear h1 h2 h3
    simp only [It.d] at HQ
    have hs := HS.out
    rw [show t.row = [.int .i64 3, .bool t.r.sd, .int .u32 (t.r.so : Nat), .int .u32 (t.r.i0 : Nat), .int .u32 (t.r.i1 : Nat), .int .u32 (t.r.i2 : Nat), .int .u32 (t.r.i3 : Nat), .int .u32 (t.r.i4 : Nat), (.slice t.ra t.r.bl.length t.rc), .int .i64 t.m.k, .int .u32 (t.m.se : Nat), .int .u32 (t.m.me : Nat), (.slice t.aa t.m.ak.length t.ac), (.slice t.la t.m.lo.length t.lc), .int .u8 (t.c.1 : Nat), .int .u8 (t.c.2.1 : Nat), (.slice t.ca t.c.2.2.length t.cc)] by simp only [It.row, HK.out]] at hs ⊢
    have HX := Lib.hid hs
    clear HS hs
    go_enter Try.func8, Try.ntmps8
    go_upto_region 1 with fail
    rw [show w.alloc (.cells #[.int .i64 3, .bool t.r.sd, .int .u32 (t.r.so : Nat), .int .u32 (t.r.i0 : Nat), .int .u32 (t.r.i1 : Nat), .int .u32 (t.r.i2 : Nat), .int .u32 (t.r.i3 : Nat), .int .u32 (t.r.i4 : Nat), (.slice t.ra t.r.bl.length t.rc), .int .i64 t.m.k, .int .u32 (t.m.se : Nat), .int .u32 (t.m.me : Nat), (.slice t.aa t.m.ak.length t.ac), (.slice t.la t.m.lo.length t.lc), .int .u8 (t.c.1 : Nat), .int .u8 (t.c.2.1 : Nat), (.slice t.ca t.c.2.2.length t.cc)] 42) = w.alloc (.cells ([.int .i64 3, .bool t.r.sd, .int .u32 (t.r.so : Nat), .int .u32 (t.r.i0 : Nat), .int .u32 (t.r.i1 : Nat), .int .u32 (t.r.i2 : Nat), .int .u32 (t.r.i3 : Nat), .int .u32 (t.r.i4 : Nat), (.slice t.ra t.r.bl.length t.rc), .int .i64 t.m.k, .int .u32 (t.m.se : Nat), .int .u32 (t.m.me : Nat), (.slice t.aa t.m.ak.length t.ac), (.slice t.la t.m.lo.length t.lc), .int .u8 (t.c.1 : Nat), .int .u8 (t.c.2.1 : Nat), (.slice t.ca t.c.2.2.length t.cc)] : List Value).toArray 42 (0, 0)) from rfl]
    generalize w.alloc (.cells ([.int .i64 3, .bool t.r.sd, .int .u32 (t.r.so : Nat), .int .u32 (t.r.i0 : Nat), .int .u32 (t.r.i1 : Nat), .int .u32 (t.r.i2 : Nat), .int .u32 (t.r.i3 : Nat), .int .u32 (t.r.i4 : Nat), (.slice t.ra t.r.bl.length t.rc), .int .i64 t.m.k, .int .u32 (t.m.se : Nat), .int .u32 (t.m.me : Nat), (.slice t.aa t.m.ak.length t.ac), (.slice t.la t.m.lo.length t.lc), .int .u8 (t.c.1 : Nat), .int .u8 (t.c.2.1 : Nat), (.slice t.ca t.c.2.2.length t.cc)] : List Value).toArray 42 (0, 0)) = w1 at *
    generalize hbx : w.heap.size = bx at *
    obtain ⟨k0, k1, k2, k3, k4, k5, k6, k7, k8, k9, k10, k11, k12, k13, k14, k15, k16⟩ := HX.out.cells
    rw [HK.out] at k0
    go_wp2_with fail
    refine (noreport_any _ _ _ _ _ _ _ _ _ w1 HX.out.ok.b).mono ?_
    rintro e w2 ⟨rfl, hb⟩
    have HX2 := Lib.hid (HX.out.after hb)
    clear hb k0 k1 k2 k3 k4 k5 k6 k7 k8 k9 k10 k11 k12 k13 k14 k15 k16
    cases hr0 : noR t.r
    · go_wp2_with fail
      exact HQ.out _ _ ⟨ret_bool (by rw [hr0]; rfl), hbx ▸ HX2.out.below⟩
    obtain ⟨k0, k1, k2, k3, k4, k5, k6, k7, k8, k9, k10, k11, k12, k13, k14, k15, k16⟩ := HX2.out.cells
    rw [HK.out] at k0
    go_wp2_with fail
    refine (nomsg_any _ _ _ _ _ _ _ w2 HX2.out.ok.a HX2.out.ok.l).mono ?_
    rintro e w3 ⟨rfl, hb⟩
    have HX3 := Lib.hid (HX2.out.after hb)
    clear hb k0 k1 k2 k3 k4 k5 k6 k7 k8 k9 k10 k11 k12 k13 k14 k15 k16
    cases hr1 : noM t.m
    · go_wp2_with fail
      exact HQ.out _ _ ⟨ret_bool (by rw [hr0, hr1]; rfl), hbx ▸ HX3.out.below⟩
    obtain ⟨k0, k1, k2, k3, k4, k5, k6, k7, k8, k9, k10, k11, k12, k13, k14, k15, k16⟩ := HX3.out.cells
    rw [HK.out] at k0
    go_wp2_with fail
    refine (rightother_any _ _ _ _ w3 HX3.out.ok.c HX3.out.ok.ok.n HX3.out.ok.ok.y hl).mono ?_
    rintro e w4 ⟨rfl, hb⟩
    have HX4 := Lib.hid (HX3.out.after hb)
    clear hb k0 k1 k2 k3 k4 k5 k6 k7 k8 k9 k10 k11 k12 k13 k14 k15 k16
    go_wp2_with fail
    exact HQ.out _ _ ⟨ret_bool (by rw [hr0, hr1]; rfl), hbx ▸ HX4.out.below⟩
  rw [rightI_0 (x := t.d) h1 h2 h3] at HQ
  obtain ⟨k, hk⟩ : ∃ k, t.k = k := ⟨_, rfl⟩
  rw [hk] at h1 h2 h3
  have i1 : (k == 1) = false := by simp [h1]
  have i2 : (k == 2) = false := by simp [h2]
  have i3 : (k == 3) = false := by simp [h3]
  have hs := HS.out
  rw [show t.row = [.int .i64 k, .bool t.r.sd, .int .u32 (t.r.so : Nat), .int .u32 (t.r.i0 : Nat), .int .u32 (t.r.i1 : Nat), .int .u32 (t.r.i2 : Nat), .int .u32 (t.r.i3 : Nat), .int .u32 (t.r.i4 : Nat), (.slice t.ra t.r.bl.length t.rc), .int .i64 t.m.k, .int .u32 (t.m.se : Nat), .int .u32 (t.m.me : Nat), (.slice t.aa t.m.ak.length t.ac), (.slice t.la t.m.lo.length t.lc), .int .u8 (t.c.1 : Nat), .int .u8 (t.c.2.1 : Nat), (.slice t.ca t.c.2.2.length t.cc)] by simp only [It.row, hk]] at hs ⊢
  have HB := Lib.hid hs.below
  clear HS hs hk h1 h2 h3
  go_enter Try.func8, Try.ntmps8
  go_wp2_with fail
  exact HQ.out _ _ ⟨ret_bool rfl, HB.out⟩
end Go.Proofs.Ytphofpemblindaa
/- In which blocks an item's slices lie. -/
namespace Go.Proofs.Ytphofpemblindaa
open Go.RowKit

/-- where a slice of n elements lies, if it has any -/
def OB (G : Nat → Prop) (A : Option Addr) (n : Nat) : Prop := 0 < n → ∀ a : Addr, A = some a → G a.block
theorem OB.mono {G G' : Nat → Prop} {A : Option Addr} {n : Nat} (h : OB G A n) (hG : ∀ k, G k → G' k) : OB G' A n := fun hp a ha => hG _ (h hp a ha)
theorem OB.nil (G : Nat → Prop) (n : Nat) : OB G none n := fun _ _ h => by cases h
theorem OB.none (G : Nat → Prop) (A : Option Addr) : OB G A 0 := fun h => absurd h (by decide)
theorem OB.of_new {B : Nat} {A : Option Addr} {n m c : Nat} (h : NewV B (.slice A m c)) : OB (fun k => B ≤ k) A n := fun _ a ha => h a.block (by rw [ownB, ha]; rfl)
theorem OB.of_rows {k : Nat} {w : World} {A : Option Addr} {m n c : Nat} {rs : List (List Value)} (h : RowsV k w (.slice A m c) rs) (hn : rs.length = n) : OB (fun k => k < w.heap.size) A n := fun hp a ha => by
  obtain ⟨A', c', he, _, _, h3⟩ := h
  simp only [Value.slice.injEq] at he
  obtain ⟨b, o, hA, hb, _⟩ := h3 (by omega)
  rw [he.1, hA] at ha
  cases ha; exact hb
theorem OB.of_sv {w : World} {A : Option Addr} {m n c : Nat} {l : List Value} (h : SV w (.slice A m c) l) (hn : l.length = n) : OB (fun k => k < w.heap.size) A n := fun hp a ha =>
  (SV.x h).2 (by omega) a.block (by rw [ownB, ha]; rfl)
theorem OB.of_bs {w : World} {A : Option Addr} {m n c : Nat} {l : List UInt8} (h : BS w (.slice A m c) l) (hn : l.length = n) : OB (fun k => k < w.heap.size) A n := fun hp a ha =>
  (BS.x h).2 (by omega) a.block (by rw [ownB, ha]; rfl)
theorem RowsV.frG {G F : Nat → Prop} {w w' : World} {A : Option Addr} {m c : Nat} (hf : Fr F w w') (hG : ∀ k, k < w.heap.size → G k → ¬ F k) {k : Nat} {rs : List (List Value)} (h : RowsV k w (.slice A m c) rs) (ho : OB G A rs.length) : RowsV k w' (.slice A m c) rs := by
  obtain ⟨A', c', he, h1, h2, h3⟩ := h
  simp only [Value.slice.injEq] at he
  obtain ⟨rfl, rfl, rfl⟩ := he
  refine ⟨A, c, rfl, h1, h2, fun hp => ?_⟩
  obtain ⟨b, o, rfl, hb, hc⟩ := h3 hp
  refine ⟨b, o, rfl, Nat.lt_of_lt_of_le hb hf.size, fun i hi j u hu => ?_⟩
  rw [World.cell?_of_block (w := w) (a := ⟨b, o + i * k + j, .none⟩) (hf.block b hb (hG b hb (ho hp _ rfl)))]
  exact hc i hi j u hu
theorem SV.frG {G F : Nat → Prop} {w w' : World} {A : Option Addr} {m c : Nat} (hf : Fr F w w') (hG : ∀ k, k < w.heap.size → G k → ¬ F k) {l : List Value} (h : SV w (.slice A m c) l) (ho : OB G A l.length) : SV w' (.slice A m c) l := by
  refine (SVx.fr (G := G) ⟨h, fun hp k hk => ?_⟩ hf hG).1
  rw [ownB] at hk
  obtain ⟨a, ha, rfl⟩ := Option.map_eq_some_iff.1 hk
  exact ho hp a ha
theorem BS.frG {G F : Nat → Prop} {w w' : World} {A : Option Addr} {m c : Nat} (hf : Fr F w w') (hG : ∀ k, k < w.heap.size → G k → ¬ F k) {l : List UInt8} (h : BS w (.slice A m c) l) (ho : OB G A l.length) : BS w' (.slice A m c) l := by
  refine (BSx.fr (G := G) ⟨h, fun hp k hk => ?_⟩ hf hG).1
  rw [ownB] at hk
  obtain ⟨a, ha, rfl⟩ := Option.map_eq_some_iff.1 hk
  exact ho hp a ha
structure ItG (G : Nat → Prop) (t : It) : Prop where
  r : OB G t.ra t.r.bl.length
  a : OB G t.aa t.m.ak.length
  l : OB G t.la t.m.lo.length
  c : OB G t.ca t.c.2.2.length
theorem ItG.mono {G G' : Nat → Prop} {t : It} (h : ItG G t) (hG : ∀ k, G k → G' k) : ItG G' t := ⟨h.r.mono hG, h.a.mono hG, h.l.mono hG, h.c.mono hG⟩
theorem It.Ok.g {w : World} {t : It} (h : t.Ok w) : ItG (fun k => k < w.heap.size) t :=
  ⟨OB.of_rows h.b.1 (by simp), OB.of_rows h.a (by simp), OB.of_sv h.l (by simp [ints]), OB.of_bs h.c rfl⟩
theorem It.Ok.frG {G F : Nat → Prop} {w w' : World} {t : It} (h : t.Ok w) (hg : ItG G t) (hf : Fr F w w') (hG : ∀ k, k < w.heap.size → G k → ¬ F k) : t.Ok w' :=
  ⟨⟨RowsV.frG hf hG h.b.1 (by simpa using hg.r), h.b.2⟩, RowsV.frG hf hG h.a (by simpa using hg.a), SV.frG hf hG h.l (by simpa [ints] using hg.l), BS.frG hf hG h.c hg.c, h.ok⟩
end Go.Proofs.Ytphofpemblindaa
/- The walk of chunkOf. -/
namespace Go.Proofs.Ytphofpemblindaa
open Go.RowKit

/-- what chunkOf answers -/
def COPost (B : Nat) (w : World) (x : DI) (e : Ending) (w' : World) : Prop :=
  ∃ A c, e = .returned (.tuple #[.agg #[.int .u8 ((wrCI x).1 : Nat), .int .u8 ((wrCI x).2.1 : Nat), .slice A (wrCI x).2.2.length c], .int .i64 (wrEI x)]) ∧ BS w' (.slice A (wrCI x).2.2.length c) (wrCI x).2.2 ∧
    OB (fun k => k < B ∨ w.heap.size ≤ k) A (wrCI x).2.2.length ∧ Below w.heap.size w w'
/-- an item in its box, and the result's cells -/
structure CoS (w0 : World) (bx rx : Nat) (t : It) (w : World) : Prop where
  it : BxI w0 bx t w
  res : w.heap[rx]? = some (oChk 0 0 (.slice none 0 0))
  o0 : w0.heap.size ≤ bx
  o1 : bx < rx
theorem CoS.after {w0 w w' : World} {b rx : Nat} {t : It} (h : CoS w0 b rx t w) (hb : Below w.heap.size w w') : CoS w0 b rx t w' :=
  ⟨h.it.after hb, (Fr.of hb).heap h.res (fun h => h), h.o0, h.o1⟩
theorem wrI_1 {x : DI} (h : rightI x = true) (hk : x.k = 1) : wrCI x = wrC x.r ∧ wrEI x = wrE x.r := by
  have hr : rightR x.r = true := by rw [rightI_1 hk, Bool.and_eq_true] at h; exact h.1
  rw [wrCI, wrEI, if_pos h, if_pos h, wrC, wrE, if_pos hr, if_pos hr, chunkI, if_pos hk]
  exact ⟨rfl, rfl⟩
theorem wrI_2 {x : DI} (h : rightI x = true) (hk : x.k = 2) : wrCI x = wrCM x.m ∧ wrEI x = wrEM x.m := by
  have hr : rightM x.m = true := by rw [rightI_2 hk, Bool.and_eq_true, Bool.and_eq_true] at h; exact h.2.1
  rw [wrCI, wrEI, if_pos h, if_pos h, wrCM, wrEM, if_pos hr, if_pos hr, chunkI, if_neg (by omega), if_pos hk]
  exact ⟨rfl, rfl⟩
theorem wrI_3 {x : DI} (h : rightI x = true) (hk : x.k = 3) : wrCI x = x.c ∧ wrEI x = 0 := by
  rw [wrCI, wrEI, if_pos h, if_pos h, chunkI, if_neg (by omega), if_neg (by omega)]
  exact ⟨rfl, rfl⟩
theorem wrI_0 {x : DI} (h : rightI x = false) : wrCI x = cZero ∧ wrEI x = 1 := by
  rw [wrCI, wrEI, h]; exact ⟨rfl, rfl⟩
theorem kind_of_right {x : DI} (h : rightI x = true) : x.k = 1 ∨ x.k = 2 ∨ x.k = 3 := by
  by_cases h1 : x.k = 1
  · exact .inl h1
  · by_cases h2 : x.k = 2
    · exact .inr (.inl h2)
    · by_cases h3 : x.k = 3
      · exact .inr (.inr h3)
      · rw [rightI_0 h1 h2 h3] at h; cases h
/-- a slice of bytes behind a store into the result's cells -/
theorem co_fr {w w' : World} {rx B S : Nat} {A : Option Addr} {c : Nat} {l : List UInt8} (h : BS w (.slice A l.length c) l) (ho : OB (fun k => k < B ∨ S ≤ k) A l.length) (hf : Fr (F1 rx) w w') (h1 : B ≤ rx) (h2 : rx < S) : BS w' (.slice A l.length c) l :=
  BS.frG (G := fun k => k < B ∨ S ≤ k) hf (fun k _ hk (hx : k = rx) => by omega) h ho
theorem cmright_r {t : It} {w : World} (h : t.Ok w) (hl : t.c.2.2.length ≤ 1000) :
    Calls Try.prog 8 #[.agg #[.int .i64 t.k, .bool t.r.sd, .int .u32 (t.r.so : Nat), .int .u32 (t.r.i0 : Nat), .int .u32 (t.r.i1 : Nat), .int .u32 (t.r.i2 : Nat), .int .u32 (t.r.i3 : Nat), .int .u32 (t.r.i4 : Nat), (.slice t.ra t.r.bl.length t.rc), .int .i64 t.m.k, .int .u32 (t.m.se : Nat), .int .u32 (t.m.me : Nat), (.slice t.aa t.m.ak.length t.ac), (.slice t.la t.m.lo.length t.lc), .int .u8 (t.c.1 : Nat), .int .u8 (t.c.2.1 : Nat), (.slice t.ca t.c.2.2.length t.cc)]] w fun e w' => e = .returned (.bool (rightI t.d)) ∧ Below w.heap.size w w' := cmright_any t w h hl
set_option maxRecDepth 20000 in
set_option maxHeartbeats 2000000 in
theorem chunkof_any (B : Nat) (t : It) (w : World) (h : t.Ok w) (hl : t.c.2.2.length ≤ 1000) (hB : B ≤ w.heap.size) (hg : OB (fun k => k < B) t.ca t.c.2.2.length) :
    Calls Try.prog 40 #[.agg t.row.toArray] w (COPost B w t.d) := by
  have hb := BxI.new h
  have hb1 := below_alloc (w := w) (.cells ([.int .i64 t.k, .bool t.r.sd, .int .u32 (t.r.so : Nat), .int .u32 (t.r.i0 : Nat), .int .u32 (t.r.i1 : Nat), .int .u32 (t.r.i2 : Nat), .int .u32 (t.r.i3 : Nat), .int .u32 (t.r.i4 : Nat), (.slice t.ra t.r.bl.length t.rc), .int .i64 t.m.k, .int .u32 (t.m.se : Nat), .int .u32 (t.m.me : Nat), (.slice t.aa t.m.ak.length t.ac), (.slice t.la t.m.lo.length t.lc), .int .u8 (t.c.1 : Nat), .int .u8 (t.c.2.1 : Nat), (.slice t.ca t.c.2.2.length t.cc)] : List Value).toArray 42 (0, 0))
  have HS := Lib.hid (show CoS w w.heap.size (w.heap.size + 1) t ((w.alloc (.cells ([.int .i64 t.k, .bool t.r.sd, .int .u32 (t.r.so : Nat), .int .u32 (t.r.i0 : Nat), .int .u32 (t.r.i1 : Nat), .int .u32 (t.r.i2 : Nat), .int .u32 (t.r.i3 : Nat), .int .u32 (t.r.i4 : Nat), (.slice t.ra t.r.bl.length t.rc), .int .i64 t.m.k, .int .u32 (t.m.se : Nat), .int .u32 (t.m.me : Nat), (.slice t.aa t.m.ak.length t.ac), (.slice t.la t.m.lo.length t.lc), .int .u8 (t.c.1 : Nat), .int .u8 (t.c.2.1 : Nat), (.slice t.ca t.c.2.2.length t.cc)] : List Value).toArray 42 (0, 0))).alloc (oChk 0 0 (.slice none 0 0))) from
    ⟨hb.after (below_alloc _), by rw [show w.heap.size + 1 = (w.alloc (.cells ([.int .i64 t.k, .bool t.r.sd, .int .u32 (t.r.so : Nat), .int .u32 (t.r.i0 : Nat), .int .u32 (t.r.i1 : Nat), .int .u32 (t.r.i2 : Nat), .int .u32 (t.r.i3 : Nat), .int .u32 (t.r.i4 : Nat), (.slice t.ra t.r.bl.length t.rc), .int .i64 t.m.k, .int .u32 (t.m.se : Nat), .int .u32 (t.m.me : Nat), (.slice t.aa t.m.ak.length t.ac), (.slice t.la t.m.lo.length t.lc), .int .u8 (t.c.1 : Nat), .int .u8 (t.c.2.1 : Nat), (.slice t.ca t.c.2.2.length t.cc)] : List Value).toArray 42 (0, 0))).heap.size from (World.size_alloc ..).symm]; exact heap_alloc_new _ _, Nat.le_refl _, Nat.lt_succ_self _⟩)
  have HG := Lib.hid hg
  have HBs := Lib.hid hB
  clear h hb hb1 hg hB
  refine calls_q fun Q HQ => ?_
  unfold COPost at HQ
  rw [show t.row = [.int .i64 t.k, .bool t.r.sd, .int .u32 (t.r.so : Nat), .int .u32 (t.r.i0 : Nat), .int .u32 (t.r.i1 : Nat), .int .u32 (t.r.i2 : Nat), .int .u32 (t.r.i3 : Nat), .int .u32 (t.r.i4 : Nat), (.slice t.ra t.r.bl.length t.rc), .int .i64 t.m.k, .int .u32 (t.m.se : Nat), .int .u32 (t.m.me : Nat), (.slice t.aa t.m.ak.length t.ac), (.slice t.la t.m.lo.length t.lc), .int .u8 (t.c.1 : Nat), .int .u8 (t.c.2.1 : Nat), (.slice t.ca t.c.2.2.length t.cc)] from rfl]
  go_enter Try.func40, Try.ntmps40
  go_upto_region 1 with fail
  rw [show (w.alloc (.cells #[.int .i64 t.k, .bool t.r.sd, .int .u32 (t.r.so : Nat), .int .u32 (t.r.i0 : Nat), .int .u32 (t.r.i1 : Nat), .int .u32 (t.r.i2 : Nat), .int .u32 (t.r.i3 : Nat), .int .u32 (t.r.i4 : Nat), (.slice t.ra t.r.bl.length t.rc), .int .i64 t.m.k, .int .u32 (t.m.se : Nat), .int .u32 (t.m.me : Nat), (.slice t.aa t.m.ak.length t.ac), (.slice t.la t.m.lo.length t.lc), .int .u8 (t.c.1 : Nat), .int .u8 (t.c.2.1 : Nat), (.slice t.ca t.c.2.2.length t.cc)] 42)).alloc (.cells #[.int .u8 0, .int .u8 0, .slice none 0 0] 40) = (w.alloc (.cells ([.int .i64 t.k, .bool t.r.sd, .int .u32 (t.r.so : Nat), .int .u32 (t.r.i0 : Nat), .int .u32 (t.r.i1 : Nat), .int .u32 (t.r.i2 : Nat), .int .u32 (t.r.i3 : Nat), .int .u32 (t.r.i4 : Nat), (.slice t.ra t.r.bl.length t.rc), .int .i64 t.m.k, .int .u32 (t.m.se : Nat), .int .u32 (t.m.me : Nat), (.slice t.aa t.m.ak.length t.ac), (.slice t.la t.m.lo.length t.lc), .int .u8 (t.c.1 : Nat), .int .u8 (t.c.2.1 : Nat), (.slice t.ca t.c.2.2.length t.cc)] : List Value).toArray 42 (0, 0))).alloc (oChk 0 0 (.slice none 0 0)) from rfl]
  generalize (w.alloc (.cells ([.int .i64 t.k, .bool t.r.sd, .int .u32 (t.r.so : Nat), .int .u32 (t.r.i0 : Nat), .int .u32 (t.r.i1 : Nat), .int .u32 (t.r.i2 : Nat), .int .u32 (t.r.i3 : Nat), .int .u32 (t.r.i4 : Nat), (.slice t.ra t.r.bl.length t.rc), .int .i64 t.m.k, .int .u32 (t.m.se : Nat), .int .u32 (t.m.me : Nat), (.slice t.aa t.m.ak.length t.ac), (.slice t.la t.m.lo.length t.lc), .int .u8 (t.c.1 : Nat), .int .u8 (t.c.2.1 : Nat), (.slice t.ca t.c.2.2.length t.cc)] : List Value).toArray 42 (0, 0))).alloc (oChk 0 0 (.slice none 0 0)) = w1 at *
  generalize hrx : w.heap.size + 1 = rx at *
  generalize hbx : w.heap.size = bx at *
  obtain ⟨k0, k1, k2, k3, k4, k5, k6, k7, k8, k9, k10, k11, k12, k13, k14, k15, k16⟩ := HS.out.it.cells
  go_wp2_with fail
  refine (cmright_r HS.out.it.ok hl).mono ?_
  rintro e w2 ⟨rfl, hb⟩
  have HS2 := Lib.hid (HS.out.after hb)
  have HSz := Lib.hid (show rx < w2.heap.size from obj_lt HS2.out.res)
  clear hb HS k0 k1 k2 k3 k4 k5 k6 k7 k8 k9 k10 k11 k12 k13 k14 k15 k16
  cases hr : rightI t.d
  · rw [(wrI_0 hr).1, (wrI_0 hr).2] at HQ
    clear hr HG
    obtain ⟨m0, m1, m2, z0, z1, z2⟩ := cells3m HS2.out.res
    go_wp2_with fail
    generalize hW : World.setCell _ _ _ = wf
    obtain ⟨hx, hfx⟩ := objs3m HS2.out.res _ _ _ wf hW.symm
    clear hW m0 m1 m2 z0 z1 z2
    obtain ⟨m0, m1, m2, z0, z1, z2⟩ := cells3m hx
    refine bodyPost_ret (v := .tuple #[.agg #[.int .u8 (0), .int .u8 (0), .slice none 0 0], .int .i64 (1)]) (by simp [results, Try.results40, go_sem, m0, m1, m2]; try rfl) rfl ?_
    have o0 := HS2.out.o0
    have o1 := HS2.out.o1
    have hB := HS2.out.it.below.trans (hfx.below HS2.out.it.below.size (fun k (hk : k = rx) => by omega))
    rw [hbx] at hB o0
    refine HQ.out _ _ ⟨none, 0, rfl, BS.nil _, OB.nil _ _, hB⟩
  rcases kind_of_right hr with hk | hk | hk
  · obtain ⟨h3, h4⟩ := wrI_1 hr hk
    rw [h3, h4] at HQ
    simp only [It.d] at HQ
    have HK := Lib.hid (show t.k = 1 from hk)
    obtain ⟨k0, k1, k2, k3, k4, k5, k6, k7, k8, k9, k10, k11, k12, k13, k14, k15, k16⟩ := HS2.out.it.cells
    rw [HK.out] at k0
    clear h3 h4 hr hk HK
    clear HG
    go_wp2_with fail
    refine (rpwrite_i HS2.out.it.ok).mono ?_
    rintro e w3 ⟨u, rfl, hu, hb, hn⟩
    obtain ⟨Au, cu, rfl, _⟩ := bs_parts hu
    have HS3 := Lib.hid (HS2.out.after hb)
    have HU := Lib.hid hu
    have HO := Lib.hid ((OB.of_new (n := (wrC t.r).2.2.length) hn).mono (G' := fun k => k < 0 ∨ w2.heap.size ≤ k) (fun k hk => .inr hk))
    clear hb hu hn HS2 k0 k1 k2 k3 k4 k5 k6 k7 k8 k9 k10 k11 k12 k13 k14 k15 k16
    generalize wrC t.r = d at *
    generalize wrE t.r = z at *
    obtain ⟨dn, dy, db⟩ := d
    simp only at *
    obtain ⟨m0, m1, m2, z0, z1, z2⟩ := cells3m HS3.out.res
    go_wp2_with fail
    generalize hW : World.setCell _ _ _ = wf
    obtain ⟨hx, hfx⟩ := objs3m HS3.out.res _ _ _ wf hW.symm
    clear hW m0 m1 m2 z0 z1 z2
    obtain ⟨m0, m1, m2, z0, z1, z2⟩ := cells3m hx
    refine bodyPost_ret (v := .tuple #[.agg #[.int .u8 (dn : Nat), .int .u8 (dy : Nat), .slice Au db.length cu], .int .i64 (z)]) (by simp [results, Try.results40, go_sem, m0, m1, m2]; try rfl) rfl ?_
    have o0 := HS3.out.o0
    have o1 := HS3.out.o1
    have hB := HS3.out.it.below.trans (hfx.below HS3.out.it.below.size (fun k (hk : k = rx) => by omega))
    rw [hbx] at hB o0
    refine HQ.out _ _ ⟨Au, cu, rfl, co_fr HU.out HO.out hfx (Nat.zero_le _) HSz.out, HO.out.mono (fun k hk => hk.elim (fun h => absurd h (Nat.not_lt_zero k)) (fun h => Or.inr (by have := HSz.out; omega))), hB⟩
  · obtain ⟨h3, h4⟩ := wrI_2 hr hk
    rw [h3, h4] at HQ
    simp only [It.d] at HQ
    have HK := Lib.hid (show t.k = 2 from hk)
    obtain ⟨k0, k1, k2, k3, k4, k5, k6, k7, k8, k9, k10, k11, k12, k13, k14, k15, k16⟩ := HS2.out.it.cells
    rw [HK.out] at k0
    clear h3 h4 hr hk HK
    clear HG
    go_wp2_with fail
    refine (fwrite_i HS2.out.it.ok).mono ?_
    rintro e w3 ⟨u, rfl, hu, hb, hn⟩
    obtain ⟨Au, cu, rfl, _⟩ := bs_parts hu
    have HS3 := Lib.hid (HS2.out.after hb)
    have HU := Lib.hid hu
    have HO := Lib.hid ((OB.of_new (n := (wrCM t.m).2.2.length) hn).mono (G' := fun k => k < 0 ∨ w2.heap.size ≤ k) (fun k hk => .inr hk))
    clear hb hu hn HS2 k0 k1 k2 k3 k4 k5 k6 k7 k8 k9 k10 k11 k12 k13 k14 k15 k16
    generalize wrCM t.m = d at *
    generalize wrEM t.m = z at *
    obtain ⟨dn, dy, db⟩ := d
    simp only at *
    obtain ⟨m0, m1, m2, z0, z1, z2⟩ := cells3m HS3.out.res
    go_wp2_with fail
    generalize hW : World.setCell _ _ _ = wf
    obtain ⟨hx, hfx⟩ := objs3m HS3.out.res _ _ _ wf hW.symm
    clear hW m0 m1 m2 z0 z1 z2
    obtain ⟨m0, m1, m2, z0, z1, z2⟩ := cells3m hx
    refine bodyPost_ret (v := .tuple #[.agg #[.int .u8 (dn : Nat), .int .u8 (dy : Nat), .slice Au db.length cu], .int .i64 (z)]) (by simp [results, Try.results40, go_sem, m0, m1, m2]; try rfl) rfl ?_
    have o0 := HS3.out.o0
    have o1 := HS3.out.o1
    have hB := HS3.out.it.below.trans (hfx.below HS3.out.it.below.size (fun k (hk : k = rx) => by omega))
    rw [hbx] at hB o0
    refine HQ.out _ _ ⟨Au, cu, rfl, co_fr HU.out HO.out hfx (Nat.zero_le _) HSz.out, HO.out.mono (fun k hk => hk.elim (fun h => absurd h (Nat.not_lt_zero k)) (fun h => Or.inr (by have := HSz.out; omega))), hB⟩
  · obtain ⟨h3, h4⟩ := wrI_3 hr hk
    rw [h3, h4] at HQ
    simp only [It.d] at HQ
    have HK := Lib.hid (show t.k = 3 from hk)
    obtain ⟨k0, k1, k2, k3, k4, k5, k6, k7, k8, k9, k10, k11, k12, k13, k14, k15, k16⟩ := HS2.out.it.cells
    rw [HK.out] at k0
    clear h3 h4 hr hk HK
    have HU := Lib.hid HS2.out.it.ok.c
    have HO := Lib.hid (HG.out.mono (G' := fun k => k < B ∨ rx + 1 ≤ k) (fun k hk => Or.inl hk))
    clear HG
    obtain ⟨m0, m1, m2, z0, z1, z2⟩ := cells3m HS2.out.res
    go_wp2_with fail
    generalize hW : World.setCell _ _ _ = wf
    obtain ⟨hx, hfx⟩ := objs3m HS2.out.res _ _ _ wf hW.symm
    clear hW m0 m1 m2 z0 z1 z2
    obtain ⟨m0, m1, m2, z0, z1, z2⟩ := cells3m hx
    refine bodyPost_ret (v := .tuple #[.agg #[.int .u8 (t.c.1 : Nat), .int .u8 (t.c.2.1 : Nat), .slice t.ca t.c.2.2.length t.cc], .int .i64 0]) (by simp [results, Try.results40, go_sem, m0, m1, m2]; try rfl) rfl ?_
    have o0 := HS2.out.o0
    have o1 := HS2.out.o1
    have hB := HS2.out.it.below.trans (hfx.below HS2.out.it.below.size (fun k (hk : k = rx) => by omega))
    rw [hbx] at hB o0
    have hBb := HBs.out
    exact HQ.out _ _ ⟨t.ca, t.cc, rfl, co_fr HU.out HO.out hfx (by omega) (Nat.lt_succ_self _), HO.out.mono (fun k hk => hk.elim Or.inl (fun h => Or.inr (by omega))), hB⟩
end Go.Proofs.Ytphofpemblindaa
/- An item's cells loaded, and laid into a new block, in one step each. -/
namespace Go.Proofs.Ytphofpemblindaa
open Go.RowKit

theorem item_size : (Try.prog.info? 42).map (·.size) = some 17 := by kernel_rfl
theorem It.one (t : It) : t.row.toArray.all (·.oneCell') = true := by
  simp [It.row, Value.oneCell']
section
variable {ops : Array Oper} {rest : List Oper} {op : Oper} {a : Act} {w : World} {Q : Exit → Act → World → Prop}
theorem wpl_load_item {b o : Nat} {t : It} (h0 : op.guard = none ∧ ∃ x, op.op = .load 42 x ∧ a.eval x = .pointer (some ⟨b, o, none⟩)) (hc : w.rangeAt b o t.row)
    (h : wpList Try.prog ops Q rest (a.put op.dst (.agg #[.int .i64 t.k, .bool t.r.sd, .int .u32 (t.r.so : Nat), .int .u32 (t.r.i0 : Nat), .int .u32 (t.r.i1 : Nat), .int .u32 (t.r.i2 : Nat), .int .u32 (t.r.i3 : Nat), .int .u32 (t.r.i4 : Nat), (.slice t.ra t.r.bl.length t.rc), .int .i64 t.m.k, .int .u32 (t.m.se : Nat), .int .u32 (t.m.me : Nat), (.slice t.aa t.m.ak.length t.ac), (.slice t.la t.m.lo.length t.lc), .int .u8 (t.c.1 : Nat), .int .u8 (t.c.2.1 : Nat), (.slice t.ca t.c.2.2.length t.cc)])) w) : wpList Try.prog ops Q (op :: rest) a w := by
  obtain ⟨hg, x, ho, hx⟩ := h0
  exact wpList_load_mid hg 42 x ho b o hx t.row _ hc Try.underlying42 rfl item_size h
theorem wpl_new_item {c : Array Value} {t : It} (h0 : op.guard = none ∧ ∃ x y, op.op = .store 42 x y ∧ a.eval x = .pointer (some ⟨w.heap.size, 0, none⟩) ∧ a.eval y = .agg #[.int .i64 t.k, .bool t.r.sd, .int .u32 (t.r.so : Nat), .int .u32 (t.r.i0 : Nat), .int .u32 (t.r.i1 : Nat), .int .u32 (t.r.i2 : Nat), .int .u32 (t.r.i3 : Nat), .int .u32 (t.r.i4 : Nat), (.slice t.ra t.r.bl.length t.rc), .int .i64 t.m.k, .int .u32 (t.m.se : Nat), .int .u32 (t.m.me : Nat), (.slice t.aa t.m.ak.length t.ac), (.slice t.la t.m.lo.length t.lc), .int .u8 (t.c.1 : Nat), .int .u8 (t.c.2.1 : Nat), (.slice t.ca t.c.2.2.length t.cc)]) (hs : c.size = 17)
    (h : wpList Try.prog ops Q rest (a.put op.dst undef) (w.alloc (.cells #[.int .i64 t.k, .bool t.r.sd, .int .u32 (t.r.so : Nat), .int .u32 (t.r.i0 : Nat), .int .u32 (t.r.i1 : Nat), .int .u32 (t.r.i2 : Nat), .int .u32 (t.r.i3 : Nat), .int .u32 (t.r.i4 : Nat), (.slice t.ra t.r.bl.length t.rc), .int .i64 t.m.k, .int .u32 (t.m.se : Nat), .int .u32 (t.m.me : Nat), (.slice t.aa t.m.ak.length t.ac), (.slice t.la t.m.lo.length t.lc), .int .u8 (t.c.1 : Nat), .int .u8 (t.c.2.1 : Nat), (.slice t.ca t.c.2.2.length t.cc)] 42))) : wpList Try.prog ops Q (op :: rest) a (w.alloc (.cells c 42)) := by
  obtain ⟨hg, x, y, ho, hx, hy⟩ := h0
  refine wpList_store_row hg 42 x y ho w.heap.size #[.int .i64 t.k, .bool t.r.sd, .int .u32 (t.r.so : Nat), .int .u32 (t.r.i0 : Nat), .int .u32 (t.r.i1 : Nat), .int .u32 (t.r.i2 : Nat), .int .u32 (t.r.i3 : Nat), .int .u32 (t.r.i4 : Nat), (.slice t.ra t.r.bl.length t.rc), .int .i64 t.m.k, .int .u32 (t.m.se : Nat), .int .u32 (t.m.me : Nat), (.slice t.aa t.m.ak.length t.ac), (.slice t.la t.m.lo.length t.lc), .int .u8 (t.c.1 : Nat), .int .u8 (t.c.2.1 : Nat), (.slice t.ca t.c.2.2.length t.cc)] hx hy 42 c (heap_alloc_last w _) item_size hs (It.one t) ?_
  rw [World.setRow_alloc_new]
  exact h
/-- into a block that is there -/
theorem wpl_set_item {c : Array Value} {t : It} {g : Nat} (h0 : op.guard = none ∧ ∃ x y, op.op = .store 42 x y ∧ a.eval x = .pointer (some ⟨g, 0, none⟩) ∧ a.eval y = .agg #[.int .i64 t.k, .bool t.r.sd, .int .u32 (t.r.so : Nat), .int .u32 (t.r.i0 : Nat), .int .u32 (t.r.i1 : Nat), .int .u32 (t.r.i2 : Nat), .int .u32 (t.r.i3 : Nat), .int .u32 (t.r.i4 : Nat), (.slice t.ra t.r.bl.length t.rc), .int .i64 t.m.k, .int .u32 (t.m.se : Nat), .int .u32 (t.m.me : Nat), (.slice t.aa t.m.ak.length t.ac), (.slice t.la t.m.lo.length t.lc), .int .u8 (t.c.1 : Nat), .int .u8 (t.c.2.1 : Nat), (.slice t.ca t.c.2.2.length t.cc)]) (hs : c.size = 17)
    (hh : w.heap[g]? = some (.cells c 42 (0, 0)))
    (h : ∀ w', w'.heap[g]? = some (.cells t.row.toArray 42 (0, 0)) → Fr (F1 g) w w' → wpList Try.prog ops Q rest (a.put op.dst undef) w') : wpList Try.prog ops Q (op :: rest) a w := by
  obtain ⟨hg, x, y, ho, hx, hy⟩ := h0
  refine wpList_store_row hg 42 x y ho g #[.int .i64 t.k, .bool t.r.sd, .int .u32 (t.r.so : Nat), .int .u32 (t.r.i0 : Nat), .int .u32 (t.r.i1 : Nat), .int .u32 (t.r.i2 : Nat), .int .u32 (t.r.i3 : Nat), .int .u32 (t.r.i4 : Nat), (.slice t.ra t.r.bl.length t.rc), .int .i64 t.m.k, .int .u32 (t.m.se : Nat), .int .u32 (t.m.me : Nat), (.slice t.aa t.m.ak.length t.ac), (.slice t.la t.m.lo.length t.lc), .int .u8 (t.c.1 : Nat), .int .u8 (t.c.2.1 : Nat), (.slice t.ca t.c.2.2.length t.cc)] hx hy 42 c hh item_size hs (It.one t) ?_
  exact h _ (setRow_heap w g c _ _ _ hh) ⟨rfl, rfl, rfl, by simp [World.setRow], fun k _ hk => setRow_other w g k _ hk⟩
end
theorem ItS.range {w : World} {b o : Nat} {n c : Nat} {ts : List It} (h : ItS w (.slice (some ⟨b, o, none⟩) n c) ts) (i : Nat) (hi : i < ts.length) : w.rangeAt b (o + i * 17) ts[i].row := by
  obtain ⟨⟨A, c', he, _, _, hr⟩, _⟩ := h
  simp only [Value.slice.injEq] at he
  obtain ⟨b', o', hA, _, hc⟩ := hr (by simp; omega)
  rw [hA] at he
  simp only [Option.some.injEq, Addr.mk.injEq, and_true] at he
  obtain ⟨⟨rfl, rfl⟩, _⟩ := he
  exact fun j u hu => hc i (by simpa using hi) j u (by simpa using hu)
theorem BxI.range {w0 w : World} {b : Nat} {t : It} (h : BxI w0 b t w) : w.rangeAt b 0 t.row := fun j u hu => by
  rw [obj_cell h.x, Nat.zero_add]; simpa using hu
theorem box_range {w : World} {b : Nat} {t : It} {T : TypeId} (h : w.heap[b]? = some (.cells t.row.toArray T (0, 0))) : w.rangeAt b 0 t.row := fun j u hu => by
  rw [obj_cell h, Nat.zero_add]; simpa using hu
end Go.Proofs.Ytphofpemblindaa
