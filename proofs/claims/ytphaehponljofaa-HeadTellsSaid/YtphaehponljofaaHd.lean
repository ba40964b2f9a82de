/- Packets as data: what a packet's value reads as; its bytes; what may be. -/
import Derived.Test.YtphaehponljofaaRows8
import Derived.Test.YtphaehponljofaaBBytes
namespace Go.Proofs.Ytphaehponljofaa
open Go.ChangeShapes Go.WideShapes Go.ChangeAt Go.RowKit Go.Deep

/-- a packet -/
structure PD where
  m : Bool
  ty : Nat
  seq : Nat
  st : Nat
  so : Nat
  srcs : List Nat
  has : Bool
  prof : Nat
  ex : List UInt8
  pl : List UInt8
/-- the zero one -/
def PD.zero : PD := ⟨false, 0, 0, 0, 0, [], false, 0, [], []⟩
structure PD.Wf (d : PD) : Prop where
  ty : d.ty < 256
  seq : d.seq < 65536
  st : d.st < 4294967296
  so : d.so < 4294967296
  srcs : ∀ z ∈ d.srcs, z < 4294967296
  prof : d.prof < 65536
/-- of so few sources and bytes -/
structure PD.Few (d : PD) : Prop where
  srcs : d.srcs.length ≤ 40
  ex : d.ex.length ≤ 1000
  pl : d.pl.length ≤ 1000
def nums (l : List Nat) : List Value := l.map fun n => .int .u32 (n : Nat)
theorem nums_len (l : List Nat) : (nums l).length = l.length := by simp [nums]
/-- a packet's value, by its slices -/
def pcells (d : PD) (vs ve vp : Value) : Value :=
  .agg #[.bool d.m, .int .u8 (d.ty : Nat), .int .u16 (d.seq : Nat), .int .u32 (d.st : Nat), .int .u32 (d.so : Nat), vs, .bool d.has, .int .u16 (d.prof : Nat), ve, vp]
def PV (w : World) (v : Value) (d : PD) : Prop := ∃ vs ve vp, v = pcells d vs ve vp ∧ SV w vs (nums d.srcs) ∧ BS w ve d.ex ∧ BS w vp d.pl
/-- one whose slices lie in some blocks -/
def PVx (G : Nat → Prop) (w : World) (v : Value) (d : PD) : Prop := ∃ vs ve vp, v = pcells d vs ve vp ∧ SVx G w vs (nums d.srcs) ∧ BSx G w ve d.ex ∧ BSx G w vp d.pl
theorem PVx.pv {G : Nat → Prop} {w : World} {v : Value} {d : PD} (h : PVx G w v d) : PV w v d := by
  obtain ⟨vs, ve, vp, rfl, h1, h2, h3⟩ := h
  exact ⟨vs, ve, vp, rfl, h1.1, h2.1, h3.1⟩
theorem PVx.fr {G F : Nat → Prop} {w w' : World} {v : Value} {d : PD} (h : PVx G w v d) (hf : Fr F w w') (hG : ∀ k, k < w.heap.size → G k → ¬ F k) : PVx G w' v d := by
  obtain ⟨vs, ve, vp, rfl, h1, h2, h3⟩ := h
  exact ⟨vs, ve, vp, rfl, h1.fr hf hG, h2.fr hf hG, h3.fr hf hG⟩
theorem PVx.mono {G G' : Nat → Prop} {w : World} {v : Value} {d : PD} (h : PVx G w v d) (hG : ∀ k, k < w.heap.size → G k → G' k) : PVx G' w v d := by
  obtain ⟨vs, ve, vp, rfl, h1, h2, h3⟩ := h
  exact ⟨vs, ve, vp, rfl, h1.mono hG, h2.mono hG, h3.mono hG⟩
theorem PVx.below {G : Nat → Prop} {w w' : World} {v : Value} {d : PD} (h : PVx G w v d) (hb : Below w.heap.size w w') : PVx G w' v d := h.fr (Fr.of hb) (fun _ _ _ h => h)
theorem PV.below {w w' : World} {v : Value} {d : PD} (h : PV w v d) (hb : Below w.heap.size w w') : PV w' v d := by
  obtain ⟨vs, ve, vp, rfl, h1, h2, h3⟩ := h
  exact ⟨vs, ve, vp, rfl, h1.below hb, h2.below hb, h3.below hb⟩
theorem sv_parts {w : World} {v : Value} {l : List Nat} (h : SV w v (nums l)) : ∃ A c, v = .slice A l.length c ∧ l.length ≤ c ∧ c ≤ 9223372036854775807 ∧ RowV w A (nums l) := by
  obtain ⟨A, c, rfl, h1, h2, h3⟩ := h
  rw [nums_len] at *
  exact ⟨A, c, rfl, h1, by unfold maxLen at h2; omega, h3⟩
theorem PV.parts {w : World} {v : Value} {d : PD} (h : PV w v d) : ∃ As cs Ae ce Ap cp, v = pcells d (.slice As d.srcs.length cs) (.slice Ae d.ex.length ce) (.slice Ap d.pl.length cp) ∧
    (d.srcs.length ≤ cs ∧ cs ≤ 9223372036854775807 ∧ RowV w As (nums d.srcs)) ∧ (d.ex.length ≤ ce ∧ ce ≤ 9223372036854775807 ∧ Row8 w Ae d.ex) ∧ (d.pl.length ≤ cp ∧ cp ≤ 9223372036854775807 ∧ Row8 w Ap d.pl) := by
  obtain ⟨vs, ve, vp, rfl, h1, h2, h3⟩ := h
  obtain ⟨As, cs, rfl, a1, a2, a3⟩ := sv_parts h1
  obtain ⟨Ae, ce, rfl, b1, b2, b3⟩ := bs_parts h2
  obtain ⟨Ap, cp, rfl, c1, c2, c3⟩ := bs_parts h3
  exact ⟨As, cs, Ae, ce, Ap, cp, rfl, ⟨a1, a2, a3⟩, ⟨b1, b2, b3⟩, c1, c2, c3⟩
theorem PV.mk {w : World} {d : PD} {As Ae Ap : Option Addr} {cs ce cp : Nat} (a : d.srcs.length ≤ cs ∧ cs ≤ 9223372036854775807 ∧ RowV w As (nums d.srcs)) (b : d.ex.length ≤ ce ∧ ce ≤ 9223372036854775807 ∧ Row8 w Ae d.ex)
    (c : d.pl.length ≤ cp ∧ cp ≤ 9223372036854775807 ∧ Row8 w Ap d.pl) : PV w (pcells d (.slice As d.srcs.length cs) (.slice Ae d.ex.length ce) (.slice Ap d.pl.length cp)) d :=
  ⟨_, _, _, rfl, ⟨As, cs, by rw [nums_len], by rw [nums_len]; exact a.1, by unfold maxLen; omega, a.2.2⟩, ⟨Ae, ce, rfl, b.1, by unfold maxLen; omega, b.2.2⟩, ⟨Ap, cp, rfl, c.1, by unfold maxLen; omega, c.2.2⟩⟩
/-- how many bytes; may it be? -/
def PD.size (d : PD) : Nat := 12 + 4 * d.srcs.length + d.ex.length + d.pl.length + (if d.has then 4 else 0)
def rightB (d : PD) : Bool :=
  decide (d.ty ≤ 127 ∧ d.srcs.length ≤ 15 ∧ d.ex.length % 4 = 0 ∧ (d.has = true ∨ (d.prof = 0 ∧ d.ex.length = 0)) ∧ d.size ≤ 200)
structure PD.Right (d : PD) : Prop where
  ty : d.ty ≤ 127
  srcs : d.srcs.length ≤ 15
  ex : d.ex.length % 4 = 0
  has : d.has = true ∨ (d.prof = 0 ∧ d.ex.length = 0)
  size : d.size ≤ 200
theorem right_iff {d : PD} : rightB d = true ↔ d.Right := by
  unfold rightB
  rw [decide_eq_true_eq]
  exact ⟨fun ⟨a, b, c, e, f⟩ => ⟨a, b, c, e, f⟩, fun ⟨a, b, c, e, f⟩ => ⟨a, b, c, e, f⟩⟩
/-- its bytes -/
def one (d : PD) : Nat := 128 + d.srcs.length + (if d.has then 16 else 0)
def two (d : PD) : Nat := d.ty + (if d.m then 128 else 0)
def srcB (l : List Nat) : List UInt8 := l.flatMap fun n => bytesL n 4
def headB (d : PD) : List UInt8 := [UInt8.ofNat (one d), UInt8.ofNat (two d)] ++ bytesL d.seq 2 ++ bytesL d.st 4 ++ bytesL d.so 4
def extB (d : PD) : List UInt8 := if d.has then bytesL d.prof 2 ++ bytesL (d.ex.length / 4) 2 ++ d.ex else []
def encP (d : PD) : List UInt8 := headB d ++ srcB d.srcs ++ extB d ++ d.pl
theorem srcB_len (l : List Nat) : (srcB l).length = 4 * l.length := by
  induction l with
  | nil => rfl
  | cons a l ih =>
    have : srcB (a :: l) = bytesL a 4 ++ srcB l := rfl
    rw [this, List.length_append, bytesL_len, ih, List.length_cons]; omega
theorem headB_len (d : PD) : (headB d).length = 12 := by simp [headB, bytesL_len]
theorem encP_len (d : PD) : (encP d).length = (if d.has then d.size else d.size - d.ex.length) := by
  unfold encP PD.size extB
  simp only [List.length_append, headB_len, srcB_len]
  split
  · simp only [List.length_append, bytesL_len]; omega
  · simp only [List.length_nil]; omega
/-- are they the same? -/
def sameB (a b : PD) : Bool :=
  a.m == b.m && a.ty == b.ty && a.seq == b.seq && a.st == b.st && a.so == b.so && a.has == b.has && a.prof == b.prof && a.srcs == b.srcs && a.ex == b.ex && a.pl == b.pl
theorem sameB_iff {a b : PD} : sameB a b = true ↔ a = b := by
  cases a; cases b
  simp [sameB]
  constructor <;> (intro h; simp_all)
/-! ### one that comes in -/
theorem sv_nums {w : World} {v : Value} {zs : List Int} (h : SV w v (ints .u32 zs)) (hz : ∀ z ∈ zs, (Lit.int .u32 z).wf = true) : ∃ l : List Nat, SV w v (nums l) ∧ ∀ z ∈ l, z < 4294967296 := by
  refine ⟨zs.map Int.toNat, ?_, fun z hz' => ?_⟩
  · have : nums (zs.map Int.toNat) = ints .u32 zs := by
      unfold nums ints
      rw [List.map_map]
      refine List.map_congr_left fun z hz' => ?_
      have h1 := (fits_u32 (hz z hz')).lo
      simp only [Function.comp]
      congr 1; omega
    rw [this]; exact h
  · obtain ⟨x, hx, rfl⟩ := List.mem_map.1 hz'
    have h1 := (fits_u32 (hz x hx)).lo
    have h2 := (fits_u32 (hz x hx)).hi
    omega
section
variable {H : Type} {enc : TypeId × Value → H} {w : World} {base : Nat} {spare : Nat → Bool} {held : Bool}
theorem nums_of_trod {v : Value} {fuel : Nat} {x : DataW H × List MemPlace} (h : DataW.trod enc Try.prog w base spare held fuel 26 [v] = some x) : ∃ l : List Nat, SV w v (nums l) ∧ ∀ z ∈ l, z < 4294967296 := by
  obtain ⟨rs, ⟨A, c, rfl, hl, hm, hr⟩, hall⟩ := rows_of_trod Try.underlying26 (k := 1) (by kernel_rfl) (by decide) h
  have hone : ∀ r ∈ rs, ∃ z : Nat, z < 4294967296 ∧ r = [.int .u32 (z : Nat)] := fun r hr => by
    obtain ⟨n, y, hy⟩ := hall r hr
    obtain ⟨z, hz, _, hw⟩ := DataW.trod_int Try.underlying23 hy
    have h1 := (fits_u32 hw).lo
    have h2 := (fits_u32 hw).hi
    exact ⟨z.toNat, by omega, by rw [hz]; congr 2; omega⟩
  let g : List Value → Nat := fun r => match r with | [.int _ z] => z.toNat | _ => 0
  have hgl : (rs.map g).length = rs.length := by simp
  refine ⟨rs.map g, ⟨A, c, by rw [nums_len, hgl], by rw [nums_len, hgl]; exact hl, hm, fun hp => ?_⟩, fun z hz => ?_⟩
  · rw [nums_len, hgl] at hp
    obtain ⟨b, o, rfl, hb, hcell⟩ := hr hp
    refine ⟨b, o, rfl, hb, fun j hj => ?_⟩
    rw [nums_len, hgl] at hj
    obtain ⟨z, hz, hrj⟩ := hone _ (List.getElem_mem hj)
    have := hcell j hj 0 (.int .u32 z) (by rw [hrj]; rfl)
    rw [Nat.mul_one, Nat.add_zero] at this
    rw [this]
    simp only [nums, List.getElem_map, hrj]
    rfl
  · obtain ⟨r, hr', rfl⟩ := List.mem_map.1 hz
    obtain ⟨z, hz, rfl⟩ := hone r hr'
    show ((z : Nat) : Int).toNat < 4294967296
    omega
end
theorem open_packet {H : Type} {enc : TypeId × Value → H} {W : World} {base : Nat} {v : Value} {d : DataW H} {p : List MemPlace}
    (hval : Value.okWide Try.prog W .any base 29 v)
    (h : DataW.Trod enc Try.prog W 0 (fun _ => true) true 29 v d p) : ∃ d, PV W v d ∧ d.Wf := by
  obtain ⟨cs, rfl, hsz⟩ := okWide_struct Try.underlying29 hval
  obtain ⟨fuel, hf⟩ := h
  have hc10 : Try.prog.cellsOf 29 = 10 := by kernel_rfl
  rw [hc10] at hsz
  obtain ⟨l, hl, rfl⟩ : ∃ l : List Value, l.length = 10 ∧ cs = l.toArray := ⟨cs.toList, by simpa using hsz, by simp⟩
  match l, hl with
  | [x0, x1, x2, x3, x4, x5, x6, x7, x8, x9], _ =>
    obtain ⟨xs, n, _, _, _, hxl, hfs⟩ := DataW.trod_struct Try.underlying29 hf
    have k0 : Try.prog.cellsOf 25 = 5 := by kernel_rfl
    have k1 : Try.prog.cellsOf 26 = 1 := by kernel_rfl
    have k2 : Try.prog.cellsOf 4 = 1 := by kernel_rfl
    have k3 : Try.prog.cellsOf 22 = 1 := by kernel_rfl
    have k4 : Try.prog.cellsOf 27 = 1 := by kernel_rfl
    match xs, hxl with
    | [y0, y1, y2, y3, y4, y5], _ =>
    have t0 := hfs 0 _ rfl
    have t1 := hfs 1 _ rfl
    have t2 := hfs 2 _ rfl
    have t3 := hfs 3 _ rfl
    have t4 := hfs 4 _ rfl
    have t5 := hfs 5 _ rfl
    simp [k0, Value.cells] at t0
    simp [k1, Value.cells] at t1
    simp [k2, Value.cells] at t2
    simp [k3, Value.cells] at t3
    simp [k4, Value.cells] at t4 t5
    obtain ⟨_, hh⟩ := fields_of_trod Try.underlying25 (by kernel_rfl) (by kernel_rfl) t0
    obtain ⟨v0, n0, y0, e0, s0⟩ := hh 0 _ rfl
    obtain ⟨v1, n1, y1, e1, s1⟩ := hh 1 _ rfl
    obtain ⟨v2, n2, y2, e2, s2⟩ := hh 2 _ rfl
    obtain ⟨v3, n3, y3, e3, s3⟩ := hh 3 _ rfl
    obtain ⟨v4, n4, y4, e4, s4⟩ := hh 4 _ rfl
    obtain ⟨b0, rfl⟩ := bool_of_trod Try.underlying4 s0
    obtain ⟨z1, rfl, w1⟩ := int_of_trod Try.underlying5 s1
    obtain ⟨z2, rfl, w2⟩ := int_of_trod Try.underlying22 s2
    obtain ⟨z3, rfl, w3⟩ := int_of_trod Try.underlying23 s3
    obtain ⟨z4, rfl, w4⟩ := int_of_trod Try.underlying23 s4
    simp at e0 e1 e2 e3 e4
    subst e0 e1 e2 e3 e4
    obtain ⟨b6, rfl⟩ := bool_of_trod Try.underlying4 t2
    obtain ⟨z7, rfl, w7⟩ := int_of_trod Try.underlying22 t3
    obtain ⟨l5, h5, q5⟩ := nums_of_trod t1
    obtain ⟨l8, h8⟩ := bs_of_trod Try.underlying27 Try.underlying5 (by kernel_rfl) t4
    obtain ⟨l9, h9⟩ := bs_of_trod Try.underlying27 Try.underlying5 (by kernel_rfl) t5
    have f1 := fits_u8 w1
    have f2 := fits_u16 w2
    have f3 := fits_u32 w3
    have f4 := fits_u32 w4
    have f7 := fits_u16 w7
    obtain ⟨z1, rfl⟩ := Int.eq_ofNat_of_zero_le f1.lo
    obtain ⟨z2, rfl⟩ := Int.eq_ofNat_of_zero_le f2.lo
    obtain ⟨z3, rfl⟩ := Int.eq_ofNat_of_zero_le f3.lo
    obtain ⟨z4, rfl⟩ := Int.eq_ofNat_of_zero_le f4.lo
    obtain ⟨z7, rfl⟩ := Int.eq_ofNat_of_zero_le f7.lo
    have := f1.hi; have := f2.hi; have := f3.hi; have := f4.hi; have := f7.hi
    exact ⟨⟨b0, z1, z2, z3, z4, l5, b6, z7, l8, l9⟩, ⟨_, _, _, rfl, h5, h8, h9⟩, ⟨by show z1 < 256; omega, by show z2 < 65536; omega, by show z3 < 4294967296; omega, by show z4 < 4294967296; omega, q5, by show z7 < 65536; omega⟩⟩
end Go.Proofs.Ytphaehponljofaa
