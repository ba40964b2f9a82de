/- Reports and chunks that come in. -/
import Derived.Test.YthgajlmhgbhmlaaRpRd
namespace Go.Proofs.Ythgajlmhgbhmlaa
open Go.ChangeShapes Go.WideShapes Go.ChangeAt Go.RowKit Go.Deep

/-- a report's value, read in a world -/
def RV (w : World) (v : Value) (r : DR) : Prop := ∃ u, v = rval r u ∧ BlS w u r.bl
/-- a chunk's -/
def CV (w : World) (v : Value) (d : DC) : Prop := ∃ u, v = .agg #[.int .u8 (d.1 : Nat), .int .u8 (d.2.1 : Nat), u] ∧ BS w u d.2.2
section
variable {H : Type} {enc : TypeId × Value → H} {w : World} {base : Nat} {spare : Nat → Bool} {held : Bool}
theorem nat_u32 {n : Int} (h : (Lit.int .u32 n).wf = true) : ∃ z : Nat, n = (z : Int) ∧ z < 4294967296 := by
  have h0 := (fits_u32 h).lo
  have h1 := (fits_u32 h).hi
  exact ⟨n.toNat, by omega, by omega⟩
theorem nat_u8 {n : Int} (h : (Lit.int .u8 n).wf = true) : ∃ z : Nat, n = (z : Int) ∧ z < 256 := by
  have h0 := (fits_u8 h).lo
  have h1 := (fits_u8 h).hi
  exact ⟨n.toNat, by omega, by omega⟩
theorem rng_i32 {n : Int} (h : (Lit.int .i32 n).wf = true) : -2147483648 ≤ n ∧ n ≤ 2147483647 := by
  simpa [Lit.wf, IntKind.min, IntKind.max, IntKind.bits, IntKind.signed] using h
theorem blocks_of_trod {v : Value} {fuel : Nat} {x : DataW H × List MemPlace} (h : DataW.trod enc Try.prog w base spare held fuel 25 [v] = some x) : ∃ bs, BlS w v bs := by
  obtain ⟨rs, hr, hall⟩ := rows_of_trod Try.underlying25 (k := 7) (by kernel_rfl) (by decide) h
  have h1 : ∀ r ∈ rs, ∃ b : DB, r = b.row ∧ b.Ok := fun r hr => by
    obtain ⟨n, y, hy⟩ := hall r hr
    obtain ⟨hl, hfs⟩ := fields_of_trod Try.underlying56 (by kernel_rfl) (by kernel_rfl) hy
    obtain ⟨v0, n0, y0, e0, t0⟩ := hfs 0 _ rfl
    obtain ⟨v1, n1, y1, e1, t1⟩ := hfs 1 _ rfl
    obtain ⟨v2, n2, y2, e2, t2⟩ := hfs 2 _ rfl
    obtain ⟨v3, n3, y3, e3, t3⟩ := hfs 3 _ rfl
    obtain ⟨v4, n4, y4, e4, t4⟩ := hfs 4 _ rfl
    obtain ⟨v5, n5, y5, e5, t5⟩ := hfs 5 _ rfl
    obtain ⟨v6, n6, y6, e6, t6⟩ := hfs 6 _ rfl
    obtain ⟨z0, rfl, w0⟩ := int_of_trod Try.underlying22 t0
    obtain ⟨z1, rfl, w1⟩ := int_of_trod Try.underlying5 t1
    obtain ⟨z2, rfl, w2⟩ := int_of_trod Try.underlying21 t2
    obtain ⟨z3, rfl, w3⟩ := int_of_trod Try.underlying22 t3
    obtain ⟨z4, rfl, w4⟩ := int_of_trod Try.underlying22 t4
    obtain ⟨z5, rfl, w5⟩ := int_of_trod Try.underlying22 t5
    obtain ⟨z6, rfl, w6⟩ := int_of_trod Try.underlying22 t6
    obtain ⟨s, rfl, f0⟩ := nat_u32 w0
    obtain ⟨p, rfl, f1⟩ := nat_u8 w1
    have f2 := rng_i32 w2
    obtain ⟨h, rfl, f3⟩ := nat_u32 w3
    obtain ⟨j, rfl, f4⟩ := nat_u32 w4
    obtain ⟨l, rfl, f5⟩ := nat_u32 w5
    obtain ⟨d, rfl, f6⟩ := nat_u32 w6
    refine ⟨⟨s, p, z2, h, j, l, d⟩, ?_, ⟨f0, f1, f2.1, f2.2, f3, f4, f5, f6⟩⟩
    have hl7 : r.length = 7 := hl
    match r, hl7 with
    | [a0, a1, a2, a3, a4, a5, a6], _ =>
      simp at e0 e1 e2 e3 e4 e5 e6
      simp [DB.row, e0, e1, e2, e3, e4, e5, e6]
  have h2 : ∃ bs : List DB, rs = bs.map DB.row ∧ ∀ b ∈ bs, b.Ok := by
    clear hr hall
    induction rs with
    | nil => exact ⟨[], rfl, by simp⟩
    | cons r rs ih =>
      obtain ⟨bs, rfl, hb⟩ := ih (fun r hr => h1 r (List.mem_cons_of_mem _ hr))
      obtain ⟨b, rfl, hok⟩ := h1 r (List.mem_cons_self ..)
      refine ⟨b :: bs, rfl, fun x hx => ?_⟩
      rcases List.mem_cons.1 hx with rfl | hx
      · exact hok
      · exact hb x hx
  obtain ⟨bs, rfl, hok⟩ := h2
  exact ⟨bs, hr, hok⟩
end
theorem open_report {H : Type} {enc : TypeId × Value → H} {W : World} {base : Nat} {v : Value} {d : DataW H} {p : List MemPlace}
    (hval : Value.okWide Try.prog W .any base 27 v)
    (h : DataW.Trod enc Try.prog W 0 (fun _ => true) true 27 v d p) : ∃ r, RV W v r ∧ r.Ok := by
  obtain ⟨cs, rfl, hsz⟩ := okWide_struct Try.underlying27 hval
  obtain ⟨fuel, hf⟩ := h
  have hc8 : Try.prog.cellsOf 27 = 8 := by kernel_rfl
  rw [hc8] at hsz
  obtain ⟨l, hl, rfl⟩ : ∃ l : List Value, l.length = 8 ∧ cs = l.toArray := ⟨cs.toList, by simpa using hsz, by simp⟩
  match l, hl with
  | [x0, x1, x2, x3, x4, x5, x6, x7], _ =>
    obtain ⟨xs, n, _, _, _, hxl, hfs⟩ := DataW.trod_struct Try.underlying27 hf
    have k0 : Try.prog.cellsOf 4 = 1 := by kernel_rfl
    have k1 : Try.prog.cellsOf 22 = 1 := by kernel_rfl
    have k2 : Try.prog.cellsOf 24 = 5 := by kernel_rfl
    have k3 : Try.prog.cellsOf 25 = 1 := by kernel_rfl
    match xs, hxl with
    | [y0, y1, y2, y3], _ =>
    have t0 := hfs 0 _ rfl
    have t1 := hfs 1 _ rfl
    have t2 := hfs 2 _ rfl
    have t3 := hfs 3 _ rfl
    simp [k0, Value.cells] at t0
    simp [k1, Value.cells] at t1
    simp [k2, Value.cells] at t2
    simp [k3, Value.cells] at t3
    obtain ⟨b0, rfl⟩ := bool_of_trod Try.underlying4 t0
    obtain ⟨z1, rfl, w1⟩ := int_of_trod Try.underlying22 t1
    obtain ⟨_, hh⟩ := fields_of_trod Try.underlying24 (by kernel_rfl) (by kernel_rfl) t2
    obtain ⟨v0, n0, y0, e0, s0⟩ := hh 0 _ rfl
    obtain ⟨v1, n1, y1, e1, s1⟩ := hh 1 _ rfl
    obtain ⟨v2, n2, y2, e2, s2⟩ := hh 2 _ rfl
    obtain ⟨v3, n3, y3, e3, s3⟩ := hh 3 _ rfl
    obtain ⟨v4, n4, y4, e4, s4⟩ := hh 4 _ rfl
    obtain ⟨a0, rfl, f0⟩ := int_of_trod Try.underlying22 s0
    obtain ⟨a1, rfl, f1⟩ := int_of_trod Try.underlying22 s1
    obtain ⟨a2, rfl, f2⟩ := int_of_trod Try.underlying22 s2
    obtain ⟨a3, rfl, f3⟩ := int_of_trod Try.underlying22 s3
    obtain ⟨a4, rfl, f4⟩ := int_of_trod Try.underlying22 s4
    simp at e0 e1 e2 e3 e4
    subst e0 e1 e2 e3 e4
    obtain ⟨bs, hbs⟩ := blocks_of_trod t3
    obtain ⟨so, rfl, g1⟩ := nat_u32 w1
    obtain ⟨i0, rfl, q0⟩ := nat_u32 f0
    obtain ⟨i1, rfl, q1⟩ := nat_u32 f1
    obtain ⟨i2, rfl, q2⟩ := nat_u32 f2
    obtain ⟨i3, rfl, q3⟩ := nat_u32 f3
    obtain ⟨i4, rfl, q4⟩ := nat_u32 f4
    exact ⟨⟨b0, so, i0, i1, i2, i3, i4, bs⟩, ⟨_, rfl, hbs⟩, ⟨g1, q0, q1, q2, q3, q4, hbs.2⟩⟩
theorem open_chunk {H : Type} {enc : TypeId × Value → H} {W : World} {base : Nat} {v : Value} {d : DataW H} {p : List MemPlace}
    (hval : Value.okWide Try.prog W .any base 30 v)
    (h : DataW.Trod enc Try.prog W 0 (fun _ => true) true 30 v d p) : ∃ c : DC, CV W v c ∧ c.1 < 256 ∧ c.2.1 < 256 := by
  obtain ⟨cs, rfl, hsz⟩ := okWide_struct Try.underlying30 hval
  obtain ⟨fuel, hf⟩ := h
  have hc3 : Try.prog.cellsOf 30 = 3 := by kernel_rfl
  rw [hc3] at hsz
  obtain ⟨l, hl, rfl⟩ : ∃ l : List Value, l.length = 3 ∧ cs = l.toArray := ⟨cs.toList, by simpa using hsz, by simp⟩
  match l, hl with
  | [x0, x1, x2], _ =>
    obtain ⟨_, hh⟩ := fields_of_trod Try.underlying30 (by kernel_rfl) (by kernel_rfl) hf
    obtain ⟨v0, n0, y0, e0, s0⟩ := hh 0 _ rfl
    obtain ⟨v1, n1, y1, e1, s1⟩ := hh 1 _ rfl
    obtain ⟨v2, n2, y2, e2, s2⟩ := hh 2 _ rfl
    obtain ⟨z0, rfl, w0⟩ := int_of_trod Try.underlying5 s0
    obtain ⟨z1, rfl, w1⟩ := int_of_trod Try.underlying5 s1
    obtain ⟨l2, b2⟩ := bs_of_trod Try.underlying28 Try.underlying5 (by kernel_rfl) s2
    simp [Value.cells] at e0 e1 e2
    subst e0 e1 e2
    obtain ⟨n, rfl, g0⟩ := nat_u8 w0
    obtain ⟨y, rfl, g1⟩ := nat_u8 w1
    exact ⟨(n, y, l2), ⟨_, rfl, b2⟩, g0, g1⟩
end Go.Proofs.Ythgajlmhgbhmlaa
