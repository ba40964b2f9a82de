/- Chunks that come in. -/
import Derived.Test.YtonkecfgopbclaaCk
namespace Go.Proofs.Ytonkecfgopbclaa
open Go.ChangeShapes Go.WideShapes Go.ChangeAt Go.RowKit Go.Deep

/-- a chunk's -/
def CV (w : World) (v : Value) (d : DC) : Prop := ∃ u, v = .agg #[.int .u8 (d.1 : Nat), .int .u8 (d.2.1 : Nat), u] ∧ BS w u d.2.2
theorem nat_u32 {n : Int} (h : (Lit.int .u32 n).wf = true) : ∃ z : Nat, n = (z : Int) ∧ z < 4294967296 := by
  have h0 := (fits_u32 h).lo
  have h1 := (fits_u32 h).hi
  exact ⟨n.toNat, by omega, by omega⟩
theorem nat_u8 {n : Int} (h : (Lit.int .u8 n).wf = true) : ∃ z : Nat, n = (z : Int) ∧ z < 256 := by
  have h0 := (fits_u8 h).lo
  have h1 := (fits_u8 h).hi
  exact ⟨n.toNat, by omega, by omega⟩
theorem open_chunk {H : Type} {enc : TypeId × Value → H} {W : World} {base : Nat} {v : Value} {d : DataW H} {p : List MemPlace}
    (hval : Value.okWide Try.prog W .any base 29 v)
    (h : DataW.Trod enc Try.prog W 0 (fun _ => true) true 29 v d p) : ∃ c : DC, CV W v c ∧ c.1 < 256 ∧ c.2.1 < 256 := by
  obtain ⟨cs, rfl, hsz⟩ := okWide_struct Try.underlying29 hval
  obtain ⟨fuel, hf⟩ := h
  have hc3 : Try.prog.cellsOf 29 = 3 := by kernel_rfl
  rw [hc3] at hsz
  obtain ⟨l, hl, rfl⟩ : ∃ l : List Value, l.length = 3 ∧ cs = l.toArray := ⟨cs.toList, by simpa using hsz, by simp⟩
  match l, hl with
  | [x0, x1, x2], _ =>
    obtain ⟨_, hh⟩ := fields_of_trod Try.underlying29 (by kernel_rfl) (by kernel_rfl) hf
    obtain ⟨v0, n0, y0, e0, s0⟩ := hh 0 _ rfl
    obtain ⟨v1, n1, y1, e1, s1⟩ := hh 1 _ rfl
    obtain ⟨v2, n2, y2, e2, s2⟩ := hh 2 _ rfl
    obtain ⟨z0, rfl, w0⟩ := int_of_trod Try.underlying5 s0
    obtain ⟨z1, rfl, w1⟩ := int_of_trod Try.underlying5 s1
    obtain ⟨l2, b2⟩ := bs_of_trod Try.underlying27 Try.underlying5 (by kernel_rfl) s2
    simp [Value.cells] at e0 e1 e2
    subst e0 e1 e2
    obtain ⟨n, rfl, g0⟩ := nat_u8 w0
    obtain ⟨y, rfl, g1⟩ := nat_u8 w1
    exact ⟨(n, y, l2), ⟨_, rfl, b2⟩, g0, g1⟩
end Go.Proofs.Ytonkecfgopbclaa
