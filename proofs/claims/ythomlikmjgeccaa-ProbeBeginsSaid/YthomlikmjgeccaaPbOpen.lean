/- A description that comes in. -/
import Derived.Test.YthomlikmjgeccaaRows8
import Derived.Test.YthomlikmjgeccaaPb
namespace Go.Proofs.Ythomlikmjgeccaa
open Go.ChangeShapes Go.WideShapes Go.ChangeAt Go.RowKit

theorem open_desc {H : Type} {enc : TypeId × Value → H} {W : World} {base : Nat} {v : Value} {d : DataW H} {p : List MemPlace}
    (hval : Value.okWide Try.prog W .any base 23 v)
    (h : DataW.Trod enc Try.prog W 0 (fun _ => true) true 23 v d p) : ∃ d : DD, v = d.val := by
  obtain ⟨cs, rfl, hsz⟩ := okWide_struct Try.underlying23 hval
  obtain ⟨fuel, hf⟩ := h
  have hc9 : Try.prog.cellsOf 23 = 9 := by kernel_rfl
  rw [hc9] at hsz
  obtain ⟨l, hl, rfl⟩ : ∃ l : List Value, l.length = 9 ∧ cs = l.toArray := ⟨cs.toList, by simpa using hsz, by simp⟩
  match l, hl with
  | [x0, x1, x2, x3, x4, x5, x6, x7, x8], _ =>
    obtain ⟨_, hh⟩ := fields_of_trod Try.underlying23 (by kernel_rfl) (by kernel_rfl) hf
    obtain ⟨v0, n0, y0, e0, s0⟩ := hh 0 _ rfl
    obtain ⟨v1, n1, y1, e1, s1⟩ := hh 1 _ rfl
    obtain ⟨v2, n2, y2, e2, s2⟩ := hh 2 _ rfl
    obtain ⟨v3, n3, y3, e3, s3⟩ := hh 3 _ rfl
    obtain ⟨v4, n4, y4, e4, s4⟩ := hh 4 _ rfl
    obtain ⟨v5, n5, y5, e5, s5⟩ := hh 5 _ rfl
    obtain ⟨v6, n6, y6, e6, s6⟩ := hh 6 _ rfl
    obtain ⟨v7, n7, y7, e7, s7⟩ := hh 7 _ rfl
    obtain ⟨v8, n8, y8, e8, s8⟩ := hh 8 _ rfl
    obtain ⟨b0, rfl⟩ := bool_of_trod Try.underlying4 s0
    obtain ⟨b1, rfl⟩ := bool_of_trod Try.underlying4 s1
    obtain ⟨z2, rfl, w2⟩ := int_of_trod Try.underlying5 s2
    obtain ⟨z3, rfl, w3⟩ := int_of_trod Try.underlying3 s3
    obtain ⟨b4, rfl⟩ := bool_of_trod Try.underlying4 s4
    obtain ⟨z5, rfl, w5⟩ := int_of_trod Try.underlying3 s5
    obtain ⟨z6, rfl, w6⟩ := int_of_trod Try.underlying3 s6
    obtain ⟨b7, rfl⟩ := bool_of_trod Try.underlying4 s7
    obtain ⟨z8, rfl, w8⟩ := int_of_trod Try.underlying3 s8
    simp [Value.cells] at e0 e1 e2 e3 e4 e5 e6 e7 e8
    subst e0 e1 e2 e3 e4 e5 e6 e7 e8
    obtain ⟨m, rfl⟩ := Int.eq_ofNat_of_zero_le (fits_u8 w2).lo
    exact ⟨⟨b0, b1, m, z3, b4, z5, z6, b7, z8⟩, rfl⟩
end Go.Proofs.Ythomlikmjgeccaa
