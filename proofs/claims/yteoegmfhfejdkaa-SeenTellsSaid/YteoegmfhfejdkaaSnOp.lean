/- A window that comes in. -/
import Derived.Test.YteoegmfhfejdkaaRows8
import Derived.Test.YteoegmfhfejdkaaSnC
import Derived.Test.YteoegmfhfejdkaaOpen
namespace Go.Proofs.Yteoegmfhfejdkaa
open Go.ChangeShapes Go.WideShapes Go.ChangeAt Go.RowKit

/-- a window as data -/
structure DW where
  h : Int
  b : Nat
/-- a value is a window -/
def OkW (v : Value) (d : DW) : Prop := v = snV d.h d.b ∧ d.b < 18446744073709551616
theorem open_win {H : Type} {enc : TypeId × Value → H} {W : World} {base : Nat} {v : Value} {d : DataW H} {p : List MemPlace}
    (hval : Value.okWide Try.prog W .any base 24 v)
    (h : DataW.Trod enc Try.prog W 0 (fun _ => true) true 24 v d p) : ∃ d : DW, OkW v d := by
  obtain ⟨cs, rfl, hsz⟩ := okWide_struct Try.underlying24 hval
  obtain ⟨fuel, hf⟩ := h
  have hc2 : Try.prog.cellsOf 24 = 2 := by kernel_rfl
  rw [hc2] at hsz
  obtain ⟨l, hl, rfl⟩ : ∃ l : List Value, l.length = 2 ∧ cs = l.toArray := ⟨cs.toList, by simpa using hsz, by simp⟩
  match l, hl with
  | [x0, x1], _ =>
    obtain ⟨_, hh⟩ := fields_of_trod Try.underlying24 (by kernel_rfl) (by kernel_rfl) hf
    obtain ⟨v0, n0, y0, e0, s0⟩ := hh 0 _ rfl
    obtain ⟨v1, n1, y1, e1, s1⟩ := hh 1 _ rfl
    obtain ⟨z0, rfl, w0⟩ := int_of_trod Try.underlying2 s0
    obtain ⟨z1, rfl, w1⟩ := int_of_trod Try.underlying22 s1
    simp [Value.cells] at e0 e1
    subst e0 e1
    have hu := u64_wf w1
    obtain ⟨m, rfl⟩ := Int.eq_ofNat_of_zero_le hu.lo
    have := hu.hi
    exact ⟨⟨z0, m⟩, rfl, by show m < _; omega⟩
end Go.Proofs.Yteoegmfhfejdkaa
