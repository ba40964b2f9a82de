/- The document's Same of bytes, its answer as a hypothesis. -/
import Derived.Test.YtonkecfgopbclaaBSame
namespace Go.Proofs.Ytonkecfgopbclaa
open Go.RowKit

theorem rsame_b (v u : Value) (l m : List UInt8) (w : World) (hv : BS w v l) (hu : BS w u m) :
    Calls Try.prog 46 #[v, u] w fun e w' => e = .returned (.bool (l == m)) ∧ Below w.heap.size w w' := by
  refine (rsame_any v u l m w hv hu).mono ?_
  rintro e w' ⟨rfl, n, rfl⟩
  exact ⟨rfl, below_drewN (Below.refl _ _) n⟩
theorem rsame_is {r : Bool} (v u : Value) (l m : List UInt8) (w : World) (hv : BS w v l) (hu : BS w u m) (h : (l == m) = r) :
    Calls Try.prog 46 #[v, u] w fun e w' => e = .returned (.bool r) ∧ Below w.heap.size w w' := by
  subst h; exact rsame_b v u l m w hv hu
theorem num_ne1 {x y : Nat} (h : x ≠ y) : (((x : Nat) : Int) != ((y : Nat) : Int)) = true := by simp; omega
theorem num_ne0 {x y : Nat} (h : x = y) : (((x : Nat) : Int) != ((y : Nat) : Int)) = false := by rw [h]; simp
end Go.Proofs.Ytonkecfgopbclaa
