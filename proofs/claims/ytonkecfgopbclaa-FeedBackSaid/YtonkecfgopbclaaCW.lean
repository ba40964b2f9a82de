/- A writer beside an object that stays. -/
import Derived.Test.YtonkecfgopbclaaWireW
namespace Go.Proofs.Ytonkecfgopbclaa
open Go.RowKit

/-- a writer beside an object that stays, both since a call began -/
structure CW (B pb bx : Nat) (o : Obj) (ob0 : Option Nat) (w0 : World) (ob : Option Nat) (l : List UInt8) (w : World) : Prop where
  wr : Wr B w pb ob l
  box : w.heap[bx]? = some o
  nb : ¬ WF pb ob bx
  fr : Fr (WF pb ob0) w0 w
  ob : ob = ob0 ∨ ∃ k, ob = some k ∧ w0.heap.size ≤ k
section
variable {B pb bx : Nat} {o : Obj} {ob0 ob : Option Nat} {w0 w w' : World} {l l' : List UInt8}
theorem CW.step (h : CW B pb bx o ob0 w0 ob l w) (hp : WPost B w pb ob l' w') : ∃ ob', CW B pb bx o ob0 w0 ob' l' w' := by
  obtain ⟨ob', hw, hf, ho⟩ := hp
  have hlt := obj_lt h.box
  have hsz := h.fr.size
  refine ⟨ob', hw, hf.heap h.box h.nb, ?_, h.fr.trans hf (fun x hx => ?_), ?_⟩
  · rintro (hx | hx)
    · exact h.nb (.inl hx)
    · rcases ho with ho | ⟨k, ho, hk⟩
      · exact h.nb (.inr (by rw [← ho]; exact hx))
      · rw [ho] at hx; injection hx with hx; omega
  · rcases hx with hx | hx
    · exact .inl (.inl hx)
    · rcases h.ob with ho | ⟨k, ho, hk⟩
      · exact .inl (.inr (by rw [← ho]; exact hx))
      · rw [ho] at hx; injection hx with hx; exact .inr (by omega)
  · rcases ho with ho | ⟨k, ho, hk⟩
    · rw [ho]; exact h.ob
    · exact .inr ⟨k, ho, by omega⟩
theorem CW.post (h : CW B pb bx o ob0 w0 ob l w) : WPost B w0 pb ob0 l w := ⟨ob, h.wr, h.fr, h.ob⟩
theorem CW.new (h : Wr B w pb ob l) {cs : Array Value} {t : TypeId} : CW B pb w.heap.size (.cells cs t (0, 0)) ob w ob l (w.alloc (.cells cs t)) := by
  have hf := Fr.alloc w (.cells cs t)
  refine ⟨h.fr0 hf, heap_alloc_new _ _, fun hx => by have := (h.lt _ hx).2; omega, hf.mono (fun _ h => h.elim), .inl rfl⟩
theorem CW.bs (h : CW B pb bx o ob0 w0 ob l w) (hw : Wr B w0 pb ob0 l') {v : Value} {b : List UInt8} (hb : BSx (fun k => k < B) w0 v b) : BS w v b :=
  (hb.fr h.fr (fun k _ hk hF => by have := (hw.lt k hF).1; omega)).1
end
end Go.Proofs.Ytonkecfgopbclaa
