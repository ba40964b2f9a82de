/- What a call may have written: of the blocks that were there, those of a set alone. Slices that lie in some blocks; objects of a few cells. -/
import Derived.Test.YteoegmfhfejdkaaApp
import Derived.Test.YteoegmfhfejdkaaVal
namespace Go.Proofs.Yteoegmfhfejdkaa
open Go.RowKit

/-- of the blocks that were there, those of F alone may have changed -/
structure Fr (F : Nat → Prop) (w w' : World) : Prop where
  os : w'.os = w.os
  tape : w'.tape = w.tape
  output : w'.output = w.output
  size : w.heap.size ≤ w'.heap.size
  block : ∀ k, k < w.heap.size → ¬ F k → w'.heap[k]? = w.heap[k]?
/-- no block -/
def F0 : Nat → Prop := fun _ => False
/-- one block -/
def F1 (b : Nat) : Nat → Prop := fun k => k = b
theorem Fr.refl (F : Nat → Prop) (w : World) : Fr F w w := ⟨rfl, rfl, rfl, Nat.le_refl _, fun _ _ _ => rfl⟩
theorem Fr.trans {F G : Nat → Prop} {a b c : World} (h : Fr F a b) (k : Fr G b c) (hG : ∀ x, G x → F x ∨ a.heap.size ≤ x) : Fr F a c :=
  ⟨k.os.trans h.os, k.tape.trans h.tape, k.output.trans h.output, Nat.le_trans h.size k.size, fun i hi hF =>
    (k.block i (Nat.lt_of_lt_of_le hi h.size) (fun hg => (hG i hg).elim hF (by omega))).trans (h.block i hi hF)⟩
theorem Fr.mono {F G : Nat → Prop} {a b : World} (h : Fr F a b) (hG : ∀ x, F x → G x ∨ a.heap.size ≤ x) : Fr G a b :=
  ⟨h.os, h.tape, h.output, h.size, fun i hi hF => h.block i hi (fun hf => (hG i hf).elim hF (by omega))⟩
theorem Fr.of {w w' : World} (h : Below w.heap.size w w') : Fr F0 w w' := ⟨h.os, h.tape, h.output, h.size, fun k hk _ => h.block k hk⟩
theorem Fr.below {F : Nat → Prop} {w w' : World} (h : Fr F w w') {B : Nat} (hB : B ≤ w.heap.size) (hF : ∀ x, F x → B ≤ x) : Below B w w' :=
  ⟨h.os, h.tape, h.output, h.size, fun k hk => h.block k (by omega) (fun hf => by have := hF k hf; omega)⟩
theorem Fr.below0 {w w' : World} (h : Fr F0 w w') : Below w.heap.size w w' := h.below (Nat.le_refl _) (fun _ h => h.elim)
theorem Fr.grown {w w' : World} {row : Option Nat} (h : w.grownBy w' row) : Fr (fun k => some k = row) w w' := ⟨h.os, h.tape, h.output, h.size, fun k hk hr => h.block k hk hr⟩
theorem Fr.setCell (w : World) (a : Addr) (u : Value) : Fr (F1 a.block) w (w.setCell a u) :=
  ⟨rfl, rfl, rfl, by simp, fun k _ hk => Below.heap_setCell _ _ _ _ hk⟩
theorem Fr.alloc (w : World) (o : Obj) : Fr F0 w (w.alloc o) := Fr.of (below_alloc o)
theorem Fr.drewN (w : World) (n : Nat) : Fr F0 w (w.drewN n) := ⟨rfl, rfl, rfl, Nat.le_refl _, fun _ _ _ => rfl⟩
theorem Fr.drew (w : World) : Fr F0 w w.drew := ⟨rfl, rfl, rfl, Nat.le_refl _, fun _ _ _ => rfl⟩
theorem Fr.heap {F : Nat → Prop} {w w' : World} (h : Fr F w w') {k : Nat} {o : Obj} (hk : w.heap[k]? = some o) (hF : ¬ F k) : w'.heap[k]? = some o :=
  (h.block k (Array.getElem?_eq_some_iff.1 hk).1 hF).trans hk
theorem Fr.own {F : Nat → Prop} {w w' : World} (h : Fr F w w') {base : Nat} {e : TypeId} {size : Nat} {v : Value} {n : Nat} {xs : List Value} (ho : w.ownsRow base e size v n xs) (hF : ∀ k, v.ownBlock = some k → ¬ F k) : w'.ownsRow base e size v n xs := by
  refine ⟨ho.1, ?_⟩
  rcases ho.2 with hn | ⟨g, cap, cur, rfl, hb, hgg, rest⟩
  · exact .inl hn
  · exact .inr ⟨g, cap, cur, rfl, hb, h.heap hgg (hF g rfl), rest⟩
theorem own_base {w : World} {b b' : Nat} {e : TypeId} {size : Nat} {v : Value} {n : Nat} {xs : List Value} (ho : w.ownsRow b e size v n xs) (hb : b' ≤ b) : w.ownsRow b' e size v n xs := by
  refine ⟨ho.1, ?_⟩
  rcases ho.2 with hn | ⟨g, cap, cur, rfl, hg, rest⟩
  · exact .inl hn
  · exact .inr ⟨g, cap, cur, rfl, Nat.le_trans hb hg, rest⟩

/-! ### a slice of bytes whose memory lies in some blocks -/
def BSx (G : Nat → Prop) (w : World) (v : Value) (l : List UInt8) : Prop := BS w v l ∧ (0 < l.length → ∀ k, v.ownBlock = some k → G k)
theorem BSx.bs {G : Nat → Prop} {w : World} {v : Value} {l : List UInt8} (h : BSx G w v l) : BS w v l := h.1
theorem BS.x {w : World} {v : Value} {l : List UInt8} (h : BS w v l) : BSx (fun k => k < w.heap.size) w v l := by
  refine ⟨h, fun hp k hk => ?_⟩
  obtain ⟨A, c, rfl, _, _, hr⟩ := h
  obtain ⟨b, o, rfl, hb, _⟩ := hr hp
  simp only [Value.ownBlock, Option.some.injEq] at hk
  omega
theorem BSx.mono {G G' : Nat → Prop} {w : World} {v : Value} {l : List UInt8} (h : BSx G w v l) (hG : ∀ k, k < w.heap.size → G k → G' k) : BSx G' w v l :=
  ⟨h.1, fun hp k hk => hG k (h.1.x.2 hp k hk) (h.2 hp k hk)⟩
theorem BSx.fr {G F : Nat → Prop} {w w' : World} {v : Value} {l : List UInt8} (h : BSx G w v l) (hf : Fr F w w') (hG : ∀ k, k < w.heap.size → G k → ¬ F k) : BSx G w' v l := by
  refine ⟨?_, h.2⟩
  have hx := h.1.x
  obtain ⟨⟨A, c, rfl, h1, h2, h3⟩, hg⟩ := h
  refine ⟨A, c, rfl, h1, h2, fun hp => ?_⟩
  obtain ⟨b, o, rfl, hlt, hc⟩ := h3 hp
  refine ⟨b, o, rfl, Nat.lt_of_lt_of_le hlt hf.size, fun j hj => ?_⟩
  rw [World.cell?_of_block (w := w) (a := ⟨b, o + j, none⟩) (hf.block b hlt (hG b hlt (hg hp b rfl)))]
  exact hc j hj
theorem BS.fr {F : Nat → Prop} {w w' : World} {v : Value} {l : List UInt8} (h : BS w v l) (hf : Fr F w w') (hG : ∀ k, k < w.heap.size → ¬ F k) : BS w' v l :=
  (h.x.fr hf fun k hk _ => hG k hk).1
theorem BSx.nil (G : Nat → Prop) (w : World) : BSx G w (.slice none 0 0) [] := ⟨BS.nil w, fun h => absurd h (by simp)⟩
/-- a piece of bytes -/
theorem Row8.take {w : World} {A : Option Addr} {l : List UInt8} (h : Row8 w A l) (n : Nat) : Row8 w A (l.take n) := fun hp => by
  have hl : (l.take n).length = min n l.length := by simp
  obtain ⟨b, o, rfl, hb, hc⟩ := h (by omega)
  exact ⟨b, o, rfl, hb, fun j hj => by rw [List.getElem_take]; exact hc j (by omega)⟩
theorem BSx.piece {G : Nat → Prop} {w : World} {A A' : Option Addr} {m c c' i j : Nat} {l : List UInt8} (h : BSx G w (.slice A m c) l) (hij : i ≤ j) (hj : j ≤ l.length) (hA : j - i = 0 ∨ A' = A.map (fun x => x.add i)) (hc : j - i ≤ c') (hm : c' ≤ maxLen) :
    BSx G w (.slice A' (j - i) c') ((l.take j).drop i) := by
  have hl : ((l.take j).drop i).length = j - i := by simp; omega
  obtain ⟨⟨A1, c1, he, _, _, hr⟩, hg⟩ := h
  simp only [Value.slice.injEq] at he
  obtain ⟨rfl, _, _⟩ := he
  by_cases hz : j - i = 0
  · have : (l.take j).drop i = [] := List.eq_nil_of_length_eq_zero (by omega)
    rw [this, hz]
    exact ⟨⟨A', c', rfl, by simp, hm, fun h => absurd h (by simp)⟩, fun h => absurd h (by simp)⟩
  · obtain rfl := hA.resolve_left hz
    refine ⟨⟨_, c', by rw [hl], by rw [hl]; exact hc, hm, (hr.take j).drop i⟩, fun hp k hk => hg (by omega) k ?_⟩
    cases A with
    | none => simp [Value.ownBlock] at hk
    | some a =>
      simp only [Option.map_some, Value.ownBlock, Option.some.injEq] at hk ⊢
      rw [← hk]
      unfold Addr.add; split <;> rfl
theorem own_bsx {w : World} {base : Nat} {e : TypeId} {v : Value} {n : Nat} {l : List UInt8} (h : w.ownsRow base e 1 v n (c8 l)) : BSx (fun k => base ≤ k) w v l :=
  ⟨own_bs h, fun _ k hk => (h.lt k hk).1⟩
theorem own_bsx2 {w : World} {base : Nat} {e : TypeId} {v : Value} {n : Nat} {l : List UInt8} (h : w.ownsRow base e 1 v n (c8 l)) : BSx (fun k => v.ownBlock = some k) w v l :=
  ⟨own_bs h, fun _ _ hk => hk⟩

theorem ownB (A : Option Addr) (n c : Nat) : (Value.slice A n c).ownBlock = A.map (·.block) := by cases A <;> rfl
theorem add_block (a : Addr) (n : Nat) : (a.add n).block = a.block := by unfold Addr.add; split <;> rfl

/-! ### objects of a few cells -/
theorem obj_cell {w : World} {b : Nat} {cs : Array Value} {t : TypeId} (h : w.heap[b]? = some (.cells cs t (0, 0))) (i : Nat) : w.cell? ⟨b, i, none⟩ = cs[i]? := cell_of_row w b i cs t (0, 0) h
theorem obj_frozen {w : World} {b : Nat} {cs : Array Value} {t : TypeId} (h : w.heap[b]? = some (.cells cs t (0, 0))) (i : Nat) : w.frozen? ⟨b, i, none⟩ = false := frozen_of_row w b i cs t h
theorem obj_lt {w : World} {b : Nat} {o : Obj} (h : w.heap[b]? = some o) : b < w.heap.size := (Array.getElem?_eq_some_iff.1 h).1
theorem obj_set {w : World} {b : Nat} {cs : Array Value} {t : TypeId} (h : w.heap[b]? = some (.cells cs t (0, 0))) (i : Nat) (u : Value) :
    (w.setCell ⟨b, i, none⟩ u).heap[b]? = some (.cells (cs.setIfInBounds i u) t (0, 0)) := heap_setCell_same w b i cs t u h
theorem bs_parts {w : World} {v : Value} {l : List UInt8} (h : BS w v l) : ∃ A c, v = .slice A l.length c ∧ l.length ≤ c ∧ c ≤ 9223372036854775807 ∧ Row8 w A l := by
  obtain ⟨A, c, rfl, h1, h2, h3⟩ := h
  exact ⟨A, c, rfl, h1, by unfold maxLen at h2; omega, h3⟩
/-! ### a slice of one-cell elements whose memory lies in some blocks -/
def SVx (G : Nat → Prop) (w : World) (v : Value) (l : List Value) : Prop := SV w v l ∧ (0 < l.length → ∀ k, v.ownBlock = some k → G k)
theorem SV.x {w : World} {v : Value} {l : List Value} (h : SV w v l) : SVx (fun k => k < w.heap.size) w v l := by
  refine ⟨h, fun hp k hk => ?_⟩
  obtain ⟨A, c, rfl, _, _, hr⟩ := h
  obtain ⟨b, o, rfl, hb, _⟩ := hr hp
  simp only [Value.ownBlock, Option.some.injEq] at hk
  omega
theorem SVx.mono {G G' : Nat → Prop} {w : World} {v : Value} {l : List Value} (h : SVx G w v l) (hG : ∀ k, k < w.heap.size → G k → G' k) : SVx G' w v l :=
  ⟨h.1, fun hp k hk => hG k (h.1.x.2 hp k hk) (h.2 hp k hk)⟩
theorem SVx.fr {G F : Nat → Prop} {w w' : World} {v : Value} {l : List Value} (h : SVx G w v l) (hf : Fr F w w') (hG : ∀ k, k < w.heap.size → G k → ¬ F k) : SVx G w' v l := by
  refine ⟨?_, h.2⟩
  obtain ⟨⟨A, c, rfl, h1, h2, h3⟩, hg⟩ := h
  refine ⟨A, c, rfl, h1, h2, fun hp => ?_⟩
  obtain ⟨b, o, rfl, hlt, hc⟩ := h3 hp
  refine ⟨b, o, rfl, Nat.lt_of_lt_of_le hlt hf.size, fun j hj => ?_⟩
  rw [World.cell?_of_block (w := w) (a := ⟨b, o + j, none⟩) (hf.block b hlt (hG b hlt (hg hp b rfl)))]
  exact hc j hj
theorem SVx.nil (G : Nat → Prop) (w : World) : SVx G w (.slice none 0 0) [] := ⟨SV.nil w, fun h => absurd h (by simp)⟩
theorem own_sv {w : World} {base : Nat} {e : TypeId} {v : Value} {n : Nat} {xs : List Value} (h : w.ownsRow base e 1 v n xs) : SV w v xs := by
  obtain ⟨hl, h⟩ := h
  obtain rfl : n = xs.length := by omega
  rcases h with ⟨rfl, h0⟩ | ⟨g, cap, cur, rfl, hg, hh, hn, hm, hs, ht⟩
  · have : xs = [] := List.eq_nil_of_length_eq_zero h0
    subst this
    exact SV.nil w
  · refine ⟨_, _, rfl, hn, hm, fun hp => ⟨g, 0, rfl, ?_, fun j hj => ?_⟩⟩
    · rcases Nat.lt_or_ge g w.heap.size with h1 | h1
      · exact h1
      · rw [Array.getElem?_eq_none h1] at hh; cases hh
    · rw [cell_of_row w g (0 + j) cur e (0, 0) hh, Nat.zero_add]
      have h1 : (cur.toList.take (xs.length * 1))[j]? = some xs[j] := by rw [ht]; exact List.getElem?_eq_getElem hj
      rw [Nat.mul_one, List.getElem?_take, if_pos hj] at h1
      simpa using h1
theorem own_svx {w : World} {base : Nat} {e : TypeId} {v : Value} {n : Nat} {xs : List Value} (h : w.ownsRow base e 1 v n xs) : SVx (fun k => base ≤ k) w v xs :=
  ⟨own_sv h, fun _ k hk => (h.lt k hk).1⟩
end Go.Proofs.Yteoegmfhfejdkaa
