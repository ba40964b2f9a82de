/- append, onto a row of the call's own, of what any slice holds (nil too): elements of one cell. -/
import Derived.Test.YteoegmfhfejdkaaMem
import Derived.Maps.AppendAt
import Derived.OwnWalk
namespace Go.Proofs.Yteoegmfhfejdkaa
open Go.RowKit

/-- what is appended: so many cells, from a place on -/
def Src (w : World) (A : Option Addr) (m : Nat) (xs : List Value) : Prop :=
  xs.length = m ∧ (0 < m → ∃ ad, A = some ad ∧ ∀ j u, xs[j]? = some u → w.cell? (ad.add j) = some u)
/-- bytes as cells -/
def c8 (l : List UInt8) : List Value := l.map fun b => .int .u8 (b.toNat : Nat)
theorem c8_len (l : List UInt8) : (c8 l).length = l.length := by simp [c8]
theorem c8_app (a b : List UInt8) : c8 (a ++ b) = c8 a ++ c8 b := by simp [c8]
theorem c8_one (l : List UInt8) : ∀ u ∈ c8 l, u.oneCell' = true := by
  intro u hu
  simp only [c8, List.mem_map] at hu
  obtain ⟨b, _, rfl⟩ := hu
  rfl
theorem Row8.src {w : World} {A : Option Addr} {l : List UInt8} (h : Row8 w A l) : Src w A l.length (c8 l) := by
  refine ⟨c8_len l, fun hp => ?_⟩
  obtain ⟨b, o, rfl, _, hc⟩ := h hp
  refine ⟨_, rfl, fun j u hu => ?_⟩
  have hj : j < l.length := by
    rcases Nat.lt_or_ge j l.length with h1 | h1
    · exact h1
    · rw [List.getElem?_eq_none (by rw [c8_len]; exact h1)] at hu; cases hu
  have e : (⟨b, o, none⟩ : Addr).add j = ⟨b, o + j, none⟩ := by
    unfold Addr.add; split
    · next h0 => subst h0; rfl
    · rfl
  rw [e, hc j hj, ← hu]
  simp [c8, List.getElem?_map, List.getElem?_eq_getElem hj]
section
variable {P : Program} {w : World}
theorem run_app (base : Nat) (t ty e : TypeId) (z : Value) (bytes : Nat) (ht : P.underlying t = some (.slice e)) (hi : (P.info? e).map (fun i => (i.zero, i.size, i.bytes)) = some (some z, 1, bytes))
    (hz : z.cells.size = 1) (v : Value) (n : Nat) (xs : List Value) (hown : w.ownsRow base e 1 v n xs) (A : Option Addr) (m c : Nat) (news : List Value) (hs : Src w A m news)
    (h1 : ∀ u ∈ news, u.oneCell' = true) (h63 : n + m ≤ maxLen) (hb : (n + m) * bytes ≤ 140737488355328) (hbase : base ≤ w.heap.size) :
    ∃ v' w', (Builtin.append_ #[t, t] ty #[v, .slice A m c]).run P w = .ok v' w' ∧ w'.ownsRow base e 1 v' (n + m) (xs ++ news) ∧ w.grownBy w' v.ownBlock ∧ (v'.ownBlock = v.ownBlock ∨ v'.ownBlock = some w.heap.size) := by
  obtain ⟨i, hi, hz0, hsz, hby⟩ := info_parts hi
  by_cases hm : m = 0
  · subst hm
    obtain rfl : news = [] := List.eq_nil_of_length_eq_zero hs.1
    cases A with
    | none =>
      refine ⟨v, w, ?_, by simpa using hown, World.grownBy.refl w _, .inl rfl⟩
      rcases hown.2 with ⟨rfl, _⟩ | ⟨g, cap, cur, rfl, _, _, hnc, _⟩
      · simp [Builtin.append_, run_underlying ht, sizeOf, typeInfo, hi, Builtin.lenOf, Builtin.firstCells]
      · simp [Builtin.append_, run_underlying ht, sizeOf, typeInfo, hi, Builtin.lenOf, Builtin.firstCells, hnc, storeCells]
    | some ad =>
      obtain ⟨v', w', hr, ho, hg, _, hk⟩ := run_append_own_at (P := P) w base t ty e i z 1 bytes ht hi hz0 hsz hby hz (by decide) v n xs hown ad 0 c [] (by simp) (by simp) h1 h63 hb hbase
      exact ⟨v', w', hr, ho, hg, hk⟩
  · obtain ⟨ad, rfl, hc⟩ := hs.2 (by omega)
    obtain ⟨v', w', hr, ho, hg, _, hk⟩ := run_append_own_at (P := P) w base t ty e i z 1 bytes ht hi hz0 hsz hby hz (by decide) v n xs hown ad m c news (by rw [hs.1]; omega) hc h1 h63 hb hbase
    exact ⟨v', w', hr, ho, hg, hk⟩
theorem wpl_app {ops : Array Oper} {rest : List Oper} {o : Oper} {a : Act} {Q : Exit → Act → World → Prop} (hgd : o.guard = none) (s x : Operand) (t : TypeId)
    (ho : o.op = .call { callee := .builtin .append, args := #[s, x], argTypes := #[t, t] })
    (base : Nat) (e : TypeId) (z : Value) (bytes : Nat) (ht : P.underlying t = some (.slice e)) (hi : (P.info? e).map (fun i => (i.zero, i.size, i.bytes)) = some (some z, 1, bytes))
    (hz : z.cells.size = 1) (v : Value) (n : Nat) (xs : List Value) (hs : a.eval s = v) (hown : w.ownsRow base e 1 v n xs) (A : Option Addr) (m c : Nat) (news : List Value) (hx : a.eval x = .slice A m c)
    (hsrc : Src w A m news) (h1 : ∀ u ∈ news, u.oneCell' = true) (h63 : n + m ≤ maxLen) (hb : (n + m) * bytes ≤ 140737488355328) (hbase : base ≤ w.heap.size)
    (h : ∀ v' w', w'.ownsRow base e 1 v' (n + m) (xs ++ news) → w.grownBy w' v.ownBlock → (v'.ownBlock = v.ownBlock ∨ v'.ownBlock = some w.heap.size) → wpList P ops Q rest (a.put o.dst v') w') :
    wpList P ops Q (o :: rest) a w := by
  obtain ⟨v', w', hr, h2, h3, h4⟩ := run_app (P := P) base t o.type e z bytes ht hi hz v n xs hown A m c news hsrc h1 h63 hb hbase
  refine wpList_plain hgd fun K hK => ?_
  unfold Oper.wp execOp
  simp only [ho, resolve, invoke, builtin, Sem.run_bind, Sem.run_pure, Result.andThen_ok, List.map_toArray, List.map_cons, List.map_nil, hs, hx, hr]
  exact hK _ _ (h v' w' h2 h3 h4)
end
/-- a row of the call's own, as a slice of bytes -/
theorem own_bs {w : World} {base : Nat} {e : TypeId} {v : Value} {n : Nat} {l : List UInt8} (h : w.ownsRow base e 1 v n (c8 l)) : BS w v l := by
  obtain ⟨hl, h⟩ := h
  rw [c8_len] at hl
  obtain rfl : n = l.length := by omega
  rcases h with ⟨rfl, h0⟩ | ⟨g, cap, cur, rfl, hg, hh, hn, hm, hs, ht⟩
  · have : l = [] := List.eq_nil_of_length_eq_zero h0
    subst this
    exact BS.nil w
  · refine ⟨_, _, rfl, hn, hm, fun hp => ⟨g, 0, rfl, ?_, fun j hj => ?_⟩⟩
    · rcases Nat.lt_or_ge g w.heap.size with h1 | h1
      · exact h1
      · rw [Array.getElem?_eq_none h1] at hh; cases hh
    · rw [cell_of_row w g (0 + j) cur e (0, 0) hh, Nat.zero_add]
      have h1 : (c8 l)[j]? = some (.int .u8 (l[j].toNat : Nat)) := by simp [c8, List.getElem?_map, List.getElem?_eq_getElem hj]
      rw [← ht, Nat.mul_one, List.getElem?_take, if_pos hj] at h1
      simpa using h1
theorem own_new (w : World) (base : Nat) (e : TypeId) (u : Value) (h : base ≤ w.heap.size) : (w.alloc (.cells #[u] e)).ownsRow base e 1 (.slice (some ⟨w.heap.size, 0, none⟩) 1 1) 1 [u] :=
  ⟨rfl, .inr ⟨w.heap.size, 1, #[u], rfl, h, heap_alloc_new w _, Nat.le_refl _, (by unfold maxLen; omega), rfl, rfl⟩⟩
theorem own_empty (w : World) (base : Nat) (e : TypeId) (h : base ≤ w.heap.size) : (w.alloc (.cells #[] e)).ownsRow base e 1 (.slice (some ⟨w.heap.size, 0, none⟩) 0 0) 0 [] :=
  ⟨rfl, .inr ⟨w.heap.size, 0, #[], rfl, h, heap_alloc_new w _, Nat.le_refl _, (by unfold maxLen; omega), rfl, rfl⟩⟩
theorem own_src {w : World} {base : Nat} {e : TypeId} {A : Option Addr} {n c : Nat} {l : List UInt8} (h : w.ownsRow base e 1 (.slice A n c) n (c8 l)) : Row8 w A l ∧ n = l.length := by
  have hl := h.1
  rw [c8_len] at hl
  obtain ⟨A', c', he, _, _, hr⟩ := own_bs h
  injection he with h1 h2 h3
  subst h1
  exact ⟨hr, by omega⟩
theorem src_of {w : World} {A : Option Addr} {l : List UInt8} {m : Nat} (hl : l.length = m) (h : Row8 w A l) : Src w A m (c8 l) := by
  subst hl; exact h.src
theorem own_slice {w : World} {base : Nat} {e : TypeId} {size : Nat} {v : Value} {n : Nat} {xs : List Value} (h : w.ownsRow base e size v n xs) : ∃ A c, v = .slice A n c := by
  rcases h.2 with ⟨rfl, rfl⟩ | ⟨g, cap, cur, rfl, _⟩
  · exact ⟨_, _, rfl⟩
  · exact ⟨_, _, rfl⟩
theorem below_alloc {w : World} (o : Obj) : Below w.heap.size w (w.alloc o) := (Below.refl _ _).alloc (Nat.le_refl _) o
/-- a literal list of bytes, just made -/
theorem BS.lit (w : World) (l : List UInt8) (t : TypeId) (hm : l.length ≤ maxLen) : BS (w.alloc (.cells (c8 l).toArray t)) (.slice (some ⟨w.heap.size, 0, none⟩) l.length l.length) l :=
  BS.made w _ l t hm (fun i hi => by simp [c8, List.getElem?_eq_getElem hi])
end Go.Proofs.Yteoegmfhfejdkaa
