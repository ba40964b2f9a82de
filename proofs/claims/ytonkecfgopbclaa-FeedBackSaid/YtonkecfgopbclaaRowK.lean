/- Rows of elements of k cells that are the call's own: appended to, read as a slice of rows. -/
import Derived.Test.YtonkecfgopbclaaRows8
namespace Go.Proofs.Ytonkecfgopbclaa
open Go.RowKit Go.Deep

theorem flat_get {k : Nat} : ∀ (rs : List (List Value)) (i j : Nat) (u : Value), (∀ r ∈ rs, r.length = k) → (h : i < rs.length) → rs[i][j]? = some u → rs.flatten[i * k + j]? = some u
  | [], i, _, _, _, h, _ => absurd h (by simp)
  | r :: rs, 0, j, u, hk, _, hu => by
    simp only [List.getElem_cons_zero] at hu
    have : j < r.length := (List.getElem?_eq_some_iff.1 hu).1
    rw [List.flatten_cons, Nat.zero_mul, Nat.zero_add, List.getElem?_append_left this, hu]
  | r :: rs, i + 1, j, u, hk, h, hu => by
    simp only [List.getElem_cons_succ] at hu
    have hr := hk r (List.mem_cons_self ..)
    have ih := flat_get rs i j u (fun r hr => hk r (List.mem_cons_of_mem _ hr)) (by simpa using h) hu
    rw [List.flatten_cons, List.getElem?_append_right (by rw [hr, Nat.add_mul]; omega), hr, ← ih, Nat.add_mul]
    congr 1; omega
theorem own_rows {k : Nat} {w : World} {base : Nat} {e : TypeId} {v : Value} {n : Nat} {rs : List (List Value)} (hn : rs.length = n) (hk : ∀ r ∈ rs, r.length = k) (h : w.ownsRow base e k v n rs.flatten) : RowsV k w v rs := by
  subst hn
  rcases h.2 with ⟨rfl, h0⟩ | ⟨g, cap, cur, rfl, hg, hh, hn, hm, hs, ht⟩
  · exact ⟨none, 0, by rw [h0], by omega, Nat.zero_le _, fun h => by omega⟩
  · refine ⟨_, _, rfl, hn, hm, fun hp => ⟨g, 0, rfl, (Array.getElem?_eq_some_iff.1 hh).1, fun i hi j u hu => ?_⟩⟩
    have h1 := flat_get rs i j u hk hi hu
    rw [cell_of_row w g _ cur e (0, 0) hh]
    rw [← ht, List.getElem?_take] at h1
    split at h1
    · rw [← h1]; simp
    · cases h1
section
variable {P : Program} {w : World}
/-- append onto a row of the call's own, of elements that are there -/
theorem wpl_appk {ops : Array Oper} {rest : List Oper} {o : Oper} {a : Act} {Q : Exit → Act → World → Prop} (hgd : o.guard = none) (s x : Operand) (t : TypeId)
    (ho : o.op = .call { callee := .builtin .append, args := #[s, x], argTypes := #[t, t] })
    (base : Nat) (e : TypeId) (z : Value) (size bytes : Nat) (ht : P.underlying t = some (.slice e)) (hi : (P.info? e).map (fun i => (i.zero, i.size, i.bytes)) = some (some z, size, bytes))
    (hz : z.cells.size = size) (hsz : 0 < size) (v : Value) (n : Nat) (xs : List Value) (hs : a.eval s = v) (hown : w.ownsRow base e size v n xs) (ad : Addr) (m c : Nat) (news : List Value) (hx : a.eval x = .slice (some ad) m c)
    (hl : news.length = m * size) (hsrc : ∀ j u, news[j]? = some u → w.cell? (ad.add j) = some u) (h1 : ∀ u ∈ news, u.oneCell' = true) (h63 : n + m ≤ maxLen) (hb : (n + m) * bytes ≤ 140737488355328) (hbase : base ≤ w.heap.size)
    (h : ∀ v' w', w'.ownsRow base e size v' (n + m) (xs ++ news) → w.grownBy w' v.ownBlock → (v'.ownBlock = v.ownBlock ∨ v'.ownBlock = some w.heap.size) → wpList P ops Q rest (a.put o.dst v') w') :
    wpList P ops Q (o :: rest) a w := by
  obtain ⟨i, hi, hz0, hsz', hby⟩ := info_parts hi
  obtain ⟨v', w', hr, h2, h3, _, h4⟩ := run_append_own_at (P := P) w base t o.type e i z size bytes ht hi hz0 hsz' hby hz hsz v n xs hown ad m c news hl hsrc h1 h63 hb hbase
  refine wpList_plain hgd fun K hK => ?_
  unfold Oper.wp execOp
  simp only [ho, resolve, invoke, builtin, Sem.run_bind, Sem.run_pure, Result.andThen_ok, List.map_toArray, List.map_cons, List.map_nil, hs, hx, hr]
  exact hK _ _ (h v' w' h2 h3 h4)
end
theorem new_cells (w : World) (cs : List Value) (t : TypeId) : ∀ j u, cs[j]? = some u → (w.alloc (.cells cs.toArray t)).cell? ((⟨w.heap.size, 0, none⟩ : Addr).add j) = some u := by
  intro j u hu
  have : (⟨w.heap.size, 0, none⟩ : Addr).add j = ⟨w.heap.size, j, none⟩ := by rw [RowV.add rfl]; simp
  rw [this, cell_of_row _ w.heap.size j cs.toArray t (0, 0) (heap_alloc_new w _)]
  simpa using hu
theorem own_newk (w : World) (base : Nat) (e : TypeId) (k : Nat) (h : base ≤ w.heap.size) : (w.alloc (.cells #[] e)).ownsRow base e k (.slice (some ⟨w.heap.size, 0, none⟩) 0 0) 0 [] :=
  ⟨by simp, .inr ⟨w.heap.size, 0, #[], rfl, h, heap_alloc_new w _, Nat.le_refl _, (by unfold maxLen; omega), by simp, by simp⟩⟩
/-- what an append leaves of all else -/
theorem Fr.app {w w' : World} {v : Value} (h : w.grownBy w' v.ownBlock) : Fr (fun k => some k = v.ownBlock) w w' := Fr.grown h
theorem own_bs_src {w : World} {A : Option Addr} {c : Nat} {l : List UInt8} (h : BS w (.slice A l.length c) l) : Src w A l.length (c8 l) := by
  obtain ⟨A', c', he, _, _, hr⟩ := h
  simp only [Value.slice.injEq] at he
  rw [he.1]; exact hr.src
theorem src_1 (w : World) (u : Value) (t : TypeId) : Src (w.alloc (.cells #[u] t)) (some ⟨w.heap.size, 0, none⟩) 1 [u] :=
  ⟨rfl, fun _ => ⟨_, rfl, new_cells w [u] t⟩⟩
def slen : Value → Nat
  | .slice _ n _ => n
  | _ => 0
theorem own_lit (w : World) (base : Nat) (e : TypeId) (k n : Nat) (cs : List Value) (hn : cs.length = n * k) (h : base ≤ w.heap.size) (hm : n ≤ maxLen) : (w.alloc (.cells cs.toArray e)).ownsRow base e k (.slice (some ⟨w.heap.size, 0, none⟩) n n) n cs :=
  ⟨hn, .inr ⟨w.heap.size, n, cs.toArray, rfl, h, heap_alloc_new w _, Nat.le_refl _, hm, by simpa using hn, by simp [← hn]⟩⟩
end Go.Proofs.Ytonkecfgopbclaa
