/- A drawn region: what must hold of the world between its operations hangs on what has come up: a cell that a load of the region reads, until the operation that waits for that load has come up. -/
import Derived.Deep.RegionHeld3
namespace Go.Proofs.Ythgajlmhgbhmlaa
open Go
section
variable {P : Program} {ops : Array Oper} {Q : Exit → Act → World → Prop} {md : Region.Mode} {S : Array Bool → World → Prop}

def wpK (P : Program) (md : Region.Mode) (ops : Array Oper) (Q : Exit → Act → World → Prop) (S : Array Bool → World → Prop) : Nat → Array Bool → Act → World → Prop
  | 0, L, a, w => Region.ready md ops L = [] ∧ Q .normal a w
  | n + 1, L, a, w =>
    (Region.ready md ops L = [] → Q .normal a w) ∧
    ∀ i ∈ Region.ready md ops L, wpOp P ops Q i (fun a' w' => S (L.setIfInBounds i true) w' ∧ wpK P md ops Q S n (L.setIfInBounds i true) a' w') a w

theorem wpAny_of_K : ∀ (n : Nat) (L : Array Bool) (a : Act) (w : World), wpK P md ops Q S n L a w → wpAny P md ops Q n L a w
  | 0, _, _, _, h => h
  | n + 1, _, _, _, h => ⟨h.1, fun i hi => wpOp_mono (fun a' w' h' => wpAny_of_K n _ a' w' h'.2) (h.2 i hi)⟩

theorem wpK_first {i : Nat} {oi : Oper} {v : Value} {T : World → Prop} {U : Array Bool → Prop} (hi : ops[i]? = some oi) (hsel : ∀ (j : Nat) (o : Oper) cs b, ops[j]? = some o → o.op ≠ .select cs b)
    (hQ : ∀ c a w, Q (.panic c) (a.put oi.dst v) w → Q (.panic c) a w)
    (hS : ∀ L w, S (L.setIfInBounds i true) w ↔ S L w)
    (hU : ∀ L j, U L → i ∈ Region.ready md ops L → j ∈ Region.ready md ops L → j ≠ i → U (L.setIfInBounds j true))
    (hT : ∀ L w, U L → S L w → T w) :
    ∀ (n : Nat) (L : Array Bool) (a : Act) (w : World),
      (∀ j oj, ops[j]? = some oj → j ≠ i → L.getD j true = false → (∀ e ∈ oj.after, Region.binds md e = true → e.on ≠ i) → oi.apart ops oj = true) →
      i ∈ Region.ready md ops L → U L → YieldsIf P ops T oi v a → S L w →
      wpK P md ops Q S n (L.setIfInBounds i true) (a.put oi.dst v) w → wpK P md ops Q S (n + 1) L a w := by
  intro n
  induction n with
  | zero =>
    intro L a w _ hr hu hy hs H
    refine ⟨fun h => (by rw [h] at hr; cases hr), fun j hj => ?_⟩
    by_cases hji : j = i
    · subst hji; exact hy.wpOp hi (hT L w hu hs) ⟨(hS L w).2 hs, H⟩
    · have := ready_mono hj hji
      rw [H.1] at this
      cases this
  | succ n ih =>
    intro L a w hfree hr hu hy hs H
    refine ⟨fun h => (by rw [h] at hr; cases hr), fun j hj => ?_⟩
    by_cases hji : j = i
    · subst hji; exact hy.wpOp hi (hT L w hu hs) ⟨(hS L w).2 hs, H⟩
    · have h1 := H.2 j (ready_mono hj hji)
      obtain ⟨hjun, oj, hoj, hall⟩ := mem_ready.1 hj
      have hnot : ∀ e ∈ oj.after, Region.binds md e = true → e.on ≠ i := fun e he hb heq => by
        have h1 := hall e he hb
        have h0 := (mem_ready.1 hr).1
        rw [heq] at h1
        rcases Nat.lt_or_ge i L.size with h' | h'
        · simp [h'] at h0 h1; rw [h0] at h1; cases h1
        · simp [Array.getElem?_eq_none h'] at h1
      have h2 := wpOp_putIf hoj (hfree j oj hoj hji hjun hnot) (fun cs b => hsel i oi cs b hi) (fun cs b => hsel j oj cs b hoj) hQ hy h1
      refine wpOp_mono (fun a' w' h3 => ?_) h2
      obtain ⟨hy', hs', hk⟩ := h3
      rw [Array.setIfInBounds_comm _ _ (Ne.symm hji)] at hs' hk
      have hs2 := (hS _ w').1 hs'
      refine ⟨hs2, ih (L.setIfInBounds j true) a' w' (fun k ok hok hki hun hno => hfree k ok hok hki ?_ hno) (ready_mono hr (Ne.symm hji)) (hU L j hu hr hj hji) hy' hs2 hk⟩
      by_cases hjk : j = k
      · subst hjk; exact hjun
      · rw [getD_set_ne true hjk] at hun; exact hun

/-- two facts, each until an operation has come up -/
def SK (k1 : Nat) (T1 : World → Prop) (k2 : Nat) (T2 : World → Prop) (L : Array Bool) (w : World) : Prop := (L.getD k1 true = false → T1 w) ∧ (L.getD k2 true = false → T2 w)
variable {k1 k2 : Nat} {T1 T2 : World → Prop}
theorem SK.iff {i : Nat} (h1 : i ≠ k1) (h2 : i ≠ k2) (L : Array Bool) (w : World) : SK k1 T1 k2 T2 (L.setIfInBounds i true) w ↔ SK k1 T1 k2 T2 L w := by
  unfold SK; rw [getD_set_ne true h1, getD_set_ne true h2]
/-- k waits for i -/
def waitsB (md : Region.Mode) (ops : Array Oper) (k i : Nat) : Bool := match ops[k]? with | some o => o.after.any (fun e => Region.binds md e && e.on == i) | none => false
theorem waits_spec {k i : Nat} (h : waitsB md ops k i = true) {L : Array Bool} (hi : i ∈ Region.ready md ops L) : ¬ k ∈ Region.ready md ops L := fun hk => by
  obtain ⟨_, o, ho, hall⟩ := mem_ready.1 hk
  unfold waitsB at h
  rw [ho] at h
  obtain ⟨e, he, hb⟩ := Array.any_eq_true'.1 h
  simp only [Bool.and_eq_true, beq_iff_eq] at hb
  have h1 := hall e he hb.1
  have h0 := (mem_ready.1 hi).1
  rw [hb.2] at h1
  rcases Nat.lt_or_ge i L.size with h' | h'
  · simp [h'] at h0 h1; rw [h0] at h1; cases h1
  · simp [Array.getElem?_eq_none h'] at h1
variable {i : Nat} {oi : Oper} {v : Value} {n : Nat} {L : Array Bool} {a : Act} {w : World}
/-- taken first: it yields in whatever world -/
theorem wpK_take0 (hi : ops[i]? = some oi) (hs : Region.noSelect ops = true) (hf : Region.free md ops L i = true) (hr : (Region.ready md ops L).contains i = true)
    (hn : (i ≠ k1 ∧ i ≠ k2)) (hQ : ∀ c a w, Q (.panic c) (a.put oi.dst v) w → Q (.panic c) a w) (hy : YieldsIf P ops (fun _ => True) oi v a) (hS : SK k1 T1 k2 T2 L w)
    (h : wpK P md ops Q (SK k1 T1 k2 T2) n (L.setIfInBounds i true) (a.put oi.dst v) w) : wpK P md ops Q (SK k1 T1 k2 T2) (n + 1) L a w :=
  wpK_first (T := fun _ => True) (U := fun _ => True) hi (Region.noSelect_spec hs) hQ (SK.iff hn.1 hn.2) (fun _ _ _ _ _ _ => trivial) (fun _ _ _ _ => trivial) n L a w (Region.free_spec hi hf) (by simpa using hr) trivial hy hS h
/-- taken first: the first fact holds as long as an operation that waits for it has not come up -/
theorem wpK_take1 (hi : ops[i]? = some oi) (hs : Region.noSelect ops = true) (hf : Region.free md ops L i = true) (hr : (Region.ready md ops L).contains i = true)
    (hn : (i ≠ k1 ∧ i ≠ k2)) (hw : waitsB md ops k1 i = true) (hk : L.getD k1 true = false) (hQ : ∀ c a w, Q (.panic c) (a.put oi.dst v) w → Q (.panic c) a w) (hy : YieldsIf P ops T1 oi v a) (hS : SK k1 T1 k2 T2 L w)
    (h : wpK P md ops Q (SK k1 T1 k2 T2) n (L.setIfInBounds i true) (a.put oi.dst v) w) : wpK P md ops Q (SK k1 T1 k2 T2) (n + 1) L a w :=
  wpK_first (T := T1) (U := fun L => L.getD k1 true = false) hi (Region.noSelect_spec hs) hQ (SK.iff hn.1 hn.2)
    (fun L j hu hir hjr _ => by
      have hjk : j ≠ k1 := fun e => waits_spec hw hir (e ▸ hjr)
      rw [getD_set_ne true hjk]; exact hu) (fun L w hu h => h.1 hu) n L a w (Region.free_spec hi hf) (by simpa using hr) hk hy hS h
theorem wpK_take2 (hi : ops[i]? = some oi) (hs : Region.noSelect ops = true) (hf : Region.free md ops L i = true) (hr : (Region.ready md ops L).contains i = true)
    (hn : (i ≠ k1 ∧ i ≠ k2)) (hw : waitsB md ops k2 i = true) (hk : L.getD k2 true = false) (hQ : ∀ c a w, Q (.panic c) (a.put oi.dst v) w → Q (.panic c) a w) (hy : YieldsIf P ops T2 oi v a) (hS : SK k1 T1 k2 T2 L w)
    (h : wpK P md ops Q (SK k1 T1 k2 T2) n (L.setIfInBounds i true) (a.put oi.dst v) w) : wpK P md ops Q (SK k1 T1 k2 T2) (n + 1) L a w :=
  wpK_first (T := T2) (U := fun L => L.getD k2 true = false) hi (Region.noSelect_spec hs) hQ (SK.iff hn.1 hn.2)
    (fun L j hu hir hjr _ => by
      have hjk : j ≠ k2 := fun e => waits_spec hw hir (e ▸ hjr)
      rw [getD_set_ne true hjk]; exact hu) (fun L w hu h => h.2 hu) n L a w (Region.free_spec hi hf) (by simpa using hr) hk hy hS h
/-- one operation alone may come up -/
theorem wpK_one (hr : Region.ready md ops L = [i]) (ho : ops[i]? = some oi)
    (h : ∀ K' : Act → World → Prop, Shut (∀ a w, S (L.setIfInBounds i true) w → wpK P md ops Q S n (L.setIfInBounds i true) a w → K' a w) → if Region.wanted oi (yielded ops a.tmps) = true then Oper.wp P oi a w K' Q else K' (a.put oi.dst undef) w) :
    wpK P md ops Q S (n + 1) L a w :=
  ⟨fun h0 => (by rw [hr] at h0; cases h0), by
    rw [hr]
    intro j hj
    obtain rfl := List.mem_singleton.1 hj
    exact wpOp_step ho (fun K' hK => h K' (fun a w hs hk => hK a w ⟨hs, hk⟩))⟩
theorem SK.one (h1 : L.getD k1 true = true) (h2 : T2 w) : SK k1 T1 k2 T2 L w := ⟨fun h => (by rw [h1] at h; cases h), fun _ => h2⟩
theorem SK.two (h1 : L.getD k1 true = true) (h2 : L.getD k2 true = true) : SK k1 T1 k2 T2 L w := ⟨fun h => (by rw [h1] at h; cases h), fun h => (by rw [h2] at h; cases h)⟩
theorem wpK_done (hr : Region.ready md ops L = []) (h : Q .normal a w) : ∀ n, wpK P md ops Q S n L a w
  | 0 => ⟨hr, h⟩
  | _ + 1 => ⟨fun _ => h, by rw [hr]; simp⟩
theorem wpK_start {id : Nat} (hm : P.follows .mixedOrders = true) (h : wpK P .any ops Q S ops.size (Array.replicate ops.size false) a w.drew) : (Code.region id ops true).wp P Q a w :=
  wp_region_any hm (wpAny_of_K _ _ _ _ h)
end
end Go.Proofs.Ythgajlmhgbhmlaa
