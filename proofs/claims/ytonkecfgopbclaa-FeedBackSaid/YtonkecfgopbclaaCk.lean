/- Chunks: their bytes; a slice of them that comes in. -/
import Derived.Test.YtonkecfgopbclaaRowK
import Derived.Test.YtonkecfgopbclaaBBytes
namespace Go.Proofs.Ytonkecfgopbclaa
open Go.ChangeShapes Go.WideShapes Go.ChangeAt Go.RowKit Go.Deep

/-! ### the document's bytes -/
abbrev DC := Nat × Nat × List UInt8
def rightC (d : DC) : Bool := decide (d.1 ≤ 31) && decide (d.2.2.length % 4 = 0) && decide (4 + d.2.2.length ≤ 200)
def headC (n t u : Nat) : List UInt8 := bytesI (128 + n) 1 ++ bytesI t 1 ++ bytesI u 2
def encC (d : DC) : List UInt8 := headC d.1 d.2.1 (d.2.2.length / 4) ++ d.2.2
def encs (ds : List DC) : List UInt8 := (ds.map encC).flatten
def joE (ds : List DC) : Int := if ds.all rightC = true then (if (encs ds).length ≤ 200 then 0 else 4) else 1
def joB (ds : List DC) : List UInt8 := if joE ds = 0 then encs ds else []
theorem right_iffC {d : DC} : rightC d = true ↔ d.1 ≤ 31 ∧ d.2.2.length % 4 = 0 ∧ 4 + d.2.2.length ≤ 200 := by
  simp only [rightC, Bool.and_eq_true, decide_eq_true_eq, and_assoc]
theorem bytesI1 (x : Nat) : bytesI x 1 = [UInt8.ofNat x] := by
  rw [bytesI, if_pos (by omega)]; simp [bytesL, List.range_succ]
theorem bytesI2 (x : Nat) : bytesI x 2 = [UInt8.ofNat (x / 256), UInt8.ofNat x] := by
  rw [bytesI, if_pos (by omega)]; simp [bytesL, List.range_succ]
theorem headC_eq (n t u : Nat) : headC n t u = [UInt8.ofNat (128 + n), UInt8.ofNat t, UInt8.ofNat (u / 256), UInt8.ofNat u] := by
  rw [headC, bytesI1, bytesI1, bytesI2]; rfl
theorem headC_len (n t u : Nat) : (headC n t u).length = 4 := by rw [headC_eq]; rfl
theorem encC_len (d : DC) : (encC d).length = 4 + d.2.2.length := by rw [encC, List.length_append, headC_len]
theorem encs_nil : encs [] = [] := rfl
theorem encs_cons (d : DC) (ds : List DC) : encs (d :: ds) = encC d ++ encs ds := rfl
theorem encs_snoc (ds : List DC) (d : DC) : encs (ds ++ [d]) = encs ds ++ encC d := by simp [encs]
theorem encs_app (a b : List DC) : encs (a ++ b) = encs a ++ encs b := by simp [encs]
theorem encs_le (l : List DC) (h : l.all rightC = true) : (encs l).length ≤ 200 * l.length := by
  induction l with
  | nil => simp [encs]
  | cons d l ih =>
    simp only [List.all_cons, Bool.and_eq_true, right_iffC] at h
    have := ih h.2
    rw [encs_cons, List.length_append, encC_len, List.length_cons]; omega
theorem jo_not {l : List DC} (h : l.all rightC = false) : joE l = 1 ∧ joB l = [] := by
  have h1 : joE l = 1 := by rw [joE, if_neg (by rw [h]; decide)]
  exact ⟨h1, by rw [joB, if_neg (by rw [h1]; decide)]⟩
theorem jo_long {l : List DC} (h : l.all rightC = true) (h2 : 200 < (encs l).length) : joE l = 4 ∧ joB l = [] := by
  have h1 : joE l = 4 := by rw [joE, if_pos h, if_neg (by omega)]
  exact ⟨h1, by rw [joB, if_neg (by rw [h1]; decide)]⟩
theorem jo_ok {l : List DC} (h : l.all rightC = true) (h2 : (encs l).length ≤ 200) : joE l = 0 ∧ joB l = encs l := by
  have h1 : joE l = 0 := by rw [joE, if_pos h, if_pos h2]
  exact ⟨h1, by rw [joB, if_pos h1]⟩
theorem jo_cases (l : List DC) : (joE l ≠ 0 ∧ joB l = []) ∨ (joE l = 0 ∧ joB l = encs l ∧ l.all rightC = true ∧ (encs l).length ≤ 200) := by
  by_cases h : l.all rightC = true
  · by_cases h2 : (encs l).length ≤ 200
    · exact .inr ⟨(jo_ok h h2).1, (jo_ok h h2).2, h, h2⟩
    · have := jo_long h (by omega)
      exact .inl ⟨by rw [this.1]; decide, this.2⟩
  · have := jo_not (by simpa using h)
    exact .inl ⟨by rw [this.1]; decide, this.2⟩
/-- a chunk's first four bytes tell its Count, its Type (below 256) and how long its Body is -/
theorem headC_inj {n t u n' t' u' : Nat} (h : headC n t u = headC n' t' u') (hn : n ≤ 31) (hn' : n' ≤ 31) (ht : t < 256) (ht' : t' < 256) (hu : u < 256) (hu' : u' < 256) : n = n' ∧ t = t' ∧ u = u' := by
  rw [headC_eq, headC_eq] at h
  simp only [List.cons.injEq, and_true] at h
  obtain ⟨h1, h2, _, h4⟩ := h
  have h1 := congrArg UInt8.toNat h1
  have h2 := congrArg UInt8.toNat h2
  have h4 := congrArg UInt8.toNat h4
  rw [UInt8.toNat_ofNat', UInt8.toNat_ofNat'] at h1 h2 h4
  omega
def okC (d : DC) : Prop := d.2.1 < 256
theorem encs_inj : ∀ (ds es : List DC), ds.all rightC = true → es.all rightC = true → (∀ d ∈ ds, okC d) → (∀ d ∈ es, okC d) → encs ds = encs es → ds = es
  | [], [], _, _, _, _, _ => rfl
  | [], e :: es, _, _, _, _, h => by
    have := congrArg List.length h
    rw [encs_cons, List.length_append, encC_len, encs_nil, List.length_nil] at this; omega
  | d :: ds, [], _, _, _, _, h => by
    have := congrArg List.length h
    rw [encs_cons, List.length_append, encC_len, encs_nil, List.length_nil] at this; omega
  | (n, t, b) :: ds, (n', t', b') :: es, hd, he, kd, ke, h => by
    simp only [List.all_cons, Bool.and_eq_true, right_iffC] at hd he
    have k1 : t < 256 := kd _ (List.mem_cons_self ..)
    have k2 : t' < 256 := ke _ (List.mem_cons_self ..)
    rw [encs_cons, encs_cons, encC, encC, List.append_assoc, List.append_assoc] at h
    obtain ⟨h1, h2⟩ := List.append_inj h (by rw [headC_len, headC_len])
    obtain ⟨rfl, rfl, h3⟩ := headC_inj h1 hd.1.1 he.1.1 k1 k2 (by have := hd.1.2.2; simp only at this ⊢; omega) (by have := he.1.2.2; simp only at this ⊢; omega)
    obtain ⟨rfl, h5⟩ := List.append_inj h2 (by have h6 := hd.1.2.1; have h7 := he.1.2.1; simp only at h3 h6 h7 ⊢; omega)
    rw [encs_inj ds es hd.2 he.2 (fun d h => kd d (List.mem_cons_of_mem _ h)) (fun d h => ke d (List.mem_cons_of_mem _ h)) h5]

/-! ### chunks that come in -/
structure Ck where
  n : Nat
  y : Nat
  v : Value
  b : List UInt8
def Ck.d (t : Ck) : DC := (t.n, t.y, t.b)
def Ck.row (t : Ck) : List Value := [.int .u8 (t.n : Nat), .int .u8 (t.y : Nat), t.v]
structure Ck.Ok (w : World) (t : Ck) : Prop where
  n : t.n < 256
  y : t.y < 256
  b : BS w t.v t.b
def CkS (w : World) (v : Value) (ts : List Ck) : Prop := RowsV 3 w v (ts.map Ck.row) ∧ ∀ t ∈ ts, t.Ok w
theorem CkS.fr {w w' : World} {v : Value} {ts : List Ck} (h : CkS w v ts) {F : Nat → Prop} (hf : Fr F w w') (hF : ∀ b, b < w.heap.size → ¬ F b) : CkS w' v ts :=
  ⟨h.1.fr hf hF, fun t ht => ⟨(h.2 t ht).n, (h.2 t ht).y, (h.2 t ht).b.fr hf hF⟩⟩
theorem CkS.below {w w' : World} {v : Value} {ts : List Ck} (h : CkS w v ts) (hb : Below w.heap.size w w') : CkS w' v ts := h.fr (Fr.of hb) (fun _ _ h => h)
/-- the cells of one of them -/
theorem CkS.at {w : World} {b o : Nat} {n c : Nat} {ts : List Ck} (h : CkS w (.slice (some ⟨b, o, none⟩) n c) ts) (i : Nat) (hi : i < ts.length) :
    w.cell? ⟨b, o + i * 3, none⟩ = some (.int .u8 (ts[i].n : Nat)) ∧ w.cell? ⟨b, o + i * 3 + 1, none⟩ = some (.int .u8 (ts[i].y : Nat)) ∧ w.cell? ⟨b, o + i * 3 + 2, none⟩ = some ts[i].v := by
  obtain ⟨⟨A, c', he, _, _, hr⟩, _⟩ := h
  simp only [Value.slice.injEq] at he
  obtain ⟨b', o', hA, _, hc⟩ := hr (by simp; omega)
  rw [hA] at he
  simp only [Option.some.injEq, Addr.mk.injEq, and_true] at he
  obtain ⟨⟨rfl, rfl⟩, _⟩ := he
  have := fun j u hu => hc i (by simpa using hi) j u (by simpa using hu)
  exact ⟨this 0 _ rfl, this 1 _ rfl, this 2 _ rfl⟩
theorem CkS.parts {w : World} {v : Value} {ts : List Ck} (h : CkS w v ts) : ∃ A c, v = .slice A ts.length c ∧ ts.length ≤ c ∧ c ≤ 9223372036854775807 ∧ (0 < ts.length → ∃ b o, A = some ⟨b, o, none⟩ ∧ b < w.heap.size) := by
  obtain ⟨⟨A, c, rfl, h1, h2, h3⟩, _⟩ := h
  have hl : (ts.map Ck.row).length = ts.length := List.length_map ..
  refine ⟨A, c, by rw [hl], by omega, by unfold maxLen at h2; omega, fun hp => ?_⟩
  obtain ⟨b, o, rfl, hb, _⟩ := h3 (by omega)
  exact ⟨b, o, rfl, hb⟩
theorem Ck.rows3 (ts : List Ck) : ∀ r ∈ ts.map Ck.row, r.length = 3 := by
  intro r hr
  obtain ⟨t, _, rfl⟩ := List.mem_map.1 hr
  rfl
def cellsC (ts : List Ck) : List Value := (ts.map Ck.row).flatten
theorem cellsC_snoc (ts : List Ck) (t : Ck) : cellsC ts ++ t.row = cellsC (ts ++ [t]) := by simp [cellsC]
theorem own_chunks {w : World} {base : Nat} {e : TypeId} {v : Value} {n : Nat} {ts : List Ck} (hn : ts.length = n) (h : w.ownsRow base e 3 v n (cellsC ts)) (hk : ∀ t ∈ ts, t.Ok w) : CkS w v ts :=
  ⟨own_rows (by simpa using hn) (Ck.rows3 ts) h, hk⟩
def ds (ts : List Ck) : List DC := ts.map Ck.d
theorem ds_len (ts : List Ck) : (ds ts).length = ts.length := by simp [ds]
theorem ds_snoc (ts : List Ck) (j : Nat) (h : j < ts.length) : ds (ts.take (j + 1)) = ds (ts.take j) ++ [ts[j].d] := by
  rw [List.take_succ_eq_append_getElem h, ds, ds, List.map_append]; rfl
theorem encs_step (ts : List Ck) (j : Nat) (h : j < ts.length) : encs (ds (ts.take (j + 1))) = encs (ds (ts.take j)) ++ encC ts[j].d := by rw [ds_snoc ts j h, encs_snoc]
theorem all_step (ts : List Ck) (j : Nat) (h : j < ts.length) (ha : (ds (ts.take j)).all rightC = true) (hr : rightC ts[j].d = true) : (ds (ts.take (j + 1))).all rightC = true := by
  rw [ds_snoc ts j h, List.all_append, ha]; simp [hr]
theorem all_not (ts : List Ck) (j : Nat) (h : j < ts.length) (hr : rightC ts[j].d = false) : (ds ts).all rightC = false := by
  rw [List.all_eq_false]
  exact ⟨ts[j].d, List.mem_map.2 ⟨_, List.getElem_mem h, rfl⟩, by simp [hr]⟩
theorem encs_take (ts : List Ck) (j : Nat) : (encs (ds (ts.take j))).length ≤ (encs (ds ts)).length := by
  have : ds ts = ds (ts.take j) ++ ds (ts.drop j) := by rw [ds, ds, ds, ← List.map_append, List.take_append_drop]
  rw [this, encs_app, List.length_append]; omega
theorem CkS.okd {w : World} {v : Value} {ts : List Ck} (h : CkS w v ts) : ∀ d ∈ ds ts, okC d := by
  intro d hd
  obtain ⟨t, ht, rfl⟩ := List.mem_map.1 hd
  exact (h.2 t ht).y
/-- few chunks, of few bytes -/
def fewC (ts : List Ck) : Bool := decide (ts.length ≤ 60) && ts.all fun t => decide (t.b.length ≤ 400)
theorem few_iff {ts : List Ck} : fewC ts = true ↔ ts.length ≤ 60 ∧ ∀ t ∈ ts, t.b.length ≤ 400 := by
  simp [fewC]
end Go.Proofs.Ytonkecfgopbclaa
