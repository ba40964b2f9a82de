/- Items: their bytes; a slice of them that comes in; rows of elements of k cells that grow. -/
import Derived.Test.YtgcppknfigianaaRows8
namespace Go.Proofs.Ytgcppknfigianaa
open Go.ChangeShapes Go.WideShapes Go.ChangeAt Go.RowKit Go.Deep

/-! ### the document's bytes -/
abbrev DI := Nat × List UInt8
def rightI (d : DI) : Bool := decide (1 ≤ d.1) && decide (d.1 ≤ 14) && decide (1 ≤ d.2.length) && decide (d.2.length ≤ 16)
def encI (d : DI) : List UInt8 := UInt8.ofNat (16 * d.1 + (d.2.length - 1)) :: d.2
def encs (ds : List DI) : List UInt8 := (ds.map encI).flatten
def padN (n : Nat) : Nat := (4 - n % 4) % 4
def zeros (n : Nat) : List UInt8 := List.replicate n 0
def exE (ds : List DI) : Int := if ds.all rightI = true then (if (encs ds).length ≤ 200 then 0 else 4) else 1
def exB (ds : List DI) : List UInt8 := encs ds ++ zeros (padN (encs ds).length)
theorem right_iffI {d : DI} : rightI d = true ↔ 1 ≤ d.1 ∧ d.1 ≤ 14 ∧ 1 ≤ d.2.length ∧ d.2.length ≤ 16 := by
  simp only [rightI, Bool.and_eq_true, decide_eq_true_eq, and_assoc]
theorem encs_nil : encs [] = [] := rfl
theorem encs_cons (d : DI) (ds : List DI) : encs (d :: ds) = encI d ++ encs ds := rfl
theorem encs_snoc (ds : List DI) (d : DI) : encs (ds ++ [d]) = encs ds ++ encI d := by simp [encs]
theorem encI_len (d : DI) : (encI d).length = 1 + d.2.length := by simp [encI]; omega
theorem zeros_len (n : Nat) : (zeros n).length = n := by simp [zeros]
theorem zeros_snoc (n : Nat) : zeros n ++ [0] = zeros (n + 1) := by simp [zeros, List.replicate_succ']
theorem exB_len4 (ds : List DI) : (exB ds).length % 4 = 0 := by
  simp only [exB, List.length_append, zeros_len, padN]; omega
theorem exB_le (ds : List DI) (h : (encs ds).length ≤ 200) : (exB ds).length ≤ 200 := by
  simp only [exB, List.length_append, zeros_len, padN]; omega
theorem byte1 (n k : Nat) (hn : n ≤ 14) (hk : k ≤ 15) : (UInt8.ofNat (16 * n + k)).toNat = 16 * n + k := by rw [UInt8.toNat_ofNat']; omega
/-- items are told by their bytes, whatever stands behind as bytes 0 -/
theorem encs_inj : ∀ (ds es : List DI) (j k : Nat), ds.all rightI = true → es.all rightI = true → encs ds ++ zeros j = encs es ++ zeros k → ds = es
  | [], [], _, _, _, _, _ => rfl
  | [], e :: es, j, k, _, he, h => by
    simp only [List.all_cons, Bool.and_eq_true, right_iffI] at he
    exfalso
    cases j with
    | zero => simp [encs, encI, zeros] at h
    | succ j =>
      simp only [encs_nil, encs_cons, encI, zeros, List.replicate_succ, List.nil_append, List.cons_append, List.cons.injEq] at h
      have := congrArg UInt8.toNat h.1
      rw [byte1 _ _ (by omega) (by omega)] at this
      simp at this; omega
  | d :: ds, [], j, k, hd, _, h => by
    simp only [List.all_cons, Bool.and_eq_true, right_iffI] at hd
    exfalso
    cases k with
    | zero => simp [encs, encI, zeros] at h
    | succ k =>
      simp only [encs_nil, encs_cons, encI, zeros, List.replicate_succ, List.nil_append, List.cons_append, List.cons.injEq] at h
      have := congrArg UInt8.toNat h.1
      rw [byte1 _ _ (by omega) (by omega)] at this
      simp at this; omega
  | d :: ds, e :: es, j, k, hd, he, h => by
    simp only [List.all_cons, Bool.and_eq_true, right_iffI] at hd he
    simp only [encs_cons, encI, List.cons_append, List.cons.injEq, List.append_assoc] at h
    obtain ⟨h1, h2⟩ := h
    have := congrArg UInt8.toNat h1
    rw [byte1 _ _ (by omega) (by omega), byte1 _ _ (by omega) (by omega)] at this
    have h3 : d.1 = e.1 := by omega
    have h4 : d.2.length = e.2.length := by omega
    obtain ⟨h5, h6⟩ := List.append_inj h2 h4
    rw [encs_inj ds es j k hd.2 he.2 h6, show d = e from Prod.ext h3 h5]
theorem exB_inj (ds es : List DI) (h1 : ds.all rightI = true) (h2 : es.all rightI = true) : (exB ds == exB es) = decide (ds = es) := by
  by_cases h : ds = es
  · subst h; simp
  · rw [decide_eq_false h]
    simp only [beq_eq_false_iff_ne, ne_eq]
    exact fun he => h (encs_inj ds es _ _ h1 h2 he)

/-! ### items that come in -/
structure It where
  n : Nat
  v : Value
  b : List UInt8
def It.d (t : It) : DI := (t.n, t.b)
def It.row (t : It) : List Value := [.int .u8 (t.n : Nat), t.v]
structure It.Ok (w : World) (t : It) : Prop where
  n : t.n < 256
  b : BS w t.v t.b
def ItS (w : World) (v : Value) (ts : List It) : Prop := RowsV 2 w v (ts.map It.row) ∧ ∀ t ∈ ts, t.Ok w
theorem open_items {H : Type} {enc : TypeId × Value → H} {W : World} {base : Nat} {v : Value} {d : DataW H} {p : List MemPlace}
    (hval : Value.okWide Try.prog W .any base 22 v)
    (h : DataW.Trod enc Try.prog W 0 (fun _ => true) true 22 v d p) : ∃ ts, ItS W v ts := by
  obtain ⟨A, len, cap, rfl⟩ := okWide_slice Try.underlying22 hval
  obtain ⟨fuel, hf⟩ := h
  obtain ⟨rs, hr, hall⟩ := rows_of_trod Try.underlying22 (k := 2) (by kernel_rfl) (by decide) hf
  have h1 : ∀ r ∈ rs, ∃ t : It, r = t.row ∧ t.Ok W := fun r hr => by
    obtain ⟨n, y, hy⟩ := hall r hr
    obtain ⟨hl, hfs⟩ := fields_of_trod Try.underlying37 (by kernel_rfl) (by kernel_rfl) hy
    obtain ⟨v0, n0, y0, e0, t0⟩ := hfs 0 _ rfl
    obtain ⟨v1, n1, y1, e1, t1⟩ := hfs 1 _ rfl
    obtain ⟨z0, rfl, w0⟩ := int_of_trod Try.underlying5 t0
    obtain ⟨l1, b1⟩ := bs_of_trod Try.underlying25 Try.underlying5 (by kernel_rfl) t1
    have hf := fits_u8 w0
    have := hf.lo; have := hf.hi
    refine ⟨⟨z0.toNat, v1, l1⟩, ?_, by show z0.toNat < 256; omega, b1⟩
    have hl2 : r.length = 2 := hl
    match r, hl2 with
    | [a, b], _ =>
      simp at e0 e1
      simp [It.row, e0, e1]
      omega
  have h2 : ∃ ts : List It, rs = ts.map It.row ∧ ∀ t ∈ ts, t.Ok W := by
    clear hr hall
    induction rs with
    | nil => exact ⟨[], rfl, by simp⟩
    | cons r rs ih =>
      obtain ⟨ts, rfl, ht⟩ := ih (fun r hr => h1 r (List.mem_cons_of_mem _ hr))
      obtain ⟨t, rfl, hok⟩ := h1 r (List.mem_cons_self ..)
      refine ⟨t :: ts, rfl, fun x hx => ?_⟩
      rcases List.mem_cons.1 hx with rfl | hx
      · exact hok
      · exact ht x hx
  obtain ⟨ts, rfl, hok⟩ := h2
  exact ⟨ts, hr, hok⟩
theorem ItS.fr {w w' : World} {v : Value} {ts : List It} (h : ItS w v ts) {F : Nat → Prop} (hf : Fr F w w') (hF : ∀ b, b < w.heap.size → ¬ F b) : ItS w' v ts :=
  ⟨h.1.fr hf hF, fun t ht => ⟨(h.2 t ht).n, (h.2 t ht).b.fr hf hF⟩⟩
theorem ItS.below {w w' : World} {v : Value} {ts : List It} (h : ItS w v ts) (hb : Below w.heap.size w w') : ItS w' v ts := h.fr (Fr.of hb) (fun _ _ h => h)
/-- the cells of one of them -/
theorem ItS.at {w : World} {b o : Nat} {n c : Nat} {ts : List It} (h : ItS w (.slice (some ⟨b, o, none⟩) n c) ts) (i : Nat) (hi : i < ts.length) :
    w.cell? ⟨b, o + i * 2, none⟩ = some (.int .u8 (ts[i].n : Nat)) ∧ w.cell? ⟨b, o + i * 2 + 1, none⟩ = some ts[i].v := by
  obtain ⟨⟨A, c', he, _, _, hr⟩, _⟩ := h
  simp only [Value.slice.injEq] at he
  obtain ⟨b', o', hA, _, hc⟩ := hr (by simp; omega)
  rw [hA] at he
  simp only [Option.some.injEq, Addr.mk.injEq, and_true] at he
  obtain ⟨⟨rfl, rfl⟩, _⟩ := he
  have := fun j u hu => hc i (by simpa using hi) j u (by simpa using hu)
  exact ⟨this 0 _ rfl, this 1 _ rfl⟩
theorem ItS.parts {w : World} {v : Value} {ts : List It} (h : ItS w v ts) : ∃ A c, v = .slice A ts.length c ∧ ts.length ≤ c ∧ c ≤ 9223372036854775807 ∧ (0 < ts.length → ∃ b o, A = some ⟨b, o, none⟩ ∧ b < w.heap.size) := by
  obtain ⟨⟨A, c, rfl, h1, h2, h3⟩, _⟩ := h
  have hl : (ts.map It.row).length = ts.length := List.length_map ..
  refine ⟨A, c, by rw [hl], by omega, by unfold maxLen at h2; omega, fun hp => ?_⟩
  obtain ⟨b, o, rfl, hb, _⟩ := h3 (by omega)
  exact ⟨b, o, rfl, hb⟩
/-! ### a row of elements of k cells that is the call's own -/
theorem flat_get {k : Nat} : ∀ (rs : List (List Value)) (i j : Nat) (u : Value), (∀ r ∈ rs, r.length = k) → (h : i < rs.length) → rs[i][j]? = some u → rs.flatten[i * k + j]? = some u
  | [], i, _, _, _, h, _ => absurd h (by simp)
  | r :: rs, 0, j, u, hk, _, hu => by
    simp only [List.getElem_cons_zero] at hu
    have : j < r.length := (List.getElem?_eq_some_iff.1 hu).1
    rw [List.flatten_cons, Nat.zero_mul, Nat.zero_add, List.getElem?_append_left this, hu]
  | r :: rs, i + 1, j, u, hk, h, hu => by
    simp only [List.getElem_cons_succ] at hu
    have hr := hk r (List.mem_cons_self ..)
    have ih := flat_get rs i j u (fun r hr => hk r (List.mem_cons_of_mem _ hr)) (by simpa using h) hu
    rw [List.flatten_cons, List.getElem?_append_right (by rw [hr, Nat.add_mul]; omega), hr, ← ih, Nat.add_mul]
    congr 1; omega
theorem own_rows {k : Nat} {w : World} {base : Nat} {e : TypeId} {v : Value} {n : Nat} {rs : List (List Value)} (hn : rs.length = n) (hk : ∀ r ∈ rs, r.length = k) (h : w.ownsRow base e k v n rs.flatten) : RowsV k w v rs := by
  subst hn
  rcases h.2 with ⟨rfl, h0⟩ | ⟨g, cap, cur, rfl, hg, hh, hn, hm, hs, ht⟩
  · exact ⟨none, 0, by rw [h0], by omega, Nat.zero_le _, fun h => by omega⟩
  · refine ⟨_, _, rfl, hn, hm, fun hp => ⟨g, 0, rfl, (Array.getElem?_eq_some_iff.1 hh).1, fun i hi j u hu => ?_⟩⟩
    have h1 := flat_get rs i j u hk hi hu
    rw [cell_of_row w g _ cur e (0, 0) hh]
    rw [← ht, List.getElem?_take] at h1
    split at h1
    · rw [← h1]; simp
    · cases h1
theorem It.rows2 (ts : List It) : ∀ r ∈ ts.map It.row, r.length = 2 := by
  intro r hr
  obtain ⟨t, _, rfl⟩ := List.mem_map.1 hr
  rfl
def cellsI (ts : List It) : List Value := (ts.map It.row).flatten
theorem cellsI_snoc (ts : List It) (t : It) : cellsI ts ++ t.row = cellsI (ts ++ [t]) := by simp [cellsI]
theorem own_items {w : World} {base : Nat} {e : TypeId} {v : Value} {n : Nat} {ts : List It} (hn : ts.length = n) (h : w.ownsRow base e 2 v n (cellsI ts)) (hk : ∀ t ∈ ts, t.Ok w) : ItS w v ts :=
  ⟨own_rows (by simpa using hn) (It.rows2 ts) h, hk⟩
section
variable {P : Program} {w : World}
/-- append onto a row of the call's own, of elements that are there -/
theorem wpl_appk {ops : Array Oper} {rest : List Oper} {o : Oper} {a : Act} {Q : Exit → Act → World → Prop} (hgd : o.guard = none) (s x : Operand) (t : TypeId)
    (ho : o.op = .call { callee := .builtin .append, args := #[s, x], argTypes := #[t, t] })
    (base : Nat) (e : TypeId) (z : Value) (size bytes : Nat) (ht : P.underlying t = some (.slice e)) (hi : (P.info? e).map (fun i => (i.zero, i.size, i.bytes)) = some (some z, size, bytes))
    (hz : z.cells.size = size) (hsz : 0 < size) (v : Value) (n : Nat) (xs : List Value) (hs : a.eval s = v) (hown : w.ownsRow base e size v n xs) (ad : Addr) (m c : Nat) (news : List Value) (hx : a.eval x = .slice (some ad) m c)
    (hl : news.length = m * size) (hsrc : ∀ j u, news[j]? = some u → w.cell? (ad.add j) = some u) (h1 : ∀ u ∈ news, u.oneCell' = true) (h63 : n + m ≤ maxLen) (hb : (n + m) * bytes ≤ 140737488355328) (hbase : base ≤ w.heap.size)
    (h : ∀ v' w', w'.ownsRow base e size v' (n + m) (xs ++ news) → w.grownBy w' v.ownBlock → (v'.ownBlock = v.ownBlock ∨ v'.ownBlock = some w.heap.size) → wpList P ops Q rest (a.put o.dst v') w') :
    wpList P ops Q (o :: rest) a w := by
  obtain ⟨i, hi, hz0, hsz', hby⟩ := info_parts hi
  obtain ⟨v', w', hr, h2, h3, _, h4⟩ := run_append_own_at (P := P) w base t o.type e i z size bytes ht hi hz0 hsz' hby hz hsz v n xs hown ad m c news hl hsrc h1 h63 hb hbase
  refine wpList_plain hgd fun K hK => ?_
  unfold Oper.wp execOp
  simp only [ho, resolve, invoke, builtin, Sem.run_bind, Sem.run_pure, Result.andThen_ok, List.map_toArray, List.map_cons, List.map_nil, hs, hx, hr]
  exact hK _ _ (h v' w' h2 h3 h4)
end
theorem new_cells (w : World) (cs : List Value) (t : TypeId) : ∀ j u, cs[j]? = some u → (w.alloc (.cells cs.toArray t)).cell? ((⟨w.heap.size, 0, none⟩ : Addr).add j) = some u := by
  intro j u hu
  have : (⟨w.heap.size, 0, none⟩ : Addr).add j = ⟨w.heap.size, j, none⟩ := by rw [RowV.add rfl]; simp
  rw [this, cell_of_row _ w.heap.size j cs.toArray t (0, 0) (heap_alloc_new w _)]
  simpa using hu
theorem own_new2 (w : World) (base : Nat) (e : TypeId) (h : base ≤ w.heap.size) : (w.alloc (.cells #[] e)).ownsRow base e 2 (.slice (some ⟨w.heap.size, 0, none⟩) 0 0) 0 [] :=
  ⟨rfl, .inr ⟨w.heap.size, 0, #[], rfl, h, heap_alloc_new w _, Nat.le_refl _, (by unfold maxLen; omega), rfl, rfl⟩⟩
/-- what an append leaves of all else -/
theorem Fr.app {w w' : World} {v : Value} (h : w.grownBy w' v.ownBlock) : Fr (fun k => some k = v.ownBlock) w w' := Fr.grown h
/-- few items, of few bytes -/
def fewI (ts : List It) : Bool := decide (ts.length ≤ 40) && ts.all fun t => decide (t.b.length ≤ 400)
theorem few_iff {ts : List It} : fewI ts = true ↔ ts.length ≤ 40 ∧ ∀ t ∈ ts, t.b.length ≤ 400 := by
  simp [fewI]
end Go.Proofs.Ytgcppknfigianaa
