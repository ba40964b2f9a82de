/- Things: a slice of them that comes in; the walk of large. -/
import Derived.Test.YtglpgfanninbnaaRows8
namespace Go.Proofs.Ytglpgfanninbnaa
open Go.ChangeShapes Go.WideShapes Go.ChangeAt Go.RowKit Go.Deep

/-- a thing -/
structure Th where
  k : Int
  n : Int
  v : Value
  b : List UInt8
  e : Int
def Th.row (t : Th) : List Value := [.int .i64 t.k, .int .u32 t.n, t.v, .int .i64 t.e]
def Th.val (t : Th) : Value := .agg #[.int .i64 t.k, .int .u32 t.n, t.v, .int .i64 t.e]
structure Th.Ok (w : World) (t : Th) : Prop where
  n : Fits 4294967296 t.n
  b : BS w t.v t.b
def ThS (w : World) (v : Value) (ts : List Th) : Prop := RowsV 4 w v (ts.map Th.row) ∧ ∀ t ∈ ts, t.Ok w
theorem open_things {H : Type} {enc : TypeId × Value → H} {W : World} {base : Nat} {v : Value} {d : DataW H} {p : List MemPlace}
    (hval : Value.okWide Try.prog W .any base 22 v)
    (h : DataW.Trod enc Try.prog W 0 (fun _ => true) true 22 v d p) : ∃ ts, ThS W v ts := by
  obtain ⟨A, len, cap, rfl⟩ := okWide_slice Try.underlying22 hval
  obtain ⟨fuel, hf⟩ := h
  obtain ⟨rs, hr, hall⟩ := rows_of_trod Try.underlying22 (k := 4) (by kernel_rfl) (by decide) hf
  have h1 : ∀ r ∈ rs, ∃ t : Th, r = t.row ∧ t.Ok W := fun r hr => by
    obtain ⟨n, y, hy⟩ := hall r hr
    obtain ⟨hl, hfs⟩ := fields_of_trod Try.underlying32 (by kernel_rfl) (by kernel_rfl) hy
    obtain ⟨v0, n0, y0, e0, t0⟩ := hfs 0 _ rfl
    obtain ⟨v1, n1, y1, e1, t1⟩ := hfs 1 _ rfl
    obtain ⟨v2, n2, y2, e2, t2⟩ := hfs 2 _ rfl
    obtain ⟨v3, n3, y3, e3, t3⟩ := hfs 3 _ rfl
    obtain ⟨z0, rfl, _⟩ := int_of_trod Try.underlying3 t0
    obtain ⟨z1, rfl, w1⟩ := int_of_trod Try.underlying29 t1
    obtain ⟨l2, b2⟩ := bs_of_trod Try.underlying26 Try.underlying5 (by kernel_rfl) t2
    obtain ⟨z3, rfl, _⟩ := int_of_trod Try.underlying30 t3
    refine ⟨⟨z0, z1, v2, l2, z3⟩, ?_, fits_u32 w1, b2⟩
    have hl4 : r.length = 4 := hl
    match r, hl4 with
    | [a, b, c, d], _ =>
      simp at e0 e1 e2 e3
      simp [Th.row, e0, e1, e2, e3]
  have h2 : ∃ ts : List Th, rs = ts.map Th.row ∧ ∀ t ∈ ts, t.Ok W := by
    clear hr hall
    induction rs with
    | nil => exact ⟨[], rfl, by simp⟩
    | cons r rs ih =>
      obtain ⟨ts, rfl, ht⟩ := ih (fun r hr => h1 r (List.mem_cons_of_mem _ hr))
      obtain ⟨t, rfl, hok⟩ := h1 r (List.mem_cons_self ..)
      refine ⟨t :: ts, rfl, fun x hx => ?_⟩
      rcases List.mem_cons.1 hx with rfl | hx
      · exact hok
      · exact ht x hx
  obtain ⟨ts, rfl, hok⟩ := h2
  exact ⟨ts, hr, hok⟩
theorem ThS.fr {w w' : World} {v : Value} {ts : List Th} (h : ThS w v ts) {F : Nat → Prop} (hf : Fr F w w') (hF : ∀ b, b < w.heap.size → ¬ F b) : ThS w' v ts :=
  ⟨h.1.fr hf hF, fun t ht => ⟨(h.2 t ht).n, (h.2 t ht).b.fr hf hF⟩⟩
/-- the cells of one of them -/
theorem ThS.at {w : World} {b o : Nat} {n c : Nat} {ts : List Th} (h : ThS w (.slice (some ⟨b, o, none⟩) n c) ts) (i : Nat) (hi : i < ts.length) :
    w.cell? ⟨b, o + i * 4, none⟩ = some (.int .i64 ts[i].k) ∧ w.cell? ⟨b, o + i * 4 + 1, none⟩ = some (.int .u32 ts[i].n) ∧ w.cell? ⟨b, o + i * 4 + 2, none⟩ = some ts[i].v ∧ w.cell? ⟨b, o + i * 4 + 3, none⟩ = some (.int .i64 ts[i].e) := by
  obtain ⟨⟨A, c', he, _, _, hr⟩, _⟩ := h
  simp only [Value.slice.injEq] at he
  obtain ⟨b', o', hA, _, hc⟩ := hr (by simp; omega)
  rw [hA] at he
  simp only [Option.some.injEq, Addr.mk.injEq, and_true] at he
  obtain ⟨⟨rfl, rfl⟩, _⟩ := he
  have := fun j u hu => hc i (by simpa using hi) j u (by simpa using hu)
  exact ⟨this 0 _ rfl, this 1 _ rfl, this 2 _ rfl, this 3 _ rfl⟩
theorem ThS.parts {w : World} {v : Value} {ts : List Th} (h : ThS w v ts) : ∃ A c, v = .slice A ts.length c ∧ ts.length ≤ c ∧ c ≤ 9223372036854775807 ∧ (0 < ts.length → ∃ b o, A = some ⟨b, o, none⟩ ∧ b < w.heap.size) := by
  obtain ⟨⟨A, c, rfl, h1, h2, h3⟩, _⟩ := h
  have hl : (ts.map Th.row).length = ts.length := List.length_map ..
  refine ⟨A, c, by rw [hl], by omega, by unfold maxLen at h2; omega, fun hp => ?_⟩
  obtain ⟨b, o, rfl, hb, _⟩ := h3 (by omega)
  exact ⟨b, o, rfl, hb⟩
/-- few things, of few bytes -/
def fewB (ts : List Th) : Bool := decide (ts.length ≤ 60) && ts.all fun t => decide (t.b.length ≤ 40)
set_option maxHeartbeats 400000 in
theorem large_any (v : Value) (ts : List Th) (w : World) (h : ThS w v ts) :
    Calls Try.prog 7 #[v] w fun e w' => e = .returned (.bool (!fewB ts)) ∧ Below w.heap.size w w' := by
  have HT := Lib.hid h
  obtain ⟨A, c, rfl, hc, hcm, hA⟩ := h.parts
  have HA := Lib.hid hA
  clear h hA
  refine calls_q fun Q HQ => ?_
  by_cases h60 : (60 : Int) < (ts.length : Int)
  · go_enter Try.func7, Try.ntmps7
    go_wp2_with fail
    refine HQ.out _ _ ⟨ret_bool ?_, Below.refl _ _⟩
    simp [fewB]; omega
  · go_enter Try.func7, Try.ntmps7
    go_wp2_with fail
    go_loopw [10] (fun i wr => ∃ j : Nat, j ≤ ts.length ∧ i = .int .i64 j ∧ Below w.heap.size w wr ∧ (∀ k (h : k < ts.length), k < j → ts[k].b.length ≤ 40)) (fun i _ => ts.length - (intOf i).toNat)
    case atStart => exact ⟨0, Nat.zero_le _, rfl, Below.refl _ _, fun k _ hk => by omega⟩
    case round =>
      obtain ⟨j, hj, rfl, hb, hall⟩ := hrel
      have HB := Lib.hid hb
      have HL := Lib.hid hall
      clear hb hall
      by_cases hlt : j < ts.length
      · obtain ⟨b, o, rfl, hbl⟩ := HA.out (by omega)
        obtain ⟨c0, c1, c2, c3⟩ := (HT.out.fr (Fr.of HB.out) (fun _ _ h => h)).at j hlt
        have hbs := ((HT.out.2 _ (List.getElem_mem hlt)).b).below HB.out
        have hbl2 := Nat.lt_of_lt_of_le hbl HB.out.size
        obtain ⟨A2, cc, hv, _, hcm2, _⟩ := bs_parts hbs
        rw [hv] at c2
        clear hbs hv
        have h0 : (0 : Int) ≤ (j : Int) := by omega
        have h1 : (j : Int) < (ts.length : Int) := by omega
        by_cases h40 : (40 : Int) < (ts[j].b.length : Int)
        · go_wp2_with fail
          refine HQ.out _ _ ⟨ret_bool ?_, HB.out.alloc HB.out.size _⟩
          have hm := List.getElem_mem hlt
          symm
          simp only [fewB, Bool.not_eq_true', Bool.and_eq_false_iff, List.all_eq_false]
          exact .inr ⟨_, hm, by simp; omega⟩
        · go_wp2_with fail
          go_roundw
          case rel =>
            refine ⟨j + 1, by omega, by go_num, HB.out.alloc HB.out.size _, fun k hk hkj => ?_⟩
            by_cases hkj2 : k = j
            · subst hkj2; omega
            · exact HL.out k hk (by omega)
          case measure => simp [intOf]; omega
      · have : j = ts.length := by omega
        subst this
        go_wp2_with fail
        refine HQ.out _ _ ⟨ret_bool ?_, HB.out⟩
        symm
        simp only [fewB, Bool.not_eq_false', Bool.and_eq_true, List.all_eq_true, decide_eq_true_eq]
        refine ⟨by omega, fun t ht => ?_⟩
        obtain ⟨k, hk, rfl⟩ := List.getElem_of_mem ht
        exact HL.out k hk hk
end Go.Proofs.Ytglpgfanninbnaa
