/- The walks of own and large: a message as the document's; is it more than is looked at? -/
import Derived.Test.YtonkecfgopbclaaFRd
namespace Go.Proofs.Ytonkecfgopbclaa
open Go.RowKit

abbrev oRef (k : Int) (se me : Nat) (va vl : Value) : Obj := .cells #[.int .i64 k, .int .u32 (se : Nat), .int .u32 (me : Nat), va, vl] 40 (0, 0)
/-- a message of the document's that grows -/
structure FoS (w0 : World) (rx ob : Nat) (o : Obj) (sv : Value) (xs : List (Nat × Nat)) (w : World) : Prop where
  res : w.heap[rx]? = some (oRef 0 0 0 (.slice none 0 0) (.slice none 0 0))
  p : w.heap[ob]? = some o
  own : w.ownsRow (ob + 1) 67 2 sv xs.length (cellsA xs)
  below : Below w0.heap.size w0 w
  o0 : w0.heap.size ≤ rx
  o1 : rx < ob
section
variable {w0 : World} {rx ob : Nat} {o : Obj} {sv : Value} {xs : List (Nat × Nat)} {w w' : World}
theorem FoS.fr0 (h : FoS w0 rx ob o sv xs w) (hf : Fr F0 w w') : FoS w0 rx ob o sv xs w' :=
  ⟨hf.heap h.res (fun h => h), hf.heap h.p (fun h => h), hf.own h.own (fun _ _ h => h), h.below.trans (hf.below h.below.size (fun _ hk => hk.elim)), h.o0, h.o1⟩
theorem FoS.app (h : FoS w0 rx ob o sv xs w) {sv' : Value} {x : Nat × Nat} (ho : w'.ownsRow (ob + 1) 67 2 sv' (xs.length + 1) (cellsA xs ++ rowA x)) (hg : w.grownBy w' sv.ownBlock) : FoS w0 rx ob o sv' (xs ++ [x]) w' := by
  have h0 := h.o0; have h1 := h.o1
  have hf := Fr.grown hg
  have hlt : ∀ k, some k = sv.ownBlock → ob + 1 ≤ k := fun k hk => (h.own.lt k hk.symm).1
  have hsz := h.below.size
  refine ⟨hf.heap h.res (fun hx => by have := hlt _ hx; omega), hf.heap h.p (fun hx => by have := hlt _ hx; omega), ?_, h.below.trans (hf.below hsz (fun k hk => by have := hlt k hk; omega)), h0, h1⟩
  rw [← cellsA_snoc, List.length_append]
  exact ho
theorem FoS.set {cs : Array Value} {t : TypeId} (h : FoS w0 rx ob (.cells cs t (0, 0)) sv xs w) (i : Nat) (u : Value) : FoS w0 rx ob (.cells (cs.setIfInBounds i u) t (0, 0)) sv xs (w.setCell ⟨ob, i, none⟩ u) := by
  have h0 := h.o0; have h1 := h.o1
  have hf : Fr (F1 ob) w (w.setCell ⟨ob, i, none⟩ u) := Fr.setCell w ⟨ob, i, none⟩ u
  have hsz := h.below.size
  exact ⟨hf.heap h.res (fun (hx : rx = ob) => by omega), obj_set h.p i u, hf.own h.own (fun k hk (hx : k = ob) => by have := (h.own.lt k hk).1; omega), h.below.trans (hf.below hsz (fun k (hk : k = ob) => by omega)), h0, h1⟩
end
theorem frz5m {w : World} {b : Nat} {cs : Array Value} {t : TypeId} (h : w.heap[b]? = some (.cells cs t (0, 0))) :
    w.frozen? ⟨b, 0, none⟩ = false ∧ w.frozen? ⟨b, 1, none⟩ = false ∧ w.frozen? ⟨b, 2, none⟩ = false ∧ w.frozen? ⟨b, 3, none⟩ = false ∧ w.frozen? ⟨b, 4, none⟩ = false :=
  ⟨obj_frozen h 0, obj_frozen h 1, obj_frozen h 2, obj_frozen h 3, obj_frozen h 4⟩
theorem rowA_one (a : Nat × Nat) : ∀ u ∈ rowA a, u.oneCell' = true := by
  intro u hu
  simp [rowA] at hu
  rcases hu with rfl | rfl <;> rfl
set_option maxHeartbeats 2000000 in
theorem fown_any (k : Int) (se me : Nat) (va vl : Value) (ak : List (Nat × Nat)) (lo : List Int) (w : World) (ha : AsS w va ak) (hl : LoS w vl lo) (hm : ak.length ≤ 1000) :
    Calls Try.prog 11 #[.agg #[.int .i64 k, .int .u32 (se : Nat), .int .u32 (me : Nat), va, vl]] w
      fun e w' => ∃ u, e = .returned (.agg #[.int .i64 k, .int .u32 (se : Nat), .int .u32 (me : Nat), u, vl]) ∧ AsS w' u ak ∧ LoS w' vl lo ∧ Below w.heap.size w w' := by
  have HT := Lib.hid ha
  have HTl := Lib.hid hl
  obtain ⟨A, c, rfl, _, hc2, hp⟩ := ha.parts
  obtain ⟨A2, c2, rfl, _, hc3⟩ := hl.parts
  clear ha hl hp
  refine calls_q fun Q HQ => ?_
  have hs : FoS w (w.heap.size + 1) (w.heap.size + 1 + 1) (oRef k se me (.slice none 0 0) (.slice A2 lo.length c2)) (.slice none 0 0) [] (((w.alloc (oMsg k se me (.slice A ak.length c) (.slice A2 lo.length c2))).alloc (oRef 0 0 0 (.slice none 0 0) (.slice none 0 0))).alloc (oRef k se me (.slice none 0 0) (.slice A2 lo.length c2))) := by
    have hb1 := below_alloc (w := w) (oMsg k se me (.slice A ak.length c) (.slice A2 lo.length c2))
    have hb2 := hb1.alloc hb1.size (oRef 0 0 0 (.slice none 0 0) (.slice none 0 0))
    have hb3 := hb2.alloc hb2.size (oRef k se me (.slice none 0 0) (.slice A2 lo.length c2))
    have h1 := heap_alloc_new (w.alloc (oMsg k se me (.slice A ak.length c) (.slice A2 lo.length c2))) (oRef 0 0 0 (.slice none 0 0) (.slice none 0 0))
    have h2 := heap_alloc_new ((w.alloc (oMsg k se me (.slice A ak.length c) (.slice A2 lo.length c2))).alloc (oRef 0 0 0 (.slice none 0 0) (.slice none 0 0))) (oRef k se me (.slice none 0 0) (.slice A2 lo.length c2))
    have h3 := (Fr.alloc ((w.alloc (oMsg k se me (.slice A ak.length c) (.slice A2 lo.length c2))).alloc (oRef 0 0 0 (.slice none 0 0) (.slice none 0 0))) (oRef k se me (.slice none 0 0) (.slice A2 lo.length c2))).heap h1 (fun h => h)
    rw [World.size_alloc, World.size_alloc] at h2
    rw [World.size_alloc] at h3
    exact ⟨h3, h2, World.ownsRow_nil _ _ _ _, hb3, Nat.le_succ _, Nat.lt_succ_self _⟩
  have HS := Lib.hid hs
  clear hs
  go_enter Try.func11, Try.ntmps11
  go_upto_region 3 with fail
  rw [show (((w.alloc (.cells #[.int .i64 k, .int .u32 (se : Nat), .int .u32 (me : Nat), .slice A ak.length c, .slice A2 lo.length c2] 26)).alloc (.cells #[.int .i64 0, .int .u32 0, .int .u32 0, .slice none 0 0, .slice none 0 0] 40)).alloc (.cells #[.int .i64 k, .int .u32 (se : Nat), .int .u32 (me : Nat), .slice none 0 0, .slice A2 lo.length c2] 40)) = (((w.alloc (oMsg k se me (.slice A ak.length c) (.slice A2 lo.length c2))).alloc (oRef 0 0 0 (.slice none 0 0) (.slice none 0 0))).alloc (oRef k se me (.slice none 0 0) (.slice A2 lo.length c2))) from rfl]
  generalize (((w.alloc (oMsg k se me (.slice A ak.length c) (.slice A2 lo.length c2))).alloc (oRef 0 0 0 (.slice none 0 0) (.slice none 0 0))).alloc (oRef k se me (.slice none 0 0) (.slice A2 lo.length c2))) = w3 at *
  generalize w.heap.size + 1 + 1 = ob at *
  generalize w.heap.size + 1 = rx at *
  go_loopw [18] (fun i wr => ∃ (j : Nat) (sv : Value), j ≤ ak.length ∧ i = .int .i64 j ∧ FoS w rx ob (oRef k se me sv (.slice A2 lo.length c2)) sv (ak.take j) wr) (fun i _ => ak.length - (intOf i).toNat)
  case atStart => exact ⟨0, .slice none 0 0, Nat.zero_le _, rfl, HS.out⟩
  case round =>
    obtain ⟨j, sv, hj, rfl, hs⟩ := hrel
    obtain ⟨A5, c5, rfl⟩ := own_slice hs.own
    have hjl : (ak.take j).length = j := by simp; omega
    rw [hjl] at hs
    have HSt := Lib.hid hs
    clear hs
    by_cases hlt : j < ak.length
    · obtain ⟨_, _, he, _, _, hp⟩ := (HT.out.below HSt.out.below).parts
      simp only [Value.slice.injEq, true_and] at he
      obtain ⟨rfl, rfl⟩ := he
      obtain ⟨b, o, rfl, hbl2, hcell⟩ := hp (by omega)
      obtain ⟨c0, c1⟩ := hcell j hlt
      have h0 : (0 : Int) ≤ (j : Int) := by omega
      have h1 : (j : Int) < (ak.length : Int) := by omega
      have HTk := Lib.hid (List.take_succ_eq_append_getElem hlt)
      clear hcell hp
      generalize ak[j] = bj at *
      obtain ⟨s, p⟩ := bj
      simp only at c0 c1
      have HA0 := Lib.hid (HSt.out.fr0 (Fr.alloc wr (.cells #[.int .u32 (s : Nat), .int .u8 (p : Nat)] 68 (0, 0))))
      have HA1 := Lib.hid (HA0.out.fr0 (Fr.alloc (wr.alloc (.cells #[.int .u32 (s : Nat), .int .u8 (p : Nat)] 68 (0, 0))) (.cells #[.int .u32 (s : Nat), .int .u8 (p : Nat)] 67 (0, 0))))
      have k3 := obj_cell HA0.out.p 3
      simp only [List.getElem?_toArray, List.getElem?_cons_succ, List.getElem?_cons_zero] at k3
      clear HSt
      go_wp2_with (at_builtin; refine wpl_appk rfl _ _ 38 rfl (ob + 1) 67 (.agg #[.int .u32 0, .int .u8 0]) 2 8 Try.underlying38 (by kernel_rfl) rfl (by decide) _ _ _ rfl HA1.out.own _ 1 1 (rowA (s, p)) rfl rfl ?c2 (rowA_one _) ?c4 ?c5 ?c6 ?c7)
      case c2 =>
        have h := new_cells (wr.alloc (.cells #[.int .u32 (s : Nat), .int .u8 (p : Nat)] 68 (0, 0))) [.int .u32 (s : Nat), .int .u8 (p : Nat)] 67
        rw [World.size_alloc] at h
        exact h
      case c4 => unfold maxLen; omega
      case c5 => omega
      case c6 => exact obj_lt HA1.out.p
      case c7 =>
        intro v' w1 ho hg _
        obtain ⟨A7, c7, rfl⟩ := own_slice ho
        have HP7 := Lib.hid (HA1.out.app (sv' := .slice A7 (j + 1) c7) (x := (s, p)) (by rw [hjl]; exact ho) hg)
        have k7 := obj_cell HP7.out.p 3
        simp only [List.getElem?_toArray, List.getElem?_cons_succ, List.getElem?_cons_zero] at k7
        have z7 := obj_frozen HP7.out.p 3
        clear ho hg
        have hn7 := HP7.out.set 3 (.slice A7 (j + 1) c7)
        rw [← HTk.out] at hn7
        have HN7 := Lib.hid (show FoS w rx ob (oRef k se me (.slice A7 (j + 1) c7) (.slice A2 lo.length c2)) (.slice A7 (j + 1) c7) (ak.take (j + 1)) _ from hn7)
        clear hn7
        go_wp2_with fail
        go_roundw
        case rel => first | exact ⟨j + 1, .slice A7 (j + 1) c7, by omega, by go_num, HN7.out⟩ | exact ⟨j + 1, by omega, .slice A7 (j + 1) c7, by go_num, HN7.out⟩ | exact ⟨j + 1, by omega, by go_num, .slice A7 (j + 1) c7, HN7.out⟩
        case measure => simp [intOf]; omega
    · have : j = ak.length := by omega
      subst this
      have hfin := HSt.out.own
      rw [List.take_length] at hfin
      have HF := Lib.hid hfin
      have o0 := HSt.out.o0
      have o1 := HSt.out.o1
      obtain ⟨p0, p1, p2, p3, p4⟩ := cells5m HSt.out.p
      obtain ⟨m0, m1, m2, m3, m4⟩ := cells5m HSt.out.res
      obtain ⟨q0, q1, q2, q3, q4⟩ := frz5m HSt.out.res
      clear hfin
      go_wp2_with fail
      generalize hW : World.setCell _ _ _ = wf
      obtain ⟨hx, hfx⟩ := objs5m HSt.out.res _ _ _ _ _ wf hW.symm
      clear hW p0 p1 p2 p3 p4 m0 m1 m2 m3 m4 q0 q1 q2 q3 q4
      obtain ⟨m0, m1, m2, m3, m4⟩ := cells5m hx
      refine bodyPost_ret (v := .agg #[.int .i64 k, .int .u32 (se : Nat), .int .u32 (me : Nat), .slice A5 ak.length c5, .slice A2 lo.length c2]) (by simp [results, Try.results11, go_sem, m0, m1, m2, m3, m4]; try rfl) rfl ?_
      have hB := HSt.out.below.trans (hfx.below HSt.out.below.size (fun k (hk : k = rx) => by omega))
      exact HQ.out _ _ ⟨_, rfl, own_asks rfl (hfx.own HF.out (fun k hk (hx : k = rx) => by have := (HF.out.lt k hk).1; omega)), HTl.out.below hB, hB⟩
set_option maxHeartbeats 1000000 in
theorem flarge_any (k : Int) (se me : Nat) (va vl : Value) (ak : List (Nat × Nat)) (lo : List Int) (w : World) (ha : AsS w va ak) (hl : LoS w vl lo) :
    Calls Try.prog 6 #[.agg #[.int .i64 k, .int .u32 (se : Nat), .int .u32 (me : Nat), va, vl]] w
      fun e w' => e = .returned (.bool (decide (300 < ak.length ∨ 300 < lo.length))) ∧ Below w.heap.size w w' := by
  obtain ⟨A, c, rfl, _, hc2, hp⟩ := ha.parts
  obtain ⟨A2, c2, rfl, _, hc3⟩ := hl.parts
  clear ha hl hp
  generalize ak.length = na at *
  generalize lo.length = nl at *
  refine calls_q fun Q HQ => ?_
  by_cases h1 : (300 : Int) < (na : Int)
  · have HD := Lib.hid (show decide (300 < na ∨ 300 < nl) = true from decide_eq_true (by omega))
    rw [HD.out] at HQ
    go_enter Try.func6, Try.ntmps6
    go_wp2_with fail
    exact HQ.out _ _ ⟨rfl, below_alloc _⟩
  · by_cases h2 : (300 : Int) < (nl : Int)
    · have HD := Lib.hid (show decide (300 < na ∨ 300 < nl) = true from decide_eq_true (by omega))
      rw [HD.out] at HQ
      go_enter Try.func6, Try.ntmps6
      go_wp2_with fail
      exact HQ.out _ _ ⟨rfl, below_alloc _⟩
    · have HD := Lib.hid (show decide (300 < na ∨ 300 < nl) = false from decide_eq_false (by omega))
      rw [HD.out] at HQ
      go_enter Try.func6, Try.ntmps6
      go_wp2_with fail
      exact HQ.out _ _ ⟨rfl, below_alloc _⟩
end Go.Proofs.Ytonkecfgopbclaa
