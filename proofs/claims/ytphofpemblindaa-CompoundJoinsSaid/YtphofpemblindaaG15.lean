/- Laid together: CmH, CmJn, CmJl. -/
import Derived.Test.YtphofpemblindaaG09
import Derived.Test.YtphofpemblindaaG14
/- append of any number of elements of k cells onto a row of the call's own; of bytes at a guarded operation. -/
namespace Go.Proofs.Ytphofpemblindaa
open Go.RowKit

/-- what is appended: so many elements of k cells, from a place on -/
def Srck (k : Nat) (w : World) (A : Option Addr) (m : Nat) (xs : List Value) : Prop :=
  xs.length = m * k ∧ (0 < m → ∃ ad, A = some ad ∧ ∀ j u, xs[j]? = some u → w.cell? (ad.add j) = some u)
section
variable {P : Program} {w : World}
theorem run_appks (base : Nat) (t ty e : TypeId) (z : Value) (size bytes : Nat) (ht : P.underlying t = some (.slice e)) (hi : (P.info? e).map (fun i => (i.zero, i.size, i.bytes)) = some (some z, size, bytes))
    (hz : z.cells.size = size) (hs0 : 0 < size) (v : Value) (n : Nat) (xs : List Value) (hown : w.ownsRow base e size v n xs) (A : Option Addr) (m c : Nat) (news : List Value) (hs : Srck size w A m news)
    (h1 : ∀ u ∈ news, u.oneCell' = true) (h63 : n + m ≤ maxLen) (hb : (n + m) * bytes ≤ 140737488355328) (hbase : base ≤ w.heap.size) :
    ∃ v' w', (Builtin.append_ #[t, t] ty #[v, .slice A m c]).run P w = .ok v' w' ∧ w'.ownsRow base e size v' (n + m) (xs ++ news) ∧ w.grownBy w' v.ownBlock ∧ (v'.ownBlock = v.ownBlock ∨ v'.ownBlock = some w.heap.size) := by
  obtain ⟨i, hi, hz0, hsz, hby⟩ := info_parts hi
  by_cases hm : m = 0
  · subst hm
    obtain rfl : news = [] := List.eq_nil_of_length_eq_zero (by rw [hs.1, Nat.zero_mul])
    cases A with
    | none =>
      refine ⟨v, w, ?_, by simpa using hown, World.grownBy.refl w _, .inl rfl⟩
      rcases hown.2 with ⟨rfl, _⟩ | ⟨g, cap, cur, rfl, _, _, hnc, _⟩
      · simp [Builtin.append_, run_underlying ht, sizeOf, typeInfo, hi, Builtin.lenOf, Builtin.firstCells]
      · simp [Builtin.append_, run_underlying ht, sizeOf, typeInfo, hi, Builtin.lenOf, Builtin.firstCells, hnc, storeCells]
    | some ad =>
      obtain ⟨v', w', hr, ho, hg, _, hk⟩ := run_append_own_at (P := P) w base t ty e i z size bytes ht hi hz0 hsz hby hz hs0 v n xs hown ad 0 c [] (by simp) (by simp) h1 h63 hb hbase
      exact ⟨v', w', hr, ho, hg, hk⟩
  · obtain ⟨ad, rfl, hc⟩ := hs.2 (by omega)
    obtain ⟨v', w', hr, ho, hg, _, hk⟩ := run_append_own_at (P := P) w base t ty e i z size bytes ht hi hz0 hsz hby hz hs0 v n xs hown ad m c news hs.1 hc h1 h63 hb hbase
    exact ⟨v', w', hr, ho, hg, hk⟩
theorem wpl_appks {ops : Array Oper} {rest : List Oper} {o : Oper} {a : Act} {Q : Exit → Act → World → Prop} (hgd : Region.wanted o (yielded ops a.tmps) = true) (s x : Operand) (t : TypeId)
    (ho : o.op = .call { callee := .builtin .append, args := #[s, x], argTypes := #[t, t] })
    (base : Nat) (e : TypeId) (z : Value) (size bytes : Nat) (ht : P.underlying t = some (.slice e)) (hi : (P.info? e).map (fun i => (i.zero, i.size, i.bytes)) = some (some z, size, bytes))
    (hz : z.cells.size = size) (hs0 : 0 < size) (v : Value) (n : Nat) (xs : List Value) (hs : a.eval s = v) (hown : w.ownsRow base e size v n xs) (A : Option Addr) (m c : Nat) (news : List Value) (hx : a.eval x = .slice A m c)
    (hsrc : Srck size w A m news) (h1 : ∀ u ∈ news, u.oneCell' = true) (h63 : n + m ≤ maxLen) (hb : (n + m) * bytes ≤ 140737488355328) (hbase : base ≤ w.heap.size)
    (h : ∀ v' w', w'.ownsRow base e size v' (n + m) (xs ++ news) → w.grownBy w' v.ownBlock → (v'.ownBlock = v.ownBlock ∨ v'.ownBlock = some w.heap.size) → wpList P ops Q rest (a.put o.dst v') w') :
    wpList P ops Q (o :: rest) a w := by
  obtain ⟨v', w', hr, h2, h3, h4⟩ := run_appks (P := P) base t o.type e z size bytes ht hi hz hs0 v n xs hown A m c news hsrc h1 h63 hb hbase
  refine wpList_step fun K hK => ?_
  rw [if_pos hgd]
  unfold Oper.wp execOp
  simp only [ho, resolve, invoke, builtin, Sem.run_bind, Sem.run_pure, Result.andThen_ok, List.map_toArray, List.map_cons, List.map_nil, hs, hx, hr]
  exact hK _ _ (h v' w' h2 h3 h4)
end
theorem Src.k {w : World} {A : Option Addr} {m : Nat} {xs : List Value} (h : Src w A m xs) : Srck 1 w A m xs := ⟨by rw [h.1, Nat.mul_one], h.2⟩
theorem flat_inv {k : Nat} : ∀ (rs : List (List Value)) (q : Nat) (u : Value), (∀ r ∈ rs, r.length = k) → rs.flatten[q]? = some u → ∃ i j, ∃ h : i < rs.length, q = i * k + j ∧ rs[i][j]? = some u
  | [], q, u, _, h => by simp at h
  | r :: rs, q, u, hk, h => by
    have hr := hk r (List.mem_cons_self ..)
    rw [List.flatten_cons] at h
    by_cases hq : q < r.length
    · rw [List.getElem?_append_left hq] at h
      exact ⟨0, q, by simp, by simp, by simpa using h⟩
    · rw [List.getElem?_append_right (by omega)] at h
      obtain ⟨i, j, hi, he, hu⟩ := flat_inv rs (q - r.length) u (fun r hr => hk r (List.mem_cons_of_mem _ hr)) h
      refine ⟨i + 1, j, by simp; omega, ?_, by simpa using hu⟩
      rw [Nat.add_mul, Nat.one_mul]; omega
theorem flat_len {k : Nat} : ∀ (rs : List (List Value)), (∀ r ∈ rs, r.length = k) → rs.flatten.length = rs.length * k
  | [], _ => by simp
  | r :: rs, hk => by
    rw [List.flatten_cons, List.length_append, flat_len rs (fun r hr => hk r (List.mem_cons_of_mem _ hr)), hk r (List.mem_cons_self ..), List.length_cons, Nat.add_mul]; omega
theorem ItS.src {w : World} {A : Option Addr} {n c : Nat} {ts : List It} (h : ItS w (.slice A n c) ts) : Srck 17 w A n (cellsI ts) := by
  obtain ⟨⟨A', c', he, _, _, h3⟩, _⟩ := h
  simp only [Value.slice.injEq] at he
  obtain ⟨rfl, rfl, rfl⟩ := he
  refine ⟨flat_len _ (It.rows17 ts), fun hp => ?_⟩
  obtain ⟨b, o, rfl, _, hc⟩ := h3 hp
  refine ⟨_, rfl, fun q u hu => ?_⟩
  obtain ⟨i, j, hi, rfl, hx⟩ := flat_inv _ q u (It.rows17 ts) hu
  rw [RowV.add rfl, ← Nat.add_assoc]
  exact hc i hi j u hx
theorem cellsI_one (ts : List It) : ∀ u ∈ cellsI ts, u.oneCell' = true := by
  intro u hu
  obtain ⟨r, hr, hu⟩ := List.mem_flatten.1 hu
  obtain ⟨t, _, rfl⟩ := List.mem_map.1 hr
  exact Array.all_eq_true_iff_forall_mem.1 (It.one t) u (by simpa using hu)
theorem cellsI_app (ts us : List It) : cellsI (ts ++ us) = cellsI ts ++ cellsI us := by simp [cellsI]
theorem bs_src {w : World} {A : Option Addr} {n c : Nat} {l : List UInt8} (h : BS w (.slice A n c) l) : Src w A n (c8 l) := by
  obtain ⟨A', c', he, _, _, hr⟩ := h
  simp only [Value.slice.injEq] at he
  obtain ⟨rfl, rfl, rfl⟩ := he
  exact hr.src
end Go.Proofs.Ytphofpemblindaa
/- The walk of CompoundJoins. -/
namespace Go.Proofs.Ytphofpemblindaa
open Go.RowKit

/-- two rows of items that stay, and both of them, joined -/
structure CjS (w0 : World) (v : Value) (ts : List It) (u : Value) (us : List It) (va : Value) (all : List It) (w : World) : Prop where
  v : ItS w v ts
  u : ItS w u us
  a : ItS w va all
  below : Below w0.heap.size w0 w
theorem CjS.after {w0 w w' : World} {v u va : Value} {ts us all : List It} (h : CjS w0 v ts u us va all w) (hb : Below w.heap.size w w') : CjS w0 v ts u us va all w' :=
  ⟨h.v.below hb, h.u.below hb, h.a.below hb, h.below.trans (hb.mono h.below.size)⟩
theorem lost_all (md : Nat) (ts : List It) (hm : ∀ t ∈ ts, t.m.lo.length ≤ 1000) (hl : ts.length ≤ 20) : lostL md (dis ts) ≤ 20000 := by
  have := lost_le md ts hm ts.length
  rw [List.take_length] at this; omega
theorem asked_all (ts : List It) (hm : ∀ t ∈ ts, t.m.ak.length ≤ 1000) (hl : ts.length ≤ 20) : (askedL (dis ts)).length ≤ 20000 := by
  have := asked_le ts hm ts.length
  rw [List.take_length] at this; omega
set_option maxRecDepth 40000 in
set_option maxHeartbeats 8000000 in
theorem cjoins_any (v : Value) (ts : List It) (u : Value) (us : List It) (md : Nat) (w : World) (h1 : ItS w v ts) (h2 : ItS w u us) :
    Calls Try.prog 4 #[v, u, .int .u32 (md : Nat)] w fun e w' => e = .returned (.bool true) ∧ Below w.heap.size w w' := by
  obtain ⟨A1, c1, rfl, _⟩ := h1.parts
  obtain ⟨A2, c2, rfl, _⟩ := h2.parts
  have HS := Lib.hid (show CjS w _ ts _ us (.slice none 0 0) [] w from ⟨h1, h2, ItS.nil _, Below.refl _ _⟩)
  have HO1 := Lib.hid h1.okd
  have HO2 := Lib.hid h2.okd
  clear h1 h2
  refine calls_q fun Q HQ => ?_
  go_enter Try.func4, Try.ntmps4
  go_wp2_with fail
  refine (awake10_any w).mono ?_
  rintro e w1 ⟨rfl, hb⟩
  have HS1 := Lib.hid (HS.out.after hb)
  clear hb HS
  go_wp2_with fail
  refine (cmlarge_any _ ts w1 HS1.out.v).mono ?_
  rintro e w2 ⟨rfl, hb⟩
  have HS2 := Lib.hid (HS1.out.after hb)
  clear hb HS1
  cases hf1 : fewI ts
  · clear hf1
    go_wp2_with fail
    exact HQ.out _ _ ⟨rfl, HS2.out.below⟩
  have hfew := fewI_iff.1 hf1
  have HF1 := Lib.hid (show ts.length ≤ 20 ∧ ∀ t ∈ ts, t.m.ak.length ≤ 1000 ∧ t.m.lo.length ≤ 1000 ∧ t.c.2.2.length ≤ 1000 from ⟨hfew.1, fun t ht => by have := hfew.2 t ht; omega⟩)
  clear hf1 hfew
  go_wp2_with fail
  refine (cmlarge_any _ us w2 HS2.out.u).mono ?_
  rintro e w3 ⟨rfl, hb⟩
  have HS3 := Lib.hid (HS2.out.after hb)
  clear hb HS2
  cases hf2 : fewI us
  · clear hf2
    go_wp2_with fail
    exact HQ.out _ _ ⟨rfl, HS3.out.below⟩
  have hfew := fewI_iff.1 hf2
  have HF2 := Lib.hid (show us.length ≤ 20 ∧ ∀ t ∈ us, t.m.ak.length ≤ 1000 ∧ t.m.lo.length ≤ 1000 ∧ t.c.2.2.length ≤ 1000 from ⟨hfew.1, fun t ht => by have := hfew.2 t ht; omega⟩)
  clear hf2 hfew
  have HFa := Lib.hid (show (ts ++ us).length ≤ 40 ∧ ∀ t ∈ ts ++ us, t.m.ak.length ≤ 1000 ∧ t.m.lo.length ≤ 1000 ∧ t.c.2.2.length ≤ 1000 from
    ⟨by rw [List.length_append]; have := HF1.out.1; have := HF2.out.1; omega, fun t ht => (List.mem_append.1 ht).elim (HF1.out.2 t) (HF2.out.2 t)⟩)
  have HDa := Lib.hid (dis_app ts us)
  have HW4 := Lib.hid (own_newk w3 w3.heap.size 42 17 (Nat.le_refl _))
  have HS4 := Lib.hid (HS3.out.after (below_alloc (.cells #[] 42)))
  have HB4 := Lib.hid (below_alloc (w := w3) (.cells #[] 42))
  have hl1 := HF1.out.1
  have hl2 := HF2.out.1
  go_wp2_with (first
    | (at_builtin; refine wpl_appks (by rfl) _ _ 22 rfl w3.heap.size 42 (.agg #[.int .i64 0, .bool false, .int .u32 0, .int .u32 0, .int .u32 0, .int .u32 0, .int .u32 0, .int .u32 0, .slice none 0 0, .int .i64 0, .int .u32 0, .int .u32 0, .slice none 0 0, .slice none 0 0, .int .u8 0, .int .u8 0, .slice none 0 0]) 17 160 Try.underlying22 (by kernel_rfl) rfl (by decide) (.slice (some ⟨w3.heap.size, 0, none⟩) 0 0) 0 [] rfl HW4.out A1 ts.length c1 (cellsI ts) rfl HS4.out.v.src (cellsI_one ts) ?c1 ?c2 ?c3 ?c4))
  case c1 => unfold maxLen; omega
  case c2 => omega
  case c3 => rw [World.size_alloc]; omega
  case c4 =>
    intro v5 w5 ho hg hk
    obtain ⟨A5, c5, rfl⟩ := own_slice ho
    have hb5 := (Fr.grown hg).below (B := w3.heap.size) (by rw [World.size_alloc]; omega) (fun k hx => (HW4.out.lt k hx.symm).1)
    have HB5 := Lib.hid (HB4.out.trans hb5)
    have HS5 := Lib.hid (HS3.out.after (HB4.out.trans hb5))
    have HO5 := Lib.hid ho
    clear ho hg hk hb5 HW4 HS4 HB4
    go_wp2_with (first
      | (at_builtin; refine wpl_appks (by rfl) _ _ 22 rfl w3.heap.size 42 (.agg #[.int .i64 0, .bool false, .int .u32 0, .int .u32 0, .int .u32 0, .int .u32 0, .int .u32 0, .int .u32 0, .slice none 0 0, .int .i64 0, .int .u32 0, .int .u32 0, .slice none 0 0, .slice none 0 0, .int .u8 0, .int .u8 0, .slice none 0 0]) 17 160 Try.underlying22 (by kernel_rfl) rfl (by decide) (.slice A5 ts.length c5) ts.length (cellsI ts) rfl HO5.out A2 us.length c2 (cellsI us) rfl HS5.out.u.src (cellsI_one us) ?d1 ?d2 ?d3 ?d4))
    case d1 => unfold maxLen; omega
    case d2 => omega
    case d3 => exact HB5.out.size
    case d4 =>
      intro v6 w6 ho hg hk
      obtain ⟨A6, c6, rfl⟩ := own_slice ho
      have hb6 := HB5.out.trans ((Fr.grown hg).below (B := w3.heap.size) HB5.out.size (fun k hx => (HO5.out.lt k hx.symm).1))
      have hs6 := HS3.out.after hb6
      rw [← cellsI_app] at ho
      have HS6 := Lib.hid (show CjS w (.slice A1 ts.length c1) ts (.slice A2 us.length c2) us (.slice A6 (ts.length + us.length) c6) (ts ++ us) w6 from
        ⟨hs6.v, hs6.u, own_items (by rw [List.length_append]) ho (fun t ht => (List.mem_append.1 ht).elim (hs6.v.2 t) (hs6.u.2 t)), hs6.below⟩)
      clear ho hg hk hb6 hs6 HB5 HS5 HO5 HS3
      go_wp2_with fail
      refine (asked_any _ (ts ++ us) w6 HS6.out.a (by have := HFa.out.1; omega) (fun t ht => (HFa.out.2 t ht).1)).mono ?_
      rintro e w7 ⟨u7, rfl, h7, hb⟩
      rw [HDa.out, askedL_app] at h7
      have HS7 := Lib.hid ((HS6.out.after hb).after (below_alloc (.cells #[] 29)))
      have HU7 := Lib.hid (h7.below (below_alloc (.cells #[] 29)))
      have HU7b := Lib.hid h7
      have HS7b := Lib.hid (HS6.out.after hb)
      have HW7 := Lib.hid (own_newk w7 w7.heap.size 29 1 (Nat.le_refl _))
      have HB7 := Lib.hid (below_alloc (w := w7) (.cells #[] 29))
      clear h7 hb HS6
      go_wp2_with fail
      refine (asked_any _ ts _ HS7.out.v (by omega) (fun t ht => (HF1.out.2 t ht).1)).mono ?_
      rintro e w8 ⟨u8, rfl, h8, hb⟩
      obtain ⟨A8, cc8, rfl, _⟩ := NuV.parts h8
      have HS8 := Lib.hid (HS7.out.after hb)
      have HU8 := Lib.hid (HU7.out.below hb)
      have HW8 := Lib.hid ((Fr.of hb).own HW7.out (fun _ _ h => h))
      have HB8 := Lib.hid (HB7.out.trans (hb.mono (by rw [World.size_alloc]; omega)))
      have HN8 := Lib.hid h8
      have HA1 := Lib.hid (asked_all ts (fun t ht => (HF1.out.2 t ht).1) HF1.out.1)
      have HA2 := Lib.hid (asked_all us (fun t ht => (HF2.out.2 t ht).1) HF2.out.1)
      have ha1 := HA1.out
      have ha2 := HA2.out
      clear h8 hb HS7 HU7 HW7 HB7
      go_wp2_with (at_builtin; refine wpl_appks (by rfl) _ _ 52 rfl w7.heap.size 29 (.int .u32 0) 1 4 Try.underlying52 (by kernel_rfl) rfl (by decide) (.slice (some ⟨w7.heap.size, 0, none⟩) 0 0) 0 [] rfl HW8.out A8 (askedL (dis ts)).length cc8 (u32s (askedL (dis ts))) rfl (svsrc HN8.out).k (u32s_one _) ?e1 ?e2 ?e3 ?e4)
      case e1 => unfold maxLen; omega
      case e2 => omega
      case e3 => exact HB8.out.size
      case e4 =>
        intro v9 w9 ho hg hk
        obtain ⟨A9, c9, rfl⟩ := own_slice ho
        have hb9 := HB8.out.trans ((Fr.grown hg).below (B := w7.heap.size) HB8.out.size (fun k hx => (HW8.out.lt k hx.symm).1))
        have HS9 := Lib.hid (HS7b.out.after hb9)
        have HU9 := Lib.hid (HU7b.out.below hb9)
        have HW9 := Lib.hid ho
        have HB9 := Lib.hid hb9
        clear ho hg hk hb9 HS8 HU8 HW8 HB8 HN8
        go_wp2_with fail
        refine (asked_any _ us w9 HS9.out.u (by omega) (fun t ht => (HF2.out.2 t ht).1)).mono ?_
        rintro e w10 ⟨u10, rfl, h10, hb⟩
        obtain ⟨A10, c10, rfl, _⟩ := NuV.parts h10
        have HW10 := Lib.hid ((Fr.of hb).own HW9.out (fun _ _ h => h))
        have HB10 := Lib.hid (HB9.out.trans (hb.mono HB9.out.size))
        have HN10 := Lib.hid h10
        clear h10 hb HS9 HU9 HW9 HB9
        go_wp2_with (at_builtin; refine wpl_appks (by rfl) _ _ 52 rfl w7.heap.size 29 (.int .u32 0) 1 4 Try.underlying52 (by kernel_rfl) rfl (by decide) (.slice A9 (askedL (dis ts)).length c9) (askedL (dis ts)).length (u32s (askedL (dis ts))) rfl HW10.out A10 (askedL (dis us)).length c10 (u32s (askedL (dis us))) rfl (svsrc HN10.out).k (u32s_one _) ?f1 ?f2 ?f3 ?f4)
        case f1 => unfold maxLen; omega
        case f2 => omega
        case f3 => exact HB10.out.size
        case f4 =>
          intro v11 w11 ho hg hk
          obtain ⟨A11, c11, rfl⟩ := own_slice ho
          have hb11 := HB10.out.trans ((Fr.grown hg).below (B := w7.heap.size) HB10.out.size (fun k hx => (HW10.out.lt k hx.symm).1))
          rw [← u32s_app] at ho
          have HN11 := Lib.hid (own_sv ho)
          have HS11 := Lib.hid (HS7b.out.after hb11)
          have HU11 := Lib.hid (HU7b.out.below hb11)
          clear ho hg hk hb11 HW10 HB10 HN10 HS7b HU7b
          go_wp2_with fail
          refine (nums_is (r := true) u7 _ _ _ w11 HU11.out HN11.out ⟨fun _ => rfl, fun _ => rfl⟩).mono ?_
          rintro e w12 ⟨rfl, hb⟩
          have HS12 := Lib.hid (HS11.out.after hb)
          clear hb HS11 HU11 HN11
          go_wp2_with fail
          refine (lost_any _ (ts ++ us) md w12 HS12.out.a (by have := HFa.out.1; omega) (fun t ht => (HFa.out.2 t ht).2.1)).mono ?_
          rintro e w13 ⟨rfl, hb⟩
          have HS13 := Lib.hid (HS12.out.after hb)
          have hla := lostL_app md (dis ts) (dis us)
          rw [← HDa.out] at hla
          have hb1 := lost_all md ts (fun t ht => (HF1.out.2 t ht).2.1) HF1.out.1
          have hb2 := lost_all md us (fun t ht => (HF2.out.2 t ht).2.1) HF2.out.1
          clear hb HS12
          obtain ⟨ca, hca⟩ : ∃ ca : Int, ((lostL md (dis (ts ++ us)) : Nat) : Int) = ca := ⟨_, rfl⟩
          obtain ⟨a, ha⟩ : ∃ a : Nat, lostL md (dis ts) = a := ⟨_, rfl⟩
          obtain ⟨b, hb⟩ : ∃ b : Nat, lostL md (dis us) = b := ⟨_, rfl⟩
          have HLa := Lib.hid ha
          have HLb := Lib.hid hb
          have hc : ca = (a : Int) + (b : Int) := by rw [← hca, hla, ha, hb]; simp
          rw [hca]
          rw [ha] at hb1
          rw [hb] at hb2
          clear hla hca ha hb
          go_wp2_with fail
          refine (lost_any _ ts md w13 HS13.out.v (by omega) (fun t ht => (HF1.out.2 t ht).2.1)).mono ?_
          rintro e w14 ⟨rfl, hb⟩
          rw [HLa.out]
          have HS14 := Lib.hid (HS13.out.after hb)
          clear hb HS13
          go_wp2_with fail
          refine (lost_any _ us md w14 HS14.out.u (by omega) (fun t ht => (HF2.out.2 t ht).2.1)).mono ?_
          rintro e w15 ⟨rfl, hb⟩
          rw [HLb.out]
          have HS15 := Lib.hid (HS14.out.after hb)
          clear hb HS14
          subst hc
          have hne : (((a : Int) + (b : Int)) != IntKind.i64.wrap ((a : Int) + (b : Int))) = false := by
            rw [show IntKind.i64.wrap ((a : Int) + (b : Int)) = (a : Int) + (b : Int) by simp [IntKind.wrap, IntKind.bits, IntKind.signed]; omega]; simp
          go_wp2_with fail
          refine (cmwrite_any _ ts w15 HS15.out.v (by omega) (fun t ht => (HF1.out.2 t ht).2.2)).mono ?_
          rintro e w16 ⟨x, rfl, hx, hb⟩
          obtain ⟨A16, c16, rfl, _⟩ := bs_parts hx
          have HX16 := Lib.hid hx
          have HS16 := Lib.hid (HS15.out.after hb)
          clear hx hb HS15
          go_wp2_with fail
          refine (cmwrite_any _ us w16 HS16.out.u (by omega) (fun t ht => (HF2.out.2 t ht).2.2)).mono ?_
          rintro e w17 ⟨y, rfl, hy, hb⟩
          obtain ⟨A17, c17, rfl, _⟩ := bs_parts hy
          have HX17 := Lib.hid (HX16.out.below hb)
          have HY17 := Lib.hid hy
          have HS17 := Lib.hid (HS16.out.after hb)
          clear hy hb HS16 HX16
          go_wp2_with fail
          refine (cmwrite_any _ (ts ++ us) w17 HS17.out.a (by have := HFa.out.1; omega) (fun t ht => (HFa.out.2 t ht).2.2)).mono ?_
          rintro e w18 ⟨zz, rfl, hz, hb⟩
          obtain ⟨A18, c18, rfl, _⟩ := bs_parts hz
          have HX18 := Lib.hid (HX17.out.below hb)
          have HY18 := Lib.hid (HY17.out.below hb)
          rw [HDa.out] at hz ⊢
          have HZ18 := Lib.hid hz
          have HB18 := Lib.hid (HS17.out.after hb).below
          clear hz hb HS17 HX17 HY17
          obtain ⟨j1, j2, j3⟩ := join_l HO1.out HO2.out
          have HJ1 := Lib.hid j1
          have HJ2 := Lib.hid j2
          have HJ3 := Lib.hid j3
          have HW1 := Lib.hid (wr_cases HO1.out)
          have HW2 := Lib.hid (wr_cases HO2.out)
          clear j1 j2 j3 HLa HLb HDa HFa hne hb1 hb2 HA1 HA2 ha1 ha2
          obtain ⟨e1, he1⟩ : ∃ e1 : Int, wrEL (dis ts) = e1 := ⟨_, rfl⟩
          obtain ⟨e2, he2⟩ : ∃ e2 : Int, wrEL (dis us) = e2 := ⟨_, rfl⟩
          obtain ⟨e3, he3⟩ : ∃ e3 : Int, wrEL (dis ts ++ dis us) = e3 := ⟨_, rfl⟩
          rw [he1] at HJ1 HJ2 HJ3 HW1 ⊢
          rw [he2] at HJ1 HJ2 HJ3 HW2 ⊢
          rw [he3] at HJ1 HJ2 HJ3 ⊢
          clear he1 he2 he3
          by_cases hw : e1 ≠ 0 ∨ e2 ≠ 0
          · obtain ⟨g1, g2⟩ := HJ1.out hw
            have g3 : (wrBL (dis ts ++ dis us)).length = 0 := by rw [g2]; rfl
            have hi3 : (e3 != 0) = true := by simp [g1]
            rw [g3]
            clear HJ1 HJ2 HJ3 HW1 HW2 g1 g2 g3
            by_cases h1 : e1 = 0
            · have h2 : (e2 != 0) = true := by rcases hw with h | h; exact absurd h1 h; simp [h]
              subst h1
              clear hw
              go_wp2_with fail
              exact HQ.out _ _ ⟨rfl, HB18.out⟩
            · have h2 : (e1 != 0) = true := by simp [h1]
              clear hw h1
              go_wp2_with fail
              exact HQ.out _ _ ⟨rfl, HB18.out⟩
          · have h1 : e1 = 0 := Decidable.byContradiction fun h => hw (.inl h)
            have h2 : e2 = 0 := Decidable.byContradiction fun h => hw (.inr h)
            clear hw
            subst h1
            subst h2
            have hn1 : (wrBL (dis ts)).length ≤ 200 := by
              rcases HW1.out with h | h
              · exact absurd rfl h.1
              · rw [h.2.1]; exact h.2.2.2
            have hn2 : (wrBL (dis us)).length ≤ 200 := by
              rcases HW2.out with h | h
              · exact absurd rfl h.1
              · rw [h.2.1]; exact h.2.2.2
            clear HW1 HW2 HJ1
            by_cases h200 : 200 < (wrBL (dis ts)).length + (wrBL (dis us)).length
            · obtain ⟨g1, g2⟩ := HJ2.out rfl rfl h200
              have g3 : (wrBL (dis ts ++ dis us)).length = 0 := by rw [g2]; rfl
              have h2i : (200 : Int) < ((wrBL (dis ts)).length : Int) + ((wrBL (dis us)).length : Int) := by omega
              rw [g3]
              subst g1
              clear HJ2 HJ3 g2 g3 h200
              generalize (wrBL (dis ts)).length = n1 at *
              generalize (wrBL (dis us)).length = n2 at *
              go_wp2_with fail
              exact HQ.out _ _ ⟨rfl, HB18.out⟩
            · obtain ⟨g1, g2⟩ := HJ3.out rfl rfl (by omega)
              have h2i : ((wrBL (dis ts)).length : Int) + ((wrBL (dis us)).length : Int) ≤ 200 := by omega
              subst g1
              have HZe := Lib.hid (show ((wrBL (dis ts ++ dis us)) == (wrBL (dis ts) ++ wrBL (dis us))) = true by rw [g2]; simp)
              clear HJ2 HJ3 g2 h200
              have HW19 := Lib.hid (own_newk w18 w18.heap.size 5 1 (Nat.le_refl _))
              have HX19 := Lib.hid (HX18.out.below (below_alloc (.cells #[] 5)))
              have HB19 := Lib.hid (below_alloc (w := w18) (.cells #[] 5))
              have hl1 := c8_len (wrBL (dis ts))
              have hl2 := c8_len (wrBL (dis us))
              clear hl1 hl2
              generalize hL1 : (wrBL (dis ts)).length = n1 at *
              generalize hL2 : (wrBL (dis us)).length = n2 at *
              have HL1 := Lib.hid hL1
              have HL2 := Lib.hid hL2
              clear hL1 hL2
              go_wp2_with (at_builtin; refine wpl_appks (by rfl) _ _ 23 rfl w18.heap.size 5 (.int .u8 0) 1 1 Try.underlying23 (by kernel_rfl) rfl (by decide) (.slice (some ⟨w18.heap.size, 0, none⟩) 0 0) 0 [] rfl HW19.out A16 n1 c16 (c8 (wrBL (dis ts))) rfl (bs_src HX19.out).k (c8_one _) ?g1 ?g2 ?g3 ?g4)
              case g1 => unfold maxLen; omega
              case g2 => omega
              case g3 => exact HB19.out.size
              case g4 =>
                intro v20 w20 ho hg hk
                obtain ⟨A20, c20, rfl⟩ := own_slice ho
                have hb20 := HB19.out.trans ((Fr.grown hg).below (B := w18.heap.size) HB19.out.size (fun k hx => (HW19.out.lt k hx.symm).1))
                have HY20 := Lib.hid (HY18.out.below hb20)
                have HW20 := Lib.hid ho
                have HB20 := Lib.hid hb20
                clear ho hg hk hb20 HW19 HX19 HB19
                go_wp2_with (at_builtin; refine wpl_appks (by rfl) _ _ 23 rfl w18.heap.size 5 (.int .u8 0) 1 1 Try.underlying23 (by kernel_rfl) rfl (by decide) (.slice A20 n1 c20) n1 (c8 (wrBL (dis ts))) rfl HW20.out A17 n2 c17 (c8 (wrBL (dis us))) rfl (bs_src HY20.out).k (c8_one _) ?i1 ?i2 ?i3 ?i4)
                case i1 => unfold maxLen; omega
                case i2 => omega
                case i3 => exact HB20.out.size
                case i4 =>
                  intro v21 w21 ho hg hk
                  obtain ⟨A21, c21, rfl⟩ := own_slice ho
                  have hb21 := HB20.out.trans ((Fr.grown hg).below (B := w18.heap.size) HB20.out.size (fun k hx => (HW20.out.lt k hx.symm).1))
                  rw [← c8_app] at ho
                  have HZ21 := Lib.hid (HZ18.out.below hb21)
                  have HV21 := Lib.hid (own_bs ho)
                  have HB21 := Lib.hid (HB18.out.trans (hb21.mono HB18.out.size))
                  clear ho hg hk hb21 HW20 HB20 HY20
                  go_wp2_with fail
                  refine (rsame_is (r := true) _ _ _ _ w21 HZ21.out HV21.out HZe.out).mono ?_
                  rintro e w22 ⟨rfl, hb⟩
                  have HB22 := Lib.hid (HB21.out.trans (hb.mono HB21.out.size))
                  clear hb HB21 HZ21 HV21
                  go_wp2_with fail
                  exact HQ.out _ _ ⟨rfl, HB22.out⟩
end Go.Proofs.Ytphofpemblindaa
/- CompoundJoins, over arguments that come in. -/
namespace Go.Proofs.Ytphofpemblindaa
open Go.RowKit

theorem cjoins_law (v : Value) (ts : List It) (u : Value) (us : List It) (z : Int) (hz : (Lit.int .u32 z).wf = true) (w : World) (h1 : ItS w v ts) (h2 : ItS w u us) :
    Calls Try.prog 4 #[v, u, .int .u32 z] w fun e w' => e = .returned (.bool true) ∧ Below w.heap.size w w' := by
  obtain ⟨md, rfl, _⟩ := nat_u32 hz
  exact cjoins_any v ts u us md w h1 h2
end Go.Proofs.Ytphofpemblindaa
