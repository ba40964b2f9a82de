/- The walk of feed's Read. -/
import Derived.Test.YtonkecfgopbclaaFRa
import Derived.Test.YtonkecfgopbclaaFk
import Derived.Test.YtonkecfgopbclaaCkRt
import Derived.Test.YtonkecfgopbclaaFWr
import Derived.Deep.CutBlock
namespace Go.Proofs.Ytonkecfgopbclaa
open Go.RowKit

/-- the result's cells, a message that grows, the reader, the rows of what was read -/
structure FRs (w0 : World) (rx mx lo rb : Nat) (k : Int) (se me : Nat) (va vl : Value) (ak : List (Nat × Nat)) (lz : List Int) (l : List UInt8) (e : Int) (w : World) : Prop where
  res : w.heap[rx]? = some (oMsg 0 0 0 (.slice none 0 0) (.slice none 0 0))
  m : w.heap[mx]? = some (oMsg k se me va vl)
  rd : Rd lo w rb l e
  ha : w.ownsRow (rb + 1) 68 2 va ak.length (cellsA ak)
  hl : w.ownsRow (rb + 1) 47 1 vl lz.length (ints .u16 lz)
  below : Below w0.heap.size w0 w
  o0 : w0.heap.size ≤ rx
  o1 : rx < mx
  o2 : mx < lo
section
variable {w0 : World} {rx mx lo rb : Nat} {k : Int} {se me : Nat} {va vl : Value} {ak : List (Nat × Nat)} {lz : List Int} {l l2 : List UInt8} {e e2 : Int} {w w' : World}
theorem FRs.read (h : FRs w0 rx mx lo rb k se me va vl ak lz l e w) (hp : RPost lo w rb l2 e2 w') : FRs w0 rx mx lo rb k se me va vl ak lz l2 e2 w' := by
  have h0 := h.o0; have h1 := h.o1; have h2 := h.o2
  have h3 := h.rd.lt.1
  exact ⟨hp.2.heap h.res (fun (hx : rx = rb) => by omega), hp.2.heap h.m (fun (hx : mx = rb) => by omega), hp.1, hp.2.own h.ha (fun k hk (hx : k = rb) => by have := (h.ha.lt k hk).1; omega),
    hp.2.own h.hl (fun k hk (hx : k = rb) => by have := (h.hl.lt k hk).1; omega), h.below.trans (hp.2.below h.below.size (fun k (hk : k = rb) => by omega)), h0, h1, h2⟩
theorem FRs.cells (h : FRs w0 rx mx lo rb k se me va vl ak lz l e w) : w.cell? ⟨mx, 0, none⟩ = some (.int .i64 k) ∧ w.cell? ⟨mx, 1, none⟩ = some (.int .u32 (se : Nat)) ∧ w.cell? ⟨mx, 2, none⟩ = some (.int .u32 (me : Nat)) ∧ w.cell? ⟨mx, 3, none⟩ = some va ∧ w.cell? ⟨mx, 4, none⟩ = some vl ∧
    w.frozen? ⟨mx, 0, none⟩ = false ∧ w.frozen? ⟨mx, 1, none⟩ = false ∧ w.frozen? ⟨mx, 2, none⟩ = false ∧ w.frozen? ⟨mx, 3, none⟩ = false ∧ w.frozen? ⟨mx, 4, none⟩ = false :=
  ⟨obj_cell h.m 0, obj_cell h.m 1, obj_cell h.m 2, obj_cell h.m 3, obj_cell h.m 4, obj_frozen h.m 0, obj_frozen h.m 1, obj_frozen h.m 2, obj_frozen h.m 3, obj_frozen h.m 4⟩
theorem FRs.setw (h : FRs w0 rx mx lo rb k se me va vl ak lz l e w) (i : Nat) (u : Value) {k' : Int} {se' me' : Nat} {va' vl' : Value} {ak' : List (Nat × Nat)} {lz' : List Int}
    (ho : (#[Value.int .i64 k, .int .u32 (se : Nat), .int .u32 (me : Nat), va, vl].setIfInBounds i u) = #[Value.int .i64 k', .int .u32 (se' : Nat), .int .u32 (me' : Nat), va', vl'])
    (ha : w.ownsRow (rb + 1) 68 2 va' ak'.length (cellsA ak')) (hl : w.ownsRow (rb + 1) 47 1 vl' lz'.length (ints .u16 lz')) :
    FRs w0 rx mx lo rb k' se' me' va' vl' ak' lz' l e (w.setCell ⟨mx, i, none⟩ u) := by
  have h0 := h.o0; have h1 := h.o1; have h2 := h.o2
  have h3 := h.rd.lt.1
  have hf : Fr (F1 mx) w (w.setCell ⟨mx, i, none⟩ u) := Fr.setCell w ⟨mx, i, none⟩ u
  have hm := obj_set h.m i u
  rw [ho] at hm
  exact ⟨hf.heap h.res (fun (hx : rx = mx) => by omega), hm, h.rd.fr hf (fun k h4 h5 (hx : k = mx) => by omega), hf.own ha (fun k hk (hx : k = mx) => by have := (ha.lt k hk).1; omega),
    hf.own hl (fun k hk (hx : k = mx) => by have := (hl.lt k hk).1; omega), h.below.trans (hf.below h.below.size (fun k (hk : k = mx) => by omega)), h0, h1, h2⟩
end
theorem objs5m {w : World} {b : Nat} {x0 x1 x2 x3 x4 : Value} {t : TypeId} (h : w.heap[b]? = some (.cells #[x0, x1, x2, x3, x4] t (0, 0))) (y0 y1 y2 y3 y4 : Value) :
    ∀ w', w' = ((((w.setCell ⟨b, 0, none⟩ y0).setCell ⟨b, 1, none⟩ y1).setCell ⟨b, 2, none⟩ y2).setCell ⟨b, 3, none⟩ y3).setCell ⟨b, 4, none⟩ y4 → w'.heap[b]? = some (.cells #[y0, y1, y2, y3, y4] t (0, 0)) ∧ Fr (F1 b) w w' := by
  rintro _ rfl
  have h0 := obj_set h 0 y0
  have h1 := obj_set h0 1 y1
  have h2 := obj_set h1 2 y2
  have h3 := obj_set h2 3 y3
  have h4 := obj_set h3 4 y4
  refine ⟨by simpa using h4, ?_⟩
  have f0 : Fr (F1 b) w (w.setCell ⟨b, 0, none⟩ y0) := Fr.setCell w ⟨b, 0, none⟩ y0
  have f1 := f0.trans (Fr.setCell _ ⟨b, 1, none⟩ y1) (fun _ h => .inl h)
  have f2 := f1.trans (Fr.setCell _ ⟨b, 2, none⟩ y2) (fun _ h => .inl h)
  have f3 := f2.trans (Fr.setCell _ ⟨b, 3, none⟩ y3) (fun _ h => .inl h)
  exact f3.trans (Fr.setCell _ ⟨b, 4, none⟩ y4) (fun _ h => .inl h)
/-- what Read answers -/
def FRPost (w : World) (d : DC) (e : Ending) (w' : World) : Prop :=
  ∃ va vl, e = .returned (.tuple #[.agg #[.int .i64 (readM d).k, .int .u32 ((readM d).se : Nat), .int .u32 ((readM d).me : Nat), va, vl], .int .i64 (rdEM d)]) ∧ AsS w' va (readM d).ak ∧ LoS w' vl (readM d).lo ∧ Below w.heap.size w w'
theorem readM_fail {d : DC} {x : Int} (h : rdEM d = x) (hx : x ≠ 0) : readM d = DM.zero ∧ rdEM d = x := ⟨readM_kind (by rw [h]; exact hx), h⟩
/-- how the rest is told by the reader -/
theorem read_fin {n y : Nat} {B : List UInt8} (hr : rightC (n, y, B) = true) (hk : kindN n y ≠ 0) :
    (kindN n y = 1 → rdEM (n, y, B) = endE (rawR (4 + 4) B) (rawE (4 + 4) B 0)) ∧
    (kindN n y = 2 → rdEM (n, y, B) = (if rdN 4 (rawR 4 B) = 0 then asksE (rawR (4 + 4) B) (rawE (4 + 4) B 0) else wrongE (rawE (4 + 4) B 0) 2)) ∧
    (kindN n y = 3 → rdEM (n, y, B) = lostE (rawR (4 + 4) B) (rawE (4 + 4) B 0)) ∧
    (kindN n y = 1 ∨ kindN n y = 2 ∨ kindN n y = 3) ∧
    (rdEM (n, y, B) ≠ 0 → readM (n, y, B) = DM.zero) ∧
    (rdEM (n, y, B) = 0 → readM (n, y, B) = restM (kindN n y) (rdN 4 B) (rdN 4 (rawR 4 B)) (rawR (4 + 4) B)) := by
  have hq : rdEM (n, y, B) = if B.length < 8 then 3 else restE (kindN n y) (rdN 4 (rawR 4 B)) (rawR (4 + 4) B) := by
    rw [rdEM, if_pos hr]; exact if_neg hk
  obtain ⟨_, _, h3⟩ := mark_kind n y hk
  have hlen : B.length < 8 → rawR (4 + 4) B = [] ∧ rawE (4 + 4) B 0 = 3 ∧ rdN 4 (rawR 4 B) = 0 := by
    intro h
    refine ⟨by rw [rawR, if_neg (by omega)], by rw [rawE, if_neg (by omega)]; rfl, ?_⟩
    have : rawL 4 (rawR 4 B) = [] := by
      unfold rawL rawR
      split
      · split
        · next h1 h2 => simp at h2; omega
        · rfl
      · simp
    rw [rdN, this]; rfl
  have hlong : ¬ B.length < 8 → rawE (4 + 4) B 0 = 0 := fun h => by rw [rawE, if_pos (by omega)]
  refine ⟨fun h => ?_, fun h => ?_, fun h => ?_, h3, fun h => readM_kind h, fun h => by rw [readM, if_pos h]⟩ <;> rw [hq, h]
  · split
    · next hl => rw [(hlen hl).1, (hlen hl).2.1]; rfl
    · next hl =>
      rw [hlong hl, restE, if_pos rfl, endE]
      by_cases h0 : rawR (4 + 4) B = []
      · rw [if_pos h0, if_pos (by rw [h0]; rfl)]
      · rw [if_neg h0, if_neg (fun hx => h0 (List.eq_nil_of_length_eq_zero hx))]
  · split
    · next hl => rw [(hlen hl).1, (hlen hl).2.1, (hlen hl).2.2]; rfl
    · next hl =>
      rw [hlong hl, restE, if_neg (by decide), if_pos rfl]
      generalize rawR (4 + 4) B = R
      generalize rdN 4 (rawR 4 B) = me
      by_cases hm : me = 0
      · rw [if_pos hm, asksE]
        by_cases h0 : R = [] ∨ R.length % 8 ≠ 0
        · rw [if_pos h0, if_neg (by rintro ⟨_, h1, h2⟩; rcases h0 with h0 | h0; exact h1 (by rw [h0]; rfl); exact h0 h2)]; rfl
        · rw [if_neg h0, if_pos ⟨hm, fun hx => h0 (.inl (List.eq_nil_of_length_eq_zero hx)), by omega⟩]
      · rw [if_neg hm, if_neg (fun h => hm h.1)]; rfl
  · split
    · next hl => rw [(hlen hl).1, (hlen hl).2.1]; rfl
    · next hl =>
      rw [hlong hl, restE, if_neg (by decide), if_neg (by decide), lostE]
      generalize rawR (4 + 4) B = R
      by_cases h0 : R = []
      · rw [if_pos h0, if_neg (fun h => h.1 (by rw [h0]; rfl))]; rfl
      · rw [if_neg h0]
        have h1 : R.length ≠ 0 := fun hx => h0 (List.eq_nil_of_length_eq_zero hx)
        by_cases h2 : okL [] (decPs R) = true
        · rw [if_pos h2, if_pos ⟨h1, h2⟩]
        · rw [if_neg h2, if_neg (fun h => h2 h.2)]
set_option maxHeartbeats 4000000 in
theorem fread_any (n y : Nat) (A : Option Addr) (c : Nat) (B : List UInt8) (w : World) (hv : BS w (.slice A B.length c) B) (hl : B.length ≤ 1000) :
    Calls Try.prog 7 #[.agg #[.int .u8 (n : Nat), .int .u8 (y : Nat), .slice A B.length c]] w (FRPost w (n, y, B)) := by
  have hb1 := below_alloc (w := w) (oChk n y (.slice A B.length c))
  have hx1 := heap_alloc_new w (oChk n y (.slice A B.length c))
  have hb2 := hb1.alloc hb1.size (oMsg 0 0 0 (.slice none 0 0) (.slice none 0 0))
  have hx2 := heap_alloc_new (w.alloc (oChk n y (.slice A B.length c))) (oMsg 0 0 0 (.slice none 0 0) (.slice none 0 0))
  have hx1' := (Fr.alloc (w.alloc (oChk n y (.slice A B.length c))) (oMsg 0 0 0 (.slice none 0 0) (.slice none 0 0))).heap hx1 (fun h => h)
  rw [World.size_alloc] at hx2
  have HV := Lib.hid (hv.below hb2)
  have HB := Lib.hid hb2
  have HX1 := Lib.hid hx1'
  have HX2 := Lib.hid hx2
  have HSz := Lib.hid (show ((w.alloc (oChk n y (.slice A B.length c))).alloc (oMsg 0 0 0 (.slice none 0 0) (.slice none 0 0))).heap.size = w.heap.size + 1 + 1 by rw [World.size_alloc, World.size_alloc])
  clear hv hb1 hx1 hb2 hx2 hx1'
  have HRt := Lib.hid (fun w => cright_any n y A c B w (by omega))
  have HKd := Lib.hid (fun w => kindof_any n y (.slice A B.length c) w)
  have hE1 : rightC (n, y, B) = false → readM (n, y, B) = DM.zero ∧ rdEM (n, y, B) = 1 := fun h => readM_fail (by rw [rdEM, h]; rfl) (by decide)
  have hE2 : rightC (n, y, B) = true → kindN n y = 0 → readM (n, y, B) = DM.zero ∧ rdEM (n, y, B) = 5 := fun h h2 => readM_fail (by rw [rdEM, if_pos h]; exact if_pos h2) (by decide)
  refine calls_q fun Q HQ => ?_
  unfold FRPost at HQ
  go_enter Try.func7, Try.ntmps7
  go_upto_region 1 with fail
  rw [show (w.alloc (.cells #[.int .u8 (n : Nat), .int .u8 (y : Nat), .slice A B.length c] 29)).alloc (.cells #[.int .i64 0, .int .u32 0, .int .u32 0, .slice none 0 0, .slice none 0 0] 26) = (w.alloc (oChk n y (.slice A B.length c))).alloc (oMsg 0 0 0 (.slice none 0 0) (.slice none 0 0)) from rfl]
  generalize (w.alloc (oChk n y (.slice A B.length c))).alloc (oMsg 0 0 0 (.slice none 0 0) (.slice none 0 0)) = w1 at *
  generalize hrx : w.heap.size + 1 = rx at *
  generalize hbx : w.heap.size = bx at *
  obtain ⟨k0, k1, k2, _, _, _⟩ := cells3m HX1.out
  go_wp2_with fail
  refine (HRt.out w1).mono ?_
  rintro e w2 ⟨rfl, hb⟩
  have HV2 := Lib.hid (HV.out.below hb)
  have HX12 := Lib.hid ((Fr.of hb).heap HX1.out (fun h => h))
  have HX22 := Lib.hid ((Fr.of hb).heap HX2.out (fun h => h))
  have HB2 := Lib.hid (show Below w.heap.size w w2 by have := HB.out; rw [← hbx] at this; exact this.trans (hb.mono this.size))
  have HSz2 := Lib.hid (show rx + 1 ≤ w2.heap.size by have := HSz.out; have := hb.size; omega)
  clear hb HV HB HX1 HX2 HSz k0 k1 k2
  by_cases hr : rightC (n, y, B) = true
  · rw [hr]
    have hE2 := hE2 hr
    have HR := Lib.hid hr
    clear hE1 hr
    obtain ⟨k0, k1, k2, _, _, _⟩ := cells3m HX12.out
    go_wp2_with fail
    refine (HKd.out w2).mono ?_
    rintro e w3 ⟨rfl, hb⟩
    have HV3 := Lib.hid (HV2.out.below hb)
    have HX13 := Lib.hid ((Fr.of hb).heap HX12.out (fun h => h))
    have HX23 := Lib.hid ((Fr.of hb).heap HX22.out (fun h => h))
    have HB3 := Lib.hid (HB2.out.trans (hb.mono HB2.out.size))
    have HSz3 := Lib.hid (show rx + 1 ≤ w3.heap.size by have := HSz2.out; have := hb.size; omega)
    clear hb HV2 HX12 HX22 HB2 HSz2 k0 k1 k2
    obtain ⟨k, hk⟩ : ∃ k, k = kindN n y := ⟨_, rfl⟩
    rw [← hk] at hE2 ⊢
    have HK := Lib.hid hk
    clear hk
    by_cases hk0 : k = 0
    · subst hk0
      have HEr := Lib.hid (hE2 rfl)
      clear hE2
      have HX24 := Lib.hid ((Fr.alloc w3 (oMsg 0 0 0 (.slice none 0 0) (.slice none 0 0))).heap HX23.out (fun h => h))
      have HB4 := Lib.hid (HB3.out.alloc HB3.out.size (oMsg 0 0 0 (.slice none 0 0) (.slice none 0 0)))
      go_upto_region 4 with fail
      rw [show w3.alloc (.cells #[.int .i64 0, .int .u32 0, .int .u32 0, .slice none 0 0, .slice none 0 0] 26) = w3.alloc (oMsg 0 0 0 (.slice none 0 0) (.slice none 0 0)) from rfl]
      have hmx := heap_alloc_new w3 (oMsg 0 0 0 (.slice none 0 0) (.slice none 0 0))
      generalize w3.alloc (oMsg 0 0 0 (.slice none 0 0) (.slice none 0 0)) = w4 at *
      generalize w3.heap.size = mx at *
      have mk := obj_cell hmx 0
      simp at mk
      clear hmx
      obtain ⟨k0, k1, k2, k3, k4⟩ := cells5m (HX24.out)
      have z0 := obj_frozen (HX24.out) 0
      have z1 := obj_frozen (HX24.out) 1
      have z2 := obj_frozen (HX24.out) 2
      have z3 := obj_frozen (HX24.out) 3
      have z4 := obj_frozen (HX24.out) 4
      go_wp2_with fail
      generalize hW : World.setCell _ _ _ = wf
      obtain ⟨hx, hfx⟩ := objs5m (HX24.out) _ _ _ _ _ wf hW.symm
      clear hW k0 k1 k2 k3 k4 z0 z1 z2 z3 z4
      obtain ⟨m0, m1, m2, m3, m4⟩ := cells5m hx
      refine bodyPost_ret (v := .tuple #[.agg #[.int .i64 0, .int .u32 0, .int .u32 0, .slice none 0 0, .slice none 0 0], .int .i64 5]) (by simp [results, Try.results7, go_sem, m0, m1, m2, m3, m4]; try rfl) rfl ?_
      have hB := (HB4.out).trans (hfx.below (HB4.out).size (fun k (hk : k = rx) => by omega))
      rw [hbx] at hB
      refine HQ.out _ _ ⟨.slice none 0 0, .slice none 0 0, ?_, ?_, ?_, hB⟩
      · rw [HEr.out.1, HEr.out.2]; rfl
      · rw [HEr.out.1]; exact AsS.nil _
      · rw [HEr.out.1]; exact LoS.nil _
    · have HK0 := Lib.hid hk0
      have hk0i : (k == 0) = false := by simp [hk0]
      clear hE2 hk0
      have HB4 := Lib.hid (HB3.out.alloc HB3.out.size (oMsg k 0 0 (.slice none 0 0) (.slice none 0 0)))
      have HX14 := Lib.hid ((Fr.alloc w3 (oMsg k 0 0 (.slice none 0 0) (.slice none 0 0))).heap HX13.out (fun h => h))
      have HX24 := Lib.hid ((Fr.alloc w3 (oMsg k 0 0 (.slice none 0 0) (.slice none 0 0))).heap HX23.out (fun h => h))
      have HM4 := Lib.hid (heap_alloc_new w3 (oMsg k 0 0 (.slice none 0 0) (.slice none 0 0)))
      have HV4 := Lib.hid (HV3.out.below (below_alloc (oMsg k 0 0 (.slice none 0 0) (.slice none 0 0))))
      have HSz4 := Lib.hid (show w3.heap.size < (w3.alloc (oMsg k 0 0 (.slice none 0 0) (.slice none 0 0))).heap.size by rw [World.size_alloc]; omega)
      clear HX13 HX23 HB3 HV3
      go_upto_region 4 with fail
      rw [show w3.alloc (.cells #[.int .i64 k, .int .u32 0, .int .u32 0, .slice none 0 0, .slice none 0 0] 26) = w3.alloc (oMsg k 0 0 (.slice none 0 0) (.slice none 0 0)) from rfl]
      generalize w3.alloc (oMsg k 0 0 (.slice none 0 0) (.slice none 0 0)) = w4 at *
      generalize w3.heap.size = mx at *
      have mk := (cells5m HM4.out).1
      obtain ⟨k0, k1, k2, _, _, _⟩ := cells3m HX14.out
      go_wp2_with fail
      refine (new_any _ B w4 HV4.out (by omega)).mono ?_
      rintro e w5 ⟨rb, rfl, hrd, hb, hsz⟩
      have hfr := Fr.of hb
      have h1 := HSz3.out
      have h2 := HSz4.out
      have HS5 := Lib.hid (show FRs w rx mx w4.heap.size rb k 0 0 (.slice none 0 0) (.slice none 0 0) [] [] B 0 w5 from
        ⟨hfr.heap HX24.out (fun h => h), hfr.heap HM4.out (fun h => h), hrd, World.ownsRow_nil _ _ _ _, World.ownsRow_nil _ _ _ _, HB4.out.trans (hb.mono HB4.out.size), by omega, h1, h2⟩)
      generalize w4.heap.size = lo at *
      clear hrd hb hsz hfr h1 h2 HB4 HX14 HX24 HM4 HV4 k0 k1 k2 mk HSz4
      have hR8 := rawR_add 4 4 B (by decide)
      have hE8 := rawE_add 4 4 B 0 (by decide)
      go_wp2_with fail
      refine (rnum_any lo rb B 0 w5 HS5.out.rd).mono ?_
      rintro e w6 ⟨rfl, hp⟩
      have HS6 := Lib.hid (HS5.out.read hp)
      clear hp HS5
      obtain ⟨_, _, _, _, _, z0, z1, z2, z3, z4⟩ := HS6.out.cells
      obtain ⟨_, k1, _, _, _, _, _, _, _, _⟩ := HS6.out.cells
      have hs7 := HS6.out.setw (k' := k) (se' := rdN 4 B) (me' := 0) (va' := .slice none 0 0) (vl' := .slice none 0 0) (ak' := []) (lz' := []) 1 (.int .u32 (rdN 4 B : Nat)) rfl (World.ownsRow_nil _ _ _ _) (World.ownsRow_nil _ _ _ _)
      have HS7 := Lib.hid hs7
      clear hs7
      go_upto_region 8 with fail
      generalize w6.setCell ⟨mx, 1, none⟩ (.int .u32 (rdN 4 B : Nat)) = w7 at *
      clear HS6 z0 z1 z2 z3 z4 k1
      go_wp2_with fail
      refine (rnum_any lo rb (rawR 4 B) (rawE 4 B 0) w7 HS7.out.rd).mono ?_
      rintro e w8 ⟨rfl, hp⟩
      rw [hR8, hE8] at hp
      have HS8 := Lib.hid (HS7.out.read hp)
      clear hp HS7 hR8 hE8
      obtain ⟨_, _, k2, _, _, z0, z1, z2, z3, z4⟩ := HS8.out.cells
      have hs9 := HS8.out.setw (k' := k) (se' := rdN 4 B) (me' := rdN 4 (rawR 4 B)) (va' := .slice none 0 0) (vl' := .slice none 0 0) (ak' := []) (lz' := []) 2 (.int .u32 (rdN 4 (rawR 4 B) : Nat)) rfl (World.ownsRow_nil _ _ _ _) (World.ownsRow_nil _ _ _ _)
      have HS9 := Lib.hid hs9
      clear hs9
      go_upto_region 9 with fail
      generalize w8.setCell ⟨mx, 2, none⟩ (.int .u32 (rdN 4 (rawR 4 B) : Nat)) = w9 at *
      clear HS8 z0 z1 z2 z3 z4 k2
      have HF := Lib.hid (read_fin (n := n) (y := y) (B := B) HR.out (by rw [← HK.out]; exact HK0.out))
      rw [← HK.out] at HF
      generalize rdN 4 B = se at *
      generalize rdN 4 (rawR 4 B) = me at *
      have HR8 := Lib.hid (show (rawR (4 + 4) B).length ≤ 1000 ∧ (rawR (4 + 4) B).length % 4 = 0 by
        have := (right_iffC.1 HR.out).2.1
        simp only at this
        unfold rawR
        split
        · simp only [List.length_drop]; omega
        · simp)
      generalize rawR (4 + 4) B = R at *
      generalize rawE (4 + 4) B 0 = e8 at *
      generalize rdEM (n, y, B) = EE at *
      generalize readM (n, y, B) = M at *
      obtain ⟨j0, j1, j2, j3, j4, z0, z1, z2, z3, z4⟩ := HS9.out.cells
      go_upto_block 0 with fail
      go_cut [] (fun wx => ∃ va vl ak lz l9 e9, FRs w rx mx lo rb k se me va vl ak lz l9 e9 wx ∧ endE l9 e9 = EE ∧ (EE = 0 → M = ⟨k, se, me, ak, lz⟩))
      case first =>
        obtain ⟨f1, f2, f3, f4, f5, f6⟩ := HF.out
        have HRl := HR8.out.1
        have HR4 := HR8.out.2
        clear HF HR8
        rcases f4 with hk | hk | hk
        · subst hk
          have HFe := Lib.hid (f1 rfl)
          have HFm := Lib.hid f6
          clear f1 f2 f3 f5 f6
          go_wp2_with fail
          go_meet
          case rel => exact ⟨_, _, [], [], R, e8, HS9.out, HFe.out.symm, fun h => by rw [HFm.out h]; simp [restM]⟩
        · subst hk
          have hf2 := f2 rfl
          have HFm := Lib.hid f6
          clear f1 f2 f3 f5 f6
          by_cases hm : me = 0
          · rw [if_pos hm] at hf2
            subst hm
            have HFe := Lib.hid hf2
            clear hf2
            go_wp2_with fail
            refine (readasks_any lo rb R e8 w9 HS9.out.rd HRl).mono ?_
            rintro r w11 ⟨u, zs, rfl, ho, hp, hz⟩
            obtain ⟨Au, cu, rfl⟩ := own_slice ho
            have hs11 := HS9.out.read hp
            have hrb := HS9.out.rd.lt.2
            have HS11 := Lib.hid hs11
            have HZ := Lib.hid hz
            have hs12 := hs11.setw (k' := 2) (se' := se) (me' := 0) (va' := .slice Au zs.length cu) (vl' := .slice none 0 0) (ak' := zs) (lz' := []) 3 (.slice Au zs.length cu) rfl (own_base ho hrb) (World.ownsRow_nil _ _ _ _)
            have HS12 := Lib.hid hs12
            clear ho hp hz hs11 hs12 hrb j0 j1 j2 j3 j4 z0 z1 z2 z3 z4
            obtain ⟨j0, j1, j2, j3, j4, z0, z1, z2, z3, z4⟩ := HS11.out.cells
            go_wp2_with fail
            go_meet
            case rel => exact ⟨_, _, zs, [], [], _, HS12.out, by rw [HFe.out]; rfl, fun h => by rw [HFm.out h, HZ.out (by rw [← HFe.out]; exact h)]; simp [restM]⟩
          · rw [if_neg hm] at hf2
            have HFe0 := Lib.hid hf2
            have hmi : ¬ ((me : Nat) : Int) = 0 := by omega
            clear hf2 hm
            go_wp2_with fail
            refine (rwrong_any lo rb R e8 2 w9 HS9.out.rd (by decide)).mono ?_
            rintro r w10 ⟨rfl, hp⟩
            have HS10 := Lib.hid (HS9.out.read hp)
            have HFe := Lib.hid (show EE = asksE [] (wrongE e8 2) by
              rw [HFe0.out]
              show wrongE e8 2 = wrongE (wrongE e8 2) 2
              unfold wrongE
              split
              · rfl
              · rfl)
            have HNz := Lib.hid (show EE ≠ 0 by rw [HFe0.out]; unfold wrongE; split <;> omega)
            clear hp j0 j1 j2 j3 j4 z0 z1 z2 z3 z4
            obtain ⟨j0, j1, j2, j3, j4, z0, z1, z2, z3, z4⟩ := HS10.out.cells
            go_wp2_with fail
            refine (readasks_any lo rb [] (wrongE e8 2) w10 HS10.out.rd (by simp)).mono ?_
            rintro r w11 ⟨u, zs, rfl, ho, hp, hz⟩
            obtain ⟨Au, cu, rfl⟩ := own_slice ho
            have hs11 := HS10.out.read hp
            have hrb := HS10.out.rd.lt.2
            have HS11 := Lib.hid hs11
            have HZ := Lib.hid hz
            have hs12 := hs11.setw (k' := 2) (se' := se) (me' := me) (va' := .slice Au zs.length cu) (vl' := .slice none 0 0) (ak' := zs) (lz' := []) 3 (.slice Au zs.length cu) rfl (own_base ho hrb) (World.ownsRow_nil _ _ _ _)
            have HS12 := Lib.hid hs12
            clear ho hp hz hs11 hs12 hrb j0 j1 j2 j3 j4 z0 z1 z2 z3 z4
            obtain ⟨j0, j1, j2, j3, j4, z0, z1, z2, z3, z4⟩ := HS11.out.cells
            go_wp2_with fail
            go_meet
            case rel => exact ⟨_, _, zs, [], [], _, HS12.out, by rw [HFe.out]; rfl, fun h => absurd h HNz.out⟩
        · subst hk
          have HFe := Lib.hid (f3 rfl)
          have HFm := Lib.hid f6
          clear f1 f2 f3 f5 f6
          go_wp2_with fail
          refine (readlost_any lo rb R e8 w9 HS9.out.rd HR4 HRl).mono ?_
          rintro r w11 ⟨u, zs, rfl, ho, hp, hz⟩
          obtain ⟨Au, cu, rfl⟩ := own_slice ho
          have hs11 := HS9.out.read hp
          have hrb := HS9.out.rd.lt.2
          have HS11 := Lib.hid hs11
          have HZ := Lib.hid hz
          have hs12 := hs11.setw (k' := 3) (se' := se) (me' := me) (va' := .slice none 0 0) (vl' := .slice Au zs.length cu) (ak' := []) (lz' := zs) 4 (.slice Au zs.length cu) rfl (World.ownsRow_nil _ _ _ _) (own_base ho hrb)
          have HS12 := Lib.hid hs12
          clear ho hp hz hs11 hs12 hrb j0 j1 j2 j3 j4 z0 z1 z2 z3 z4
          obtain ⟨j0, j1, j2, j3, j4, z0, z1, z2, z3, z4⟩ := HS11.out.cells
          go_wp2_with fail
          go_meet
          case rel => exact ⟨_, _, [], zs, [], _, HS12.out, by rw [HFe.out]; rfl, fun h => by rw [HFm.out h, HZ.out (by rw [← HFe.out]; exact h)]; simp [restM]⟩
      case rest =>
        obtain ⟨va, vl, ak, lz, l9, e9, hs, he, hM⟩ := hcut
        obtain ⟨Aa, ca, rfl⟩ := own_slice hs.ha
        obtain ⟨Al, cl, rfl⟩ := own_slice hs.hl
        have HS := Lib.hid hs
        have HE := Lib.hid he
        have HEnd := Lib.hid (rend_any lo rb l9 e9 wc hs.rd)
        rw [he] at HEnd
        clear hs he j0 j1 j2 j3 j4 z0 z1 z2 z3 z4 HS9 HR8
        by_cases hEE : EE = 0
        · have HM := Lib.hid (hM hEE)
          clear hM HF
          subst hEE
          rw [HM.out] at HQ
          obtain ⟨j0, j1, j2, j3, j4, _, _, _, _, _⟩ := HS.out.cells
          obtain ⟨k0, k1, k2, k3, k4⟩ := cells5m HS.out.res
          have z0 := obj_frozen HS.out.res 0
          have z1 := obj_frozen HS.out.res 1
          have z2 := obj_frozen HS.out.res 2
          have z3 := obj_frozen HS.out.res 3
          have z4 := obj_frozen HS.out.res 4
          go_wp2_with fail
          refine HEnd.out.mono ?_
          rintro r w12 ⟨rfl, hw⟩
          subst hw
          go_wp2_with fail
          generalize hW : World.setCell _ _ _ = wf
          obtain ⟨hx, hfx⟩ := objs5m HS.out.res _ _ _ _ _ wf hW.symm
          clear hW k0 k1 k2 k3 k4 z0 z1 z2 z3 z4 j0 j1 j2 j3 j4
          obtain ⟨m0, m1, m2, m3, m4⟩ := cells5m hx
          refine bodyPost_ret (v := .tuple #[.agg #[.int .i64 k, .int .u32 (se : Nat), .int .u32 (me : Nat), .slice Aa ak.length ca, .slice Al lz.length cl], .int .i64 0]) (by simp [results, Try.results7, go_sem, m0, m1, m2, m3, m4]; try rfl) rfl ?_
          have h0 := HS.out.o0
          have h1 := HS.out.o1
          have h2 := HS.out.o2
          have h3 := HS.out.rd.lt.1
          have hB := HS.out.below.trans (hfx.below HS.out.below.size (fun k (hk : k = rx) => by omega))
          rw [hbx] at hB
          refine HQ.out _ _ ⟨_, _, rfl, ?_, ?_, hB⟩
          · exact own_asks rfl (hfx.own HS.out.ha (fun k hk (hx : k = rx) => by have := (HS.out.ha.lt k hk).1; omega))
          · exact own_sv (hfx.own HS.out.hl (fun k hk (hx : k = rx) => by have := (HS.out.hl.lt k hk).1; omega))
        · have HM := Lib.hid (HF.out.2.2.2.2.1 hEE)
          have HNe := Lib.hid hEE
          have hi : (EE == 0) = false := by simp [hEE]
          have hi2 : (EE != 0) = true := by simp [hEE]
          have ho0 := HS.out.o0
          clear hM HF hEE
          go_wp2_with fail
          refine HEnd.out.mono ?_
          rintro r w12 ⟨rfl, hw⟩
          subst hw
          obtain ⟨k0, k1, k2, k3, k4⟩ := cells5m (HS.out.res)
          have z0 := obj_frozen (HS.out.res) 0
          have z1 := obj_frozen (HS.out.res) 1
          have z2 := obj_frozen (HS.out.res) 2
          have z3 := obj_frozen (HS.out.res) 3
          have z4 := obj_frozen (HS.out.res) 4
          go_wp2_with fail
          generalize hW : World.setCell _ _ _ = wf
          obtain ⟨hx, hfx⟩ := objs5m (HS.out.res) _ _ _ _ _ wf hW.symm
          clear hW k0 k1 k2 k3 k4 z0 z1 z2 z3 z4
          obtain ⟨m0, m1, m2, m3, m4⟩ := cells5m hx
          refine bodyPost_ret (v := .tuple #[.agg #[.int .i64 0, .int .u32 0, .int .u32 0, .slice none 0 0, .slice none 0 0], .int .i64 EE]) (by simp [results, Try.results7, go_sem, m0, m1, m2, m3, m4]; try rfl) rfl ?_
          have hB := (HS.out.below).trans (hfx.below (HS.out.below).size (fun k (hk : k = rx) => by omega))
          rw [hbx] at hB
          refine HQ.out _ _ ⟨.slice none 0 0, .slice none 0 0, ?_, ?_, ?_, hB⟩
          · rw [HM.out]; rfl
          · rw [HM.out]; exact AsS.nil _
          · rw [HM.out]; exact LoS.nil _
  · have HEr := Lib.hid (hE1 (by simpa using hr))
    have hr' : rightC (n, y, B) = false := by simpa using hr
    rw [hr']
    clear hE1 hE2 hr hr'
    obtain ⟨k0, k1, k2, k3, k4⟩ := cells5m (HX22.out)
    have z0 := obj_frozen (HX22.out) 0
    have z1 := obj_frozen (HX22.out) 1
    have z2 := obj_frozen (HX22.out) 2
    have z3 := obj_frozen (HX22.out) 3
    have z4 := obj_frozen (HX22.out) 4
    go_wp2_with fail
    generalize hW : World.setCell _ _ _ = wf
    obtain ⟨hx, hfx⟩ := objs5m (HX22.out) _ _ _ _ _ wf hW.symm
    clear hW k0 k1 k2 k3 k4 z0 z1 z2 z3 z4
    obtain ⟨m0, m1, m2, m3, m4⟩ := cells5m hx
    refine bodyPost_ret (v := .tuple #[.agg #[.int .i64 0, .int .u32 0, .int .u32 0, .slice none 0 0, .slice none 0 0], .int .i64 1]) (by simp [results, Try.results7, go_sem, m0, m1, m2, m3, m4]; try rfl) rfl ?_
    have hB := (HB2.out).trans (hfx.below (HB2.out).size (fun k (hk : k = rx) => by omega))
    rw [hbx] at hB
    refine HQ.out _ _ ⟨.slice none 0 0, .slice none 0 0, ?_, ?_, ?_, hB⟩
    · rw [HEr.out.1, HEr.out.2]; rfl
    · rw [HEr.out.1]; exact AsS.nil _
    · rw [HEr.out.1]; exact LoS.nil _
end Go.Proofs.Ytonkecfgopbclaa
