/- The walk of the document's Write: a report's chunk. -/
import Derived.Test.YthgajlmhgbhmlaaRrR
import Derived.Test.YthgajlmhgbhmlaaRrN
import Derived.Test.YthgajlmhgbhmlaaStep
import Derived.Test.YthgajlmhgbhmlaaRpWr
import Derived.Test.YthgajlmhgbhmlaaBSg
import Derived.Deep.DeepCutAuto
import Derived.Test.YthgajlmhgbhmlaaHeldK
namespace Go.Proofs.Ythgajlmhgbhmlaa
open Go.RowKit

abbrev oC7 (n y : Nat) (v : Value) : Obj := .cells #[.int .u8 (n : Nat), .int .u8 (y : Nat), v] 35 (0, 0)
abbrev oR8 (sd : Bool) (so i0 i1 i2 i3 i4 : Nat) (v : Value) : Obj := .cells #[.bool sd, .int .u32 (so : Nat), .int .u32 (i0 : Nat), .int .u32 (i1 : Nat), .int .u32 (i2 : Nat), .int .u32 (i3 : Nat), .int .u32 (i4 : Nat), v] 41 (0, 0)
/-- a chunk of the document's that grows, beside a report and another object -/
structure W8 (w0 : World) (bx rx lo cb bb : Nat) (orp oc ob : Obj) (v : Value) (l : List UInt8) (w : World) : Prop where
  rp : w.heap[bx]? = some orp
  res : w.heap[rx]? = some (oC7 0 0 (.slice none 0 0))
  c : w.heap[cb]? = some oc
  b : w.heap[bb]? = some ob
  own : w.ownsRow lo 5 1 v l.length (c8 l)
  ne : v.ownBlock ≠ some cb
  nb : v.ownBlock ≠ some bb
  below : Below w0.heap.size w0 w
  o0 : w0.heap.size ≤ bx
  o1 : bx < rx
  o2 : rx < lo
  o3 : lo ≤ cb
  o4 : bb ≠ cb
section
variable {w0 w w' : World} {bx rx lo cb bb : Nat} {orp oc ob : Obj} {v v' : Value} {l x : List UInt8}
theorem W8.after (h : W8 w0 bx rx lo cb bb orp oc ob v l w) (hb : Below w.heap.size w w') : W8 w0 bx rx lo cb bb orp oc ob v l w' :=
  ⟨(Fr.of hb).heap h.rp (fun h => h), (Fr.of hb).heap h.res (fun h => h), (Fr.of hb).heap h.c (fun h => h), (Fr.of hb).heap h.b (fun h => h), (Fr.of hb).own h.own (fun _ _ h => h), h.ne, h.nb, h.below.trans (hb.mono h.below.size), h.o0, h.o1, h.o2, h.o3, h.o4⟩
theorem W8.app (h : W8 w0 bx rx lo cb bb orp oc ob v l w) {m : Nat} (hm : m = x.length) (ho : w'.ownsRow lo 5 1 v' (l.length + m) (c8 l ++ c8 x)) (hg : w.grownBy w' v.ownBlock) (hk : v'.ownBlock = v.ownBlock ∨ v'.ownBlock = some w.heap.size) :
    W8 w0 bx rx lo cb bb orp oc ob v' (l ++ x) w' := by
  have h0 := h.o0; have h1 := h.o1; have h2 := h.o2; have h3 := h.o3
  have hf := Fr.grown hg
  have hlt : ∀ k, some k = v.ownBlock → lo ≤ k := fun k hk => (h.own.lt k hk.symm).1
  have hcl := obj_lt h.c
  have hbl := obj_lt h.b
  refine ⟨hf.heap h.rp (fun hx => by have := hlt _ hx; omega), hf.heap h.res (fun hx => by have := hlt _ hx; omega), hf.heap h.c (fun hx => h.ne hx.symm), hf.heap h.b (fun hx => h.nb hx.symm), ?_, ?_, ?_, h.below.trans (hf.below h.below.size (fun k hk => by have := hlt k hk; omega)), h0, h1, h2, h3, h.o4⟩
  · rw [c8_app, List.length_append, ← hm]; exact ho
  · rcases hk with hk | hk
    · rw [hk]; exact h.ne
    · rw [hk]; intro he; simp only [Option.some.injEq] at he; omega
  · rcases hk with hk | hk
    · rw [hk]; exact h.nb
    · rw [hk]; intro he; simp only [Option.some.injEq] at he; omega
theorem W8.set {cs : Array Value} {t : TypeId} (h : W8 w0 bx rx lo cb bb orp (.cells cs t (0, 0)) ob v l w) (i : Nat) (u : Value) : W8 w0 bx rx lo cb bb orp (.cells (cs.setIfInBounds i u) t (0, 0)) ob v l (w.setCell ⟨cb, i, none⟩ u) := by
  have h0 := h.o0; have h1 := h.o1; have h2 := h.o2; have h3 := h.o3; have h4 := h.o4
  have hf : Fr (F1 cb) w (w.setCell ⟨cb, i, none⟩ u) := Fr.setCell w ⟨cb, i, none⟩ u
  exact ⟨hf.heap h.rp (fun (hx : bx = cb) => by omega), hf.heap h.res (fun (hx : rx = cb) => by omega), obj_set h.c i u, hf.heap h.b (fun (hx : bb = cb) => h4 hx), hf.own h.own (fun k hk (hx : k = cb) => h.ne (by rw [hk, hx])), h.ne, h.nb, h.below.trans (hf.below h.below.size (fun k (hk : k = cb) => by omega)), h0, h1, h2, h3, h4⟩
/-- another object beside it -/
theorem W8.box (h : W8 w0 bx rx lo cb bb orp oc ob v l w) (cs : Array Value) (t : TypeId) : W8 w0 bx rx lo cb w.heap.size orp oc (.cells cs t (0, 0)) v l (w.alloc (.cells cs t (0, 0))) := by
  have hb := below_alloc (w := w) (.cells cs t (0, 0))
  have hcl := obj_lt h.c
  have h2 := h.after hb
  exact ⟨h2.rp, h2.res, h2.c, heap_alloc_new w _, h2.own, h2.ne, fun he => by have := (h.own.lt _ he).2; omega, h2.below, h.o0, h.o1, h.o2, h.o3, by omega⟩
end
theorem c8_b1 (p : Nat) (h : p < 256) : c8 (bytesL p 1) = [.int .u8 (p : Nat)] := by
  have e : (UInt8.ofNat p).toNat = p := by simp; omega
  simp [c8, bytesL, List.range_succ, e]
theorem heap1_1 (w : World) (a : Obj) : (w.alloc a).drew.heap[w.heap.size]? = some a := (Fr.drew _).heap (heap_alloc_new w a) (fun h => h)
theorem heap2_1 (w : World) (a b : Obj) : ((w.alloc a).alloc b).drew.heap[w.heap.size]? = some a :=
  (Fr.drew _).heap ((Fr.alloc _ b).heap (heap_alloc_new w a) (fun h => h)) (fun h => h)
theorem heap2_2 (w : World) (a b : Obj) : ((w.alloc a).alloc b).drew.heap[w.heap.size + 1]? = some b := by
  have h := heap_alloc_new (w.alloc a) b
  rw [World.size_alloc] at h
  exact (Fr.drew _).heap h (fun h => h)
theorem sv_obj {w : World} {k : Nat} {l : List Value} {t : TypeId} (h : w.heap[k]? = some (.cells l.toArray t (0, 0))) (hm : l.length ≤ maxLen) : SV w (.slice (some ⟨k, 0, none⟩) l.length l.length) l := by
  refine ⟨_, _, rfl, Nat.le_refl _, hm, fun hp => ⟨k, 0, rfl, obj_lt h, fun j hj => ?_⟩⟩
  rw [obj_cell h, Nat.zero_add]
  simp [List.getElem?_eq_getElem hj]
set_option maxRecDepth 20000 in
set_option linter.unusedSimpArgs false in
set_option maxHeartbeats 4000000 in
theorem rrwrite_any (sd : Bool) (so i0 i1 i2 i3 i4 : Nat) (bl : List DB) (A : Option Addr) (c : Nat) (w : World) (h : BlS w (.slice A bl.length c) bl) (ho : DR.Ok ⟨sd, so, i0, i1, i2, i3, i4, bl⟩) :
    Calls Try.prog 8 #[.agg #[.bool sd, .int .u32 (so : Nat), .int .u32 (i0 : Nat), .int .u32 (i1 : Nat), .int .u32 (i2 : Nat), .int .u32 (i3 : Nat), .int .u32 (i4 : Nat), .slice A bl.length c]] w
      (WritePost w ⟨sd, so, i0, i1, i2, i3, i4, bl⟩) := by
  have HT := Lib.hid h
  have HO := Lib.hid ho
  obtain ⟨_, _, he, _, _, hA⟩ := h.parts
  simp only [Value.slice.injEq, true_and] at he
  obtain ⟨rfl, rfl⟩ := he
  have HA := Lib.hid hA
  have hb1 := below_alloc (w := w) (oR8 sd so i0 i1 i2 i3 i4 (.slice A bl.length c))
  have hb2 := hb1.alloc hb1.size (oC7 0 0 (.slice none 0 0))
  have hx1 := (Fr.alloc (w.alloc (oR8 sd so i0 i1 i2 i3 i4 (.slice A bl.length c))) (oC7 0 0 (.slice none 0 0))).heap (heap_alloc_new w (oR8 sd so i0 i1 i2 i3 i4 (.slice A bl.length c))) (fun h => h)
  have hx2 := heap_alloc_new (w.alloc (oR8 sd so i0 i1 i2 i3 i4 (.slice A bl.length c))) (oC7 0 0 (.slice none 0 0))
  rw [World.size_alloc] at hx2
  have HX := Lib.hid hx1
  have HRx := Lib.hid hx2
  have HB := Lib.hid hb2
  clear h ho hA hb1 hb2 hx1 hx2
  refine calls_q fun Q HQ => ?_
  unfold WritePost at HQ
  go_enter Try.func8, Try.ntmps8
  go_wp2_with fail
  have HS := Lib.hid (show w.heap.size < w.heap.size + 1 ∧ w.heap.size + 1 < ((w.alloc (oR8 sd so i0 i1 i2 i3 i4 (.slice A bl.length c))).alloc (oC7 0 0 (.slice none 0 0))).heap.size by simp)
  rw [show (w.alloc (.cells #[.bool sd, .int .u32 (so : Nat), .int .u32 (i0 : Nat), .int .u32 (i1 : Nat), .int .u32 (i2 : Nat), .int .u32 (i3 : Nat), .int .u32 (i4 : Nat), .slice A bl.length c] 41)).alloc (Obj.cells #[.int .u8 0, .int .u8 0, .slice none 0 0] 35) = (w.alloc (oR8 sd so i0 i1 i2 i3 i4 (.slice A bl.length c))).alloc (oC7 0 0 (.slice none 0 0)) from rfl] at *
  generalize hbx : w.heap.size = bx at HX HRx HS ⊢
  have HBx := Lib.hid (show w.heap.size ≤ bx by omega)
  clear hbx
  generalize (w.alloc (oR8 sd so i0 i1 i2 i3 i4 (.slice A bl.length c))).alloc (oC7 0 0 (.slice none 0 0)) = wa at *
  obtain ⟨rx, hrx⟩ : ∃ rx, rx = bx + 1 := ⟨_, rfl⟩
  rw [← hrx] at HRx HS ⊢
  clear hrx
  refine (rrright_any sd so i0 i1 i2 i3 i4 bl A c _ (HT.out.below HB.out)).mono ?_
  rintro e w1 ⟨rfl, hb⟩
  have HX1 := Lib.hid ((Fr.of hb).heap HX.out (fun h => h))
  have HRx1 := Lib.hid ((Fr.of hb).heap HRx.out (fun h => h))
  have HB1 := Lib.hid (HB.out.trans (hb.mono HB.out.size))
  have HS1 := Lib.hid (show bx < rx ∧ rx < w1.heap.size by have := HS.out; have := hb.size; omega)
  clear hb HX HRx HB HS
  by_cases hr : rightR ⟨sd, so, i0, i1, i2, i3, i4, bl⟩ = true
  · have HC := Lib.hid (show wrC ⟨sd, so, i0, i1, i2, i3, i4, bl⟩ = (bl.length, typR sd, encR ⟨sd, so, i0, i1, i2, i3, i4, bl⟩) ∧ wrE ⟨sd, so, i0, i1, i2, i3, i4, bl⟩ = 0 by rw [wrC, wrE, if_pos hr, if_pos hr]; exact ⟨rfl, rfl⟩)
    rw [hr]
    have hl8 : bl.length ≤ 8 := by
      have h := (rightR_iff.1 hr).2.1
      unfold mostN at h
      split at h <;> simp only at h <;> omega
    have hw8 : IntKind.u8.wrap (bl.length : Int) = (bl.length : Int) := by rw [wrap_u8]; omega
    obtain ⟨k0, k1, k2, k3, k4, k5, k6, k7⟩ := cells8 HX1.out
    go_upto_region 3 with fail
    have HSo := Lib.hid (show ∀ z ∈ [so], z < 4294967296 by intro z hz; rw [List.mem_singleton.1 hz]; exact HO.out.so)
    have HNs := Lib.hid (show numsB [so] = bytesL so 4 by simp [numsB])
    go_cut [4] (fun p wx => ∃ cb v, p = .pointer (some ⟨cb, 0, none⟩) ∧ W8 w bx rx w1.heap.size cb bx (oR8 sd so i0 i1 i2 i3 i4 (.slice A bl.length c)) (oC7 bl.length 201 v) (oR8 sd so i0 i1 i2 i3 i4 (.slice A bl.length c)) v (bytesL so 4) wx)
    case first =>
      clear k0 k1 k2 k3 k4 k5 k6 k7
      have k1 := obj_cell HX1.out 1
      have k7 := obj_cell HX1.out 7
      have hka := (Fr.alloc w1 (.cells #[.int .u8 0, .int .u8 0, .slice none 0 0] 35)).heap HX1.out (fun h => h)
      have a1 := obj_cell hka 1
      have a7 := obj_cell hka 7
      have hkb := (Fr.alloc w1 (.cells #[.int .u32 (so : Nat)] 22)).heap HX1.out (fun h => h)
      have b1 := obj_cell hkb 1
      have b7 := obj_cell hkb 7
      have hkc := (Fr.alloc _ (.cells #[.int .u32 (so : Nat)] 22)).heap hka (fun h => h)
      have c1 := obj_cell hkc 1
      have c7 := obj_cell hkc 7
      have hke := (Fr.alloc _ (.cells #[.int .u8 0, .int .u8 0, .slice none 0 0] 35)).heap hkb (fun h => h)
      have e1 := obj_cell hke 1
      have e7 := obj_cell hke 7
      simp only [List.getElem?_toArray, List.getElem?_cons_succ, List.getElem?_cons_zero] at k1 k7 a1 a7 b1 b7 c1 c7 e1 e7
      clear hka hkb hkc hke
      go_region_law (
        (go_simp
         go_at_call 22
         refine (rnums_any _ [so] _ (sv_obj (l := u32s [so]) (t := 22) (by first | exact heap1_1 _ _ | exact heap2_1 _ _ _ | exact heap2_2 _ _ _) (by simp [u32s, maxLen])) HSo.out (by simp)).mono ?_
         rintro r w2 ⟨u, rfl, hu, hb⟩
         obtain ⟨Au, cu, rfl⟩ := own_slice hu
         have hx2 := (Fr.of hb).heap (by first | exact (Fr.drew _).heap ((Fr.alloc _ _).heap ((Fr.alloc _ _).heap HX1.out (fun h => h)) (fun h => h)) (fun h => h) | exact (Fr.drew _).heap ((Fr.alloc _ _).heap HX1.out (fun h => h)) (fun h => h)) (fun h => h)
         have HX2 := Lib.hid hx2
         have d1 := obj_cell hx2 1
         have d7 := obj_cell hx2 7
         have hx3 := (Fr.alloc w2 (.cells #[.int .u8 0, .int .u8 0, .slice none 0 0] 35)).heap hx2 (fun h => h)
         have f1 := obj_cell hx3 1
         have f7 := obj_cell hx3 7
         simp only [List.getElem?_toArray, List.getElem?_cons_succ, List.getElem?_cons_zero] at d1 d7 f1 f7
         clear hx2 hx3
         have hun := hu
         rw [show [so].length = 1 from rfl, HNs.out] at hun
         (first
           | (have hcx := (Fr.of hb).heap (heap2_2 w1 (.cells #[.int .u32 (so : Nat)] 22) (.cells #[.int .u8 0, .int .u8 0, .slice none 0 0] 35)) (fun h => h); have HCx := Lib.hid hcx; have HNe := Lib.hid (show ∀ k, (Value.slice Au 4 cu).ownBlock = some k → k ≠ w1.heap.size + 1 from fun k hk => by have h := (hu.lt k hk).1; have h2 : ((w1.alloc (.cells #[.int .u32 (so : Nat)] 22)).alloc (.cells #[.int .u8 0, .int .u8 0, .slice none 0 0] 35)).heap.size ≤ k := h; rw [World.size_alloc, World.size_alloc] at h2; omega); obtain ⟨y0, y1, y2, x0, x1, x2⟩ := cells3 hcx; clear hcx)
           | (have hcx := (Fr.of hb).heap (heap2_1 w1 (.cells #[.int .u8 0, .int .u8 0, .slice none 0 0] 35) (.cells #[.int .u32 (so : Nat)] 22)) (fun h => h); have HCx := Lib.hid hcx; have HNe := Lib.hid (show ∀ k, (Value.slice Au 4 cu).ownBlock = some k → k ≠ w1.heap.size from fun k hk => by have h := (hu.lt k hk).1; have h2 : ((w1.alloc (.cells #[.int .u8 0, .int .u8 0, .slice none 0 0] 35)).alloc (.cells #[.int .u32 (so : Nat)] 22)).heap.size ≤ k := h; rw [World.size_alloc, World.size_alloc] at h2; omega); obtain ⟨y0, y1, y2, x0, x1, x2⟩ := cells3 hcx; clear hcx)
           | (have HNe := Lib.hid (show ∀ k, (Value.slice Au 4 cu).ownBlock = some k → k ≠ w2.heap.size from fun k hk => by have h := (hu.lt k hk).2; omega)))
         (first
           | (have X := below_drewN (below_alloc (w := w1) (.cells #[.int .u32 (so : Nat)] 22)) 1; have HB2 := Lib.hid (X.trans (hb.mono X.size)); have HU2 := Lib.hid (own_base hun X.size))
           | (have X := below_drewN ((below_alloc (w := w1) (.cells #[.int .u32 (so : Nat)] 22)).alloc (below_alloc (.cells #[.int .u32 (so : Nat)] 22)).size (.cells #[.int .u8 0, .int .u8 0, .slice none 0 0] 35)) 1; have HB2 := Lib.hid (X.trans (hb.mono X.size)); have HU2 := Lib.hid (own_base hun X.size))
           | (have X := below_drewN ((below_alloc (w := w1) (.cells #[.int .u8 0, .int .u8 0, .slice none 0 0] 35)).alloc (below_alloc (.cells #[.int .u8 0, .int .u8 0, .slice none 0 0] 35)).size (.cells #[.int .u32 (so : Nat)] 22)) 1; have HB2 := Lib.hid (X.trans (hb.mono X.size)); have HU2 := Lib.hid (own_base hun X.size)))
         clear hu hb hun X))
      all_goals
        clear k1 k7 a1 a7 b1 b7 c1 c7 e1 e7 d1 d7 f1 f7
        go_wp2_with fail
        go_meet
        have hbx1 := HBx.out
        have hs1 := HS1.out
        have hr2 := (Fr.of HB2.out).heap HRx1.out (fun h => h)
        have hb2 := HB1.out.trans (HB2.out.mono HB1.out.size)
        first
          | (refine ⟨w2.heap.size, .slice Au 4 cu, rfl, ?_⟩
             have ha := Fr.alloc w2 (.cells #[.int .u8 (bl.length : Nat), .int .u8 201, .slice Au 4 cu] 35)
             have hsz2 := HB2.out.size
             exact ⟨ha.heap HX2.out (fun h => h), ha.heap hr2 (fun h => h), heap_alloc_new w2 _, ha.heap HX2.out (fun h => h), by rw [bytesL_len]; exact ha.own HU2.out (fun _ _ h => h), fun h => HNe.out _ h rfl, fun h => by have := (HU2.out.lt _ h).1; omega, hb2.alloc hb2.size _, hbx1, hs1.1, hs1.2, hsz2, by omega⟩)
          | (generalize hW : World.setCell _ _ _ = wf
             obtain ⟨hx, hfx⟩ := objs3 HCx.out _ _ _ wf hW.symm
             clear hW
             exact ⟨_, .slice Au 4 cu, rfl, hfx.heap HX2.out (fun (h : bx = _) => by omega), hfx.heap hr2 (fun (h : rx = _) => by omega), hx, hfx.heap HX2.out (fun (h : bx = _) => by omega), by rw [bytesL_len]; exact hfx.own HU2.out (fun k hk (h : k = _) => HNe.out k hk h), fun h => HNe.out _ h rfl, fun h => by have := (HU2.out.lt _ h).1; omega, hb2.trans (hfx.below hb2.size (fun k (hk : k = _) => by omega)), hbx1, hs1.1, hs1.2, by omega, by omega⟩)
    case rest =>
      obtain ⟨cb, v, rfl, hW⟩ := hcut
      have HW3 := Lib.hid hW
      have hZs : ∀ z ∈ [i0, i1, i2, i3, i4], z < 4294967296 := by
        have h0 := HO.out.i0; have h1 := HO.out.i1; have h2 := HO.out.i2; have h3 := HO.out.i3; have h4 := HO.out.i4
        intro z hz
        simp only [List.mem_cons, List.not_mem_nil, or_false] at hz
        rcases hz with rfl | rfl | rfl | rfl | rfl <;> assumption
      have HZs := Lib.hid hZs
      clear hW hZs k0 k1 k2 k3 k4 k5 k6 k7 HX1 HRx1 HB1 HS1 HBx HSo HNs
      generalize wc = w3 at *
      generalize w1.heap.size = lo at *
      obtain ⟨k0, k1, k2, k3, k4, k5, k6, k7⟩ := cells8 HW3.out.rp
      go_upto_if 21 with fail
      go_cut [] (fun wx => ∃ v, W8 w bx rx lo cb bx (oR8 sd so i0 i1 i2 i3 i4 (.slice A bl.length c)) (oC7 bl.length (typR sd) v) (oR8 sd so i0 i1 i2 i3 i4 (.slice A bl.length c)) v (headR ⟨sd, so, i0, i1, i2, i3, i4, bl⟩) wx)
      case first =>
        cases sd
        · have h4 := HW3.out
          rw [show bytesL so 4 = headR ⟨false, so, i0, i1, i2, i3, i4, bl⟩ by simp [headR]] at h4
          have HW4 := Lib.hid h4
          clear h4 HW3
          go_wp2_with fail
          go_meet
          exact ⟨v, HW4.out⟩
        · obtain ⟨Av, cv, hv⟩ := own_slice HW3.out.own
          obtain ⟨m, hm⟩ : ∃ m, (bytesL so 4).length = m := ⟨_, rfl⟩
          rw [hm] at hv
          subst hv
          have HM := Lib.hid hm
          have hm1 : m ≤ 1000 := by rw [← hm, bytesL_len]; decide
          clear hm
          obtain ⟨m0, m1, m2, z0, z1, z2⟩ := cells3 HW3.out.c
          have h4 := HW3.out.set 1 (.int .u8 200)
          rw [show (#[Value.int .u8 (bl.length : Nat), .int .u8 ((201 : Nat) : Int), .slice Av m cv].setIfInBounds 1 (.int .u8 200)) = #[.int .u8 (bl.length : Nat), .int .u8 ((200 : Nat) : Int), .slice Av m cv] from rfl] at h4
          have HW := Lib.hid h4
          clear h4 HW3 k0 k1 k2 k3 k4 k5 k6 k7
          go_upto_region 6 with fail
          generalize w3.setCell ⟨cb, 1, none⟩ (.int .u8 200) = w4 at *
          clear m0 m1 m2 z0 z1 z2
          obtain ⟨k0, k1, k2, k3, k4, k5, k6, k7⟩ := cells8 HW.out.rp
          have HNs := Lib.hid (show numsB [i0, i1, i2, i3, i4] = encI ⟨true, so, i0, i1, i2, i3, i4, bl⟩ by simp [numsB, encI])
          have HXl := Lib.hid (encI_len ⟨true, so, i0, i1, i2, i3, i4, bl⟩)
          have HHd := Lib.hid (show bytesL so 4 ++ encI ⟨true, so, i0, i1, i2, i3, i4, bl⟩ = headR ⟨true, so, i0, i1, i2, i3, i4, bl⟩ by simp [headR])
          generalize encI ⟨true, so, i0, i1, i2, i3, i4, bl⟩ = XI at *
          have HT1 := Lib.hid (show (fun w' : World => w'.cell? ⟨bx, 2, none⟩ = some (.int .u32 (i0 : Nat)) ∧ w'.cell? ⟨bx, 3, none⟩ = some (.int .u32 (i1 : Nat)) ∧ w'.cell? ⟨bx, 4, none⟩ = some (.int .u32 (i2 : Nat)) ∧ w'.cell? ⟨bx, 5, none⟩ = some (.int .u32 (i3 : Nat)) ∧ w'.cell? ⟨bx, 6, none⟩ = some (.int .u32 (i4 : Nat))) w4.drew from by have h := (Fr.drew w4).heap HW.out.rp (fun h => h); exact ⟨obj_cell h 2, obj_cell h 3, obj_cell h 4, obj_cell h 5, obj_cell h 6⟩)
          have HT2 := Lib.hid (show (fun w' : World => w'.cell? ⟨cb, 2, none⟩ = some (.slice Av m cv)) w4.drew from by have h := (Fr.drew w4).heap HW.out.c (fun h => h); exact (cells3 h).2.2.1)
          refine wp_region_noPanic ?_
          refine wpK_start (S := SK 17 (fun w' : World => w'.cell? ⟨bx, 2, none⟩ = some (.int .u32 (i0 : Nat)) ∧ w'.cell? ⟨bx, 3, none⟩ = some (.int .u32 (i1 : Nat)) ∧ w'.cell? ⟨bx, 4, none⟩ = some (.int .u32 (i2 : Nat)) ∧ w'.cell? ⟨bx, 5, none⟩ = some (.int .u32 (i3 : Nat)) ∧ w'.cell? ⟨bx, 6, none⟩ = some (.int .u32 (i4 : Nat))) 19 (fun w' : World => w'.cell? ⟨cb, 2, none⟩ = some (.slice Av m cv))) (by kernel_rfl) ?_
          refine wpK_take0 (i := 0) (v := ?_) rfl (by kernel_rfl) (by kernel_rfl) (by kernel_rfl) ⟨by decide, by decide⟩ (fun _ _ _ h => h) (Or.inl ⟨by rfl, ?_⟩) ⟨fun _ => HT1.out, fun _ => HT2.out⟩ ?_
          rotate_left
          · intro w hSw
            try dsimp only at hSw
            first | (go_simp; done) | (go_simp; with_reducible rfl)
          try simp only [Act.put, List.setIfInBounds_toArray, List.set_cons_zero, List.set_cons_succ]
          refine wpK_take2 (i := 1) (v := ?_) rfl (by kernel_rfl) (by kernel_rfl) (by kernel_rfl) ⟨by decide, by decide⟩ (by kernel_rfl) (by kernel_rfl) (fun _ _ _ h => h) (Or.inl ⟨by rfl, ?_⟩) ⟨fun _ => HT1.out, fun _ => HT2.out⟩ ?_
          rotate_left
          · intro w hSw
            try dsimp only at hSw
            first | (go_simp; done) | (go_simp; with_reducible rfl)
          try simp only [Act.put, List.setIfInBounds_toArray, List.set_cons_zero, List.set_cons_succ]
          refine wpK_take0 (i := 2) (v := ?_) rfl (by kernel_rfl) (by kernel_rfl) (by kernel_rfl) ⟨by decide, by decide⟩ (fun _ _ _ h => h) (Or.inl ⟨by rfl, ?_⟩) ⟨fun _ => HT1.out, fun _ => HT2.out⟩ ?_
          rotate_left
          · intro w hSw
            try dsimp only at hSw
            first | (go_simp; done) | (go_simp; with_reducible rfl)
          try simp only [Act.put, List.setIfInBounds_toArray, List.set_cons_zero, List.set_cons_succ]
          refine wpK_take0 (i := 3) (v := ?_) rfl (by kernel_rfl) (by kernel_rfl) (by kernel_rfl) ⟨by decide, by decide⟩ (fun _ _ _ h => h) (Or.inl ⟨by rfl, ?_⟩) ⟨fun _ => HT1.out, fun _ => HT2.out⟩ ?_
          rotate_left
          · intro w hSw
            try dsimp only at hSw
            first | (go_simp; done) | (go_simp; with_reducible rfl)
          try simp only [Act.put, List.setIfInBounds_toArray, List.set_cons_zero, List.set_cons_succ]
          refine wpK_take1 (i := 4) (v := ?_) rfl (by kernel_rfl) (by kernel_rfl) (by kernel_rfl) ⟨by decide, by decide⟩ (by kernel_rfl) (by kernel_rfl) (fun _ _ _ h => h) (Or.inl ⟨by rfl, ?_⟩) ⟨fun _ => HT1.out, fun _ => HT2.out⟩ ?_
          rotate_left
          · intro w hSw
            try dsimp only at hSw
            first | (go_simp; done) | (go_simp; with_reducible rfl)
          try simp only [Act.put, List.setIfInBounds_toArray, List.set_cons_zero, List.set_cons_succ]
          refine wpK_take0 (i := 5) (v := ?_) rfl (by kernel_rfl) (by kernel_rfl) (by kernel_rfl) ⟨by decide, by decide⟩ (fun _ _ _ h => h) (Or.inl ⟨by rfl, ?_⟩) ⟨fun _ => HT1.out, fun _ => HT2.out⟩ ?_
          rotate_left
          · intro w hSw
            try dsimp only at hSw
            first | (go_simp; done) | (go_simp; with_reducible rfl)
          try simp only [Act.put, List.setIfInBounds_toArray, List.set_cons_zero, List.set_cons_succ]
          refine wpK_take0 (i := 6) (v := ?_) rfl (by kernel_rfl) (by kernel_rfl) (by kernel_rfl) ⟨by decide, by decide⟩ (fun _ _ _ h => h) (Or.inl ⟨by rfl, ?_⟩) ⟨fun _ => HT1.out, fun _ => HT2.out⟩ ?_
          rotate_left
          · intro w hSw
            try dsimp only at hSw
            first | (go_simp; done) | (go_simp; with_reducible rfl)
          try simp only [Act.put, List.setIfInBounds_toArray, List.set_cons_zero, List.set_cons_succ]
          refine wpK_take1 (i := 7) (v := ?_) rfl (by kernel_rfl) (by kernel_rfl) (by kernel_rfl) ⟨by decide, by decide⟩ (by kernel_rfl) (by kernel_rfl) (fun _ _ _ h => h) (Or.inl ⟨by rfl, ?_⟩) ⟨fun _ => HT1.out, fun _ => HT2.out⟩ ?_
          rotate_left
          · intro w hSw
            try dsimp only at hSw
            first | (go_simp; done) | (go_simp; with_reducible rfl)
          try simp only [Act.put, List.setIfInBounds_toArray, List.set_cons_zero, List.set_cons_succ]
          refine wpK_take0 (i := 8) (v := ?_) rfl (by kernel_rfl) (by kernel_rfl) (by kernel_rfl) ⟨by decide, by decide⟩ (fun _ _ _ h => h) (Or.inl ⟨by rfl, ?_⟩) ⟨fun _ => HT1.out, fun _ => HT2.out⟩ ?_
          rotate_left
          · intro w hSw
            try dsimp only at hSw
            first | (go_simp; done) | (go_simp; with_reducible rfl)
          try simp only [Act.put, List.setIfInBounds_toArray, List.set_cons_zero, List.set_cons_succ]
          refine wpK_take0 (i := 9) (v := ?_) rfl (by kernel_rfl) (by kernel_rfl) (by kernel_rfl) ⟨by decide, by decide⟩ (fun _ _ _ h => h) (Or.inl ⟨by rfl, ?_⟩) ⟨fun _ => HT1.out, fun _ => HT2.out⟩ ?_
          rotate_left
          · intro w hSw
            try dsimp only at hSw
            first | (go_simp; done) | (go_simp; with_reducible rfl)
          try simp only [Act.put, List.setIfInBounds_toArray, List.set_cons_zero, List.set_cons_succ]
          refine wpK_take1 (i := 10) (v := ?_) rfl (by kernel_rfl) (by kernel_rfl) (by kernel_rfl) ⟨by decide, by decide⟩ (by kernel_rfl) (by kernel_rfl) (fun _ _ _ h => h) (Or.inl ⟨by rfl, ?_⟩) ⟨fun _ => HT1.out, fun _ => HT2.out⟩ ?_
          rotate_left
          · intro w hSw
            try dsimp only at hSw
            first | (go_simp; done) | (go_simp; with_reducible rfl)
          try simp only [Act.put, List.setIfInBounds_toArray, List.set_cons_zero, List.set_cons_succ]
          refine wpK_take0 (i := 11) (v := ?_) rfl (by kernel_rfl) (by kernel_rfl) (by kernel_rfl) ⟨by decide, by decide⟩ (fun _ _ _ h => h) (Or.inl ⟨by rfl, ?_⟩) ⟨fun _ => HT1.out, fun _ => HT2.out⟩ ?_
          rotate_left
          · intro w hSw
            try dsimp only at hSw
            first | (go_simp; done) | (go_simp; with_reducible rfl)
          try simp only [Act.put, List.setIfInBounds_toArray, List.set_cons_zero, List.set_cons_succ]
          refine wpK_take0 (i := 12) (v := ?_) rfl (by kernel_rfl) (by kernel_rfl) (by kernel_rfl) ⟨by decide, by decide⟩ (fun _ _ _ h => h) (Or.inl ⟨by rfl, ?_⟩) ⟨fun _ => HT1.out, fun _ => HT2.out⟩ ?_
          rotate_left
          · intro w hSw
            try dsimp only at hSw
            first | (go_simp; done) | (go_simp; with_reducible rfl)
          try simp only [Act.put, List.setIfInBounds_toArray, List.set_cons_zero, List.set_cons_succ]
          refine wpK_take1 (i := 13) (v := ?_) rfl (by kernel_rfl) (by kernel_rfl) (by kernel_rfl) ⟨by decide, by decide⟩ (by kernel_rfl) (by kernel_rfl) (fun _ _ _ h => h) (Or.inl ⟨by rfl, ?_⟩) ⟨fun _ => HT1.out, fun _ => HT2.out⟩ ?_
          rotate_left
          · intro w hSw
            try dsimp only at hSw
            first | (go_simp; done) | (go_simp; with_reducible rfl)
          try simp only [Act.put, List.setIfInBounds_toArray, List.set_cons_zero, List.set_cons_succ]
          refine wpK_take0 (i := 14) (v := ?_) rfl (by kernel_rfl) (by kernel_rfl) (by kernel_rfl) ⟨by decide, by decide⟩ (fun _ _ _ h => h) (Or.inl ⟨by rfl, ?_⟩) ⟨fun _ => HT1.out, fun _ => HT2.out⟩ ?_
          rotate_left
          · intro w hSw
            try dsimp only at hSw
            first | (go_simp; done) | (go_simp; with_reducible rfl)
          try simp only [Act.put, List.setIfInBounds_toArray, List.set_cons_zero, List.set_cons_succ]
          refine wpK_take0 (i := 15) (v := ?_) rfl (by kernel_rfl) (by kernel_rfl) (by kernel_rfl) ⟨by decide, by decide⟩ (fun _ _ _ h => h) (Or.inl ⟨by rfl, ?_⟩) ⟨fun _ => HT1.out, fun _ => HT2.out⟩ ?_
          rotate_left
          · intro w hSw
            try dsimp only at hSw
            first | (go_simp; done) | (go_simp; with_reducible rfl)
          try simp only [Act.put, List.setIfInBounds_toArray, List.set_cons_zero, List.set_cons_succ]
          refine wpK_take1 (i := 16) (v := ?_) rfl (by kernel_rfl) (by kernel_rfl) (by kernel_rfl) ⟨by decide, by decide⟩ (by kernel_rfl) (by kernel_rfl) (fun _ _ _ h => h) (Or.inl ⟨by rfl, ?_⟩) ⟨fun _ => HT1.out, fun _ => HT2.out⟩ ?_
          rotate_left
          · intro w hSw
            try dsimp only at hSw
            first | (go_simp; done) | (go_simp; with_reducible rfl)
          try simp only [Act.put, List.setIfInBounds_toArray, List.set_cons_zero, List.set_cons_succ]
          refine wpK_one (i := 17) (by kernel_rfl) rfl (fun K hK => ?_)
          go_simp
          refine hK.out _ _ (SK.one (by kernel_rfl) (by first | exact (cells3 ((Fr.alloc _ _).heap ((Fr.drew _).heap HW.out.c (fun h => h)) (fun h => h))).2.2.1 | exact (cells3 ((Fr.drew _).heap ((Fr.alloc _ _).heap HW.out.c (fun h => h)) (fun h => h))).2.2.1)) ?_
          clear hK K
          try simp only [Act.put, List.setIfInBounds_toArray, List.set_cons_zero, List.set_cons_succ]
          refine wpK_one (i := 18) (by kernel_rfl) rfl (fun K hK => ?_)
          go_simp
          go_at_call 22
          refine (rnums_any _ [i0, i1, i2, i3, i4] _ (sv_obj (l := u32s [i0, i1, i2, i3, i4]) (t := 22) (by first | exact heap1_1 _ _ | exact heap_alloc_new _ _) (by simp [u32s, maxLen])) HZs.out (by simp)).mono ?_
          rintro r w6 ⟨u, rfl, hu, hb⟩
          rw [show 4 * ([i0, i1, i2, i3, i4]).length = 20 from rfl, HNs.out] at hu
          obtain ⟨Au, cu, rfl⟩ := own_slice hu
          have hsr := src_of HXl.out (own_src hu).1
          have X := below_drewN (below_alloc (w := w4) (.cells #[.int .u32 (i0 : Nat), .int .u32 (i1 : Nat), .int .u32 (i2 : Nat), .int .u32 (i3 : Nat), .int .u32 (i4 : Nat)] 22)) 1
          have HC := Lib.hid (HW.out.after (X.trans (hb.mono X.size)))
          have HSrc := Lib.hid hsr
          have HO6 := Lib.hid (show w6.ownsRow lo 5 1 (.slice Av m cv) m _ from by have h := HC.out.own; rw [HM.out] at h; exact h)
          have HLo := Lib.hid (show lo ≤ w6.heap.size from by have := HC.out.o3; have := obj_lt HC.out.c; omega)
          clear hu hb hsr X
          refine hK.out _ _ (SK.one (by kernel_rfl) (cells3 HC.out.c).2.2.1) ?_
          clear hK K
          try simp only [Act.put, List.setIfInBounds_toArray, List.set_cons_zero, List.set_cons_succ]
          refine wpK_one (i := 19) (by kernel_rfl) rfl (fun K hK => ?_)
          refine step_app rfl (.tmp 24) (.tmp 41) 28 rfl lo 5 (.int .u8 0) 1 Try.underlying28 (by kernel_rfl) rfl _ _ _ rfl HO6.out _ _ _ (c8 XI) rfl HSrc.out (c8_one _) (by unfold maxLen; omega) (by omega) HLo.out ?_
          intro v' w7 hown hg hblk
          obtain ⟨A7, c7, rfl⟩ := own_slice hown
          have HP7 := Lib.hid (HC.out.app (x := XI) (m := 20) HXl.out.symm (by rw [HM.out]; exact hown) hg hblk)
          have k57 := (cells3 HP7.out.c).2.2.1
          have z57 := (cells3 HP7.out.c).2.2.2.2.2
          clear hown hg hblk
          refine hK.out _ _ (SK.two (by kernel_rfl) (by kernel_rfl)) ?_
          clear hK K
          try simp only [Act.put, List.setIfInBounds_toArray, List.set_cons_zero, List.set_cons_succ]
          refine wpK_one (i := 20) (by kernel_rfl) rfl (fun K hK => ?_)
          go_simp
          refine hK.out _ _ (SK.two (by kernel_rfl) (by kernel_rfl)) ?_
          clear hK K
          try simp only [Act.put, List.setIfInBounds_toArray, List.set_cons_zero, List.set_cons_succ]
          refine wpK_one (i := 21) (by kernel_rfl) rfl (fun K hK => ?_)
          go_simp
          refine hK.out _ _ (SK.two (by kernel_rfl) (by kernel_rfl)) ?_
          clear hK K
          try simp only [Act.put, List.setIfInBounds_toArray, List.set_cons_zero, List.set_cons_succ]
          refine wpK_done (by kernel_rfl) ?_ _
          refine NoPanic.normal ?_
          have hn7 := HP7.out.set 2 (.slice A7 (m + 20) c7)
          rw [show (#[Value.int .u8 (bl.length : Nat), .int .u8 ((200 : Nat) : Nat), .slice Av m cv].setIfInBounds 2 (.slice A7 (m + 20) c7)) = #[.int .u8 (bl.length : Nat), .int .u8 ((200 : Nat) : Nat), .slice A7 (m + 20) c7] from rfl] at hn7
          have HN7 := Lib.hid hn7
          clear hn7 k57 z57
          go_wp2_with fail
          go_meet
          exact ⟨_, by have h := HN7.out; rw [HHd.out] at h; exact h⟩
      case rest =>
        obtain ⟨v9, h9⟩ := hcut
        have HS9 := Lib.hid h9
        clear h9 HW3 k0 k1 k2 k3 k4 k5 k6 k7 HZs
        generalize wc = w9 at *
        obtain ⟨k0, k1, k2, k3, k4, k5, k6, k7⟩ := cells8 HS9.out.rp
        have HHl := Lib.hid (show (headR ⟨sd, so, i0, i1, i2, i3, i4, bl⟩).length ≤ 24 by rw [headR_len]; unfold aheadN; split <;> decide)
        have HEn := Lib.hid (show encR ⟨sd, so, i0, i1, i2, i3, i4, bl⟩ = headR ⟨sd, so, i0, i1, i2, i3, i4, bl⟩ ++ encBs bl from rfl)
        have HOb := Lib.hid (show ∀ b ∈ bl, b.Ok ∧ missB b = true from fun b hb => ⟨HO.out.bl b hb, List.all_eq_true.1 (rightR_iff.1 hr).2.2 b hb⟩)
        go_wp2_with fail
        clear k0 k1 k2 k3 k4 k5 k6 k7
        generalize headR ⟨sd, so, i0, i1, i2, i3, i4, bl⟩ = H at *
        go_loopw [5] (fun i wr => ∃ (j : Nat) (v : Value) (bb : Nat) (ob : Obj), j ≤ bl.length ∧ i = .int .i64 j ∧ W8 w bx rx lo cb bb (oR8 sd so i0 i1 i2 i3 i4 (.slice A bl.length c)) (oC7 bl.length (typR sd) v) ob v (H ++ encBs (bl.take j)) wr) (fun i _ => bl.length - (intOf i).toNat)
        case atStart => exact ⟨0, v9, bx, _, Nat.zero_le _, rfl, by simpa [encBs] using HS9.out⟩
        case round =>
          obtain ⟨j, v, bb, ob, hj, rfl, hs⟩ := hrel
          have HS := Lib.hid hs
          clear hs HS9
          obtain ⟨k0, k1, k2, k3, k4, k5, k6, k7⟩ := cells8 HS.out.rp
          by_cases hlt : j < bl.length
          · obtain ⟨b, o, rfl, hbl⟩ := HA.out (by omega)
            obtain ⟨c0, c1, c2, c3, c4, c5, c6⟩ := (HT.out.below HS.out.below).at j hlt
            have hbl2 := Nat.lt_of_lt_of_le hbl HS.out.below.size
            have h0 : (0 : Int) ≤ (j : Int) := by omega
            have h1 : (j : Int) < (bl.length : Int) := by omega
            have hst := encBs_take bl j hlt
            have hok := HOb.out _ (List.getElem_mem hlt)
            have hle : (encBs (bl.take j)).length = 24 * j := by rw [encBs_len]; simp; omega
            have hHl := HHl.out
            generalize bl[j] = bj at *
            obtain ⟨s, p, q, h, jj, la, d⟩ := bj
            have HSt := Lib.hid hst
            have HOk := Lib.hid hok.1
            have hms := hok.2
            simp only [missB, decide_eq_true_eq] at hms
            have HMs := Lib.hid hms
            have HLn0 := Lib.hid (show (H ++ encBs (bl.take j)).length ≤ 900 by rw [List.length_append]; omega)
            clear hst hok hle hHl hms
            generalize hL0 : H ++ encBs (bl.take j) = L0 at *
            have HL0 := Lib.hid hL0
            clear hL0
            have hS0 := HS.out.box #[.int .u32 (s : Nat), .int .u8 (p : Nat), .int .i32 q, .int .u32 (h : Nat), .int .u32 (jj : Nat), .int .u32 (la : Nat), .int .u32 (d : Nat)] 68
            have HS0 := Lib.hid hS0
            clear hS0 HS
            go_upto_region 11 with fail
            generalize wr.alloc (.cells #[.int .u32 (s : Nat), .int .u8 (p : Nat), .int .i32 q, .int .u32 (h : Nat), .int .u32 (jj : Nat), .int .u32 (la : Nat), .int .u32 (d : Nat)] 68) = wa at *
            generalize wr.heap.size = bb at *
            clear k0 k1 k2 k3 k4 k5 k6 k7 c0 c1 c2 c3 c4 c5 c6 hbl2
            go_cut [] (fun wx => ∃ v, W8 w bx rx lo cb bb (oR8 sd so i0 i1 i2 i3 i4 (.slice (some ⟨b, o, none⟩) bl.length c)) (oC7 bl.length (typR sd) v) (.cells #[.int .u32 (s : Nat), .int .u8 (p : Nat), .int .i32 q, .int .u32 (h : Nat), .int .u32 (jj : Nat), .int .u32 (la : Nat), .int .u32 (d : Nat)] 68 (0, 0)) v (L0 ++ bytesL s 4) wx)
            case first =>
              obtain ⟨Av, cv, hv⟩ := own_slice HS0.out.own
              obtain ⟨m, hm⟩ : ∃ m, (L0).length = m := ⟨_, rfl⟩
              rw [hm] at hv
              subst hv
              have HM := Lib.hid hm
              have hm1 : m ≤ 1000 := by rw [← hm]; have := HLn0.out; omega
              clear hm
              have HW := HS0
              clear HS0
              have HNs := Lib.hid (show numsB [s] = bytesL s 4 by simp [numsB])
              have HXl := Lib.hid (bytesL_len s 4)
              have HZs := Lib.hid (show ∀ z ∈ [s], z < 4294967296 by intro z hz; rw [List.mem_singleton.1 hz]; exact HOk.out.s)
              have HT1 := Lib.hid (show (fun w' : World => w'.cell? ⟨bb, 0, none⟩ = some (.int .u32 (s : Nat))) wa.drew from by have h := (Fr.drew wa).heap HW.out.b (fun h => h); exact obj_cell h 0)
              have HT2 := Lib.hid (show (fun w' : World => w'.cell? ⟨cb, 2, none⟩ = some (.slice Av m cv)) wa.drew from by have h := (Fr.drew wa).heap HW.out.c (fun h => h); exact (cells3 h).2.2.1)
              refine wp_region_noPanic ?_
              refine wpK_start (S := SK 4 (fun w' : World => w'.cell? ⟨bb, 0, none⟩ = some (.int .u32 (s : Nat))) 6 (fun w' : World => w'.cell? ⟨cb, 2, none⟩ = some (.slice Av m cv))) (by kernel_rfl) ?_
              refine wpK_take0 (i := 0) (v := ?_) rfl (by kernel_rfl) (by kernel_rfl) (by kernel_rfl) ⟨by decide, by decide⟩ (fun _ _ _ h => h) (Or.inl ⟨by rfl, ?_⟩) ⟨fun _ => HT1.out, fun _ => HT2.out⟩ ?_
              rotate_left
              · intro w hSw
                try dsimp only at hSw
                first | (go_simp; done) | (go_simp; with_reducible rfl)
              try simp only [Act.put, List.setIfInBounds_toArray, List.set_cons_zero, List.set_cons_succ]
              refine wpK_take2 (i := 1) (v := ?_) rfl (by kernel_rfl) (by kernel_rfl) (by kernel_rfl) ⟨by decide, by decide⟩ (by kernel_rfl) (by kernel_rfl) (fun _ _ _ h => h) (Or.inl ⟨by rfl, ?_⟩) ⟨fun _ => HT1.out, fun _ => HT2.out⟩ ?_
              rotate_left
              · intro w hSw
                try dsimp only at hSw
                first | (go_simp; done) | (go_simp; with_reducible rfl)
              try simp only [Act.put, List.setIfInBounds_toArray, List.set_cons_zero, List.set_cons_succ]
              refine wpK_take0 (i := 2) (v := ?_) rfl (by kernel_rfl) (by kernel_rfl) (by kernel_rfl) ⟨by decide, by decide⟩ (fun _ _ _ h => h) (Or.inl ⟨by rfl, ?_⟩) ⟨fun _ => HT1.out, fun _ => HT2.out⟩ ?_
              rotate_left
              · intro w hSw
                try dsimp only at hSw
                first | (go_simp; done) | (go_simp; with_reducible rfl)
              try simp only [Act.put, List.setIfInBounds_toArray, List.set_cons_zero, List.set_cons_succ]
              refine wpK_take1 (i := 3) (v := ?_) rfl (by kernel_rfl) (by kernel_rfl) (by kernel_rfl) ⟨by decide, by decide⟩ (by kernel_rfl) (by kernel_rfl) (fun _ _ _ h => h) (Or.inl ⟨by rfl, ?_⟩) ⟨fun _ => HT1.out, fun _ => HT2.out⟩ ?_
              rotate_left
              · intro w hSw
                try dsimp only at hSw
                first | (go_simp; done) | (go_simp; with_reducible rfl)
              try simp only [Act.put, List.setIfInBounds_toArray, List.set_cons_zero, List.set_cons_succ]
              refine wpK_one (i := 4) (by kernel_rfl) rfl (fun K hK => ?_)
              go_simp
              refine hK.out _ _ (SK.one (by kernel_rfl) (by first | exact (cells3 ((Fr.alloc _ _).heap ((Fr.drew _).heap HW.out.c (fun h => h)) (fun h => h))).2.2.1 | exact (cells3 ((Fr.drew _).heap ((Fr.alloc _ _).heap HW.out.c (fun h => h)) (fun h => h))).2.2.1)) ?_
              clear hK K
              try simp only [Act.put, List.setIfInBounds_toArray, List.set_cons_zero, List.set_cons_succ]
              refine wpK_one (i := 5) (by kernel_rfl) rfl (fun K hK => ?_)
              go_simp
              go_at_call 22
              refine (rnums_any _ [s] _ (sv_obj (l := u32s [s]) (t := 22) (by first | exact heap1_1 _ _ | exact heap_alloc_new _ _) (by simp [u32s, maxLen])) HZs.out (by simp)).mono ?_
              rintro r w6 ⟨u, rfl, hu, hb⟩
              rw [show 4 * ([s]).length = 4 from rfl, HNs.out] at hu
              obtain ⟨Au, cu, rfl⟩ := own_slice hu
              have hsr := src_of HXl.out (own_src hu).1
              have X := below_drewN (below_alloc (w := wa) (.cells #[.int .u32 (s : Nat)] 22)) 1
              have HC := Lib.hid (HW.out.after (X.trans (hb.mono X.size)))
              have HSrc := Lib.hid hsr
              have HO6 := Lib.hid (show w6.ownsRow lo 5 1 (.slice Av m cv) m _ from by have h := HC.out.own; rw [HM.out] at h; exact h)
              have HLo := Lib.hid (show lo ≤ w6.heap.size from by have := HC.out.o3; have := obj_lt HC.out.c; omega)
              clear hu hb hsr X
              refine hK.out _ _ (SK.one (by kernel_rfl) (cells3 HC.out.c).2.2.1) ?_
              clear hK K
              try simp only [Act.put, List.setIfInBounds_toArray, List.set_cons_zero, List.set_cons_succ]
              refine wpK_one (i := 6) (by kernel_rfl) rfl (fun K hK => ?_)
              refine step_app rfl (.tmp 57) (.tmp 61) 28 rfl lo 5 (.int .u8 0) 1 Try.underlying28 (by kernel_rfl) rfl _ _ _ rfl HO6.out _ _ _ (c8 (bytesL s 4)) rfl HSrc.out (c8_one _) (by unfold maxLen; omega) (by omega) HLo.out ?_
              intro v' w7 hown hg hblk
              obtain ⟨A7, c7, rfl⟩ := own_slice hown
              have HP7 := Lib.hid (HC.out.app (x := (bytesL s 4)) (m := 4) HXl.out.symm (by rw [HM.out]; exact hown) hg hblk)
              have k57 := (cells3 HP7.out.c).2.2.1
              have z57 := (cells3 HP7.out.c).2.2.2.2.2
              clear hown hg hblk
              refine hK.out _ _ (SK.two (by kernel_rfl) (by kernel_rfl)) ?_
              clear hK K
              try simp only [Act.put, List.setIfInBounds_toArray, List.set_cons_zero, List.set_cons_succ]
              refine wpK_one (i := 7) (by kernel_rfl) rfl (fun K hK => ?_)
              go_simp
              refine hK.out _ _ (SK.two (by kernel_rfl) (by kernel_rfl)) ?_
              clear hK K
              try simp only [Act.put, List.setIfInBounds_toArray, List.set_cons_zero, List.set_cons_succ]
              refine wpK_one (i := 8) (by kernel_rfl) rfl (fun K hK => ?_)
              go_simp
              refine hK.out _ _ (SK.two (by kernel_rfl) (by kernel_rfl)) ?_
              clear hK K
              try simp only [Act.put, List.setIfInBounds_toArray, List.set_cons_zero, List.set_cons_succ]
              refine wpK_done (by kernel_rfl) ?_ _
              refine NoPanic.normal ?_
              have hn7 := HP7.out.set 2 (.slice A7 (m + 4) c7)
              rw [show (#[Value.int .u8 (bl.length : Nat), .int .u8 ((typR sd : Nat) : Nat), .slice Av m cv].setIfInBounds 2 (.slice A7 (m + 4) c7)) = #[.int .u8 (bl.length : Nat), .int .u8 ((typR sd : Nat) : Nat), .slice A7 (m + 4) c7] from rfl] at hn7
              have HN7 := Lib.hid hn7
              clear hn7 k57 z57
              go_wp2_with fail
              go_meet
              exact ⟨_, by have h := HN7.out; exact h⟩
            case rest =>
              obtain ⟨v1, hv1⟩ := hcut
              have HS1 := Lib.hid hv1
              clear hv1 HS0
              generalize wc = wb at *
              have HLm := Lib.hid (show (L0 ++ bytesL s 4).length ≤ 910 by rw [List.length_append, bytesL_len]; have := HLn0.out; omega)
              clear HLn0
              have HLn := HLm
              clear HLm
              generalize hL1 : L0 ++ bytesL s 4 = L1 at *
              have HL1 := Lib.hid hL1
              clear hL1
              obtain ⟨Av, cv, hv⟩ := own_slice HS1.out.own
              obtain ⟨m, hm⟩ : ∃ m, (L1).length = m := ⟨_, rfl⟩
              rw [hm] at hv
              subst hv
              have HM := Lib.hid hm
              have hm1 : m ≤ 1000 := by rw [← hm]; have := HLn.out; omega
              clear hm
              have HW := HS1
              clear HS1
              obtain ⟨_, _, k2, _, _, z2⟩ := cells3 HW.out.c
              have kb := obj_cell HW.out.b 1
              simp only [List.getElem?_toArray, List.getElem?_cons_succ, List.getElem?_cons_zero] at kb
              have HO1 := Lib.hid (show wb.ownsRow lo 5 1 (.slice Av m cv) m (c8 L1) from by have h := HW.out.own; rw [HM.out] at h; exact h)
              have HLo := Lib.hid (show lo ≤ wb.heap.size from by have := HW.out.o3; have := obj_lt HW.out.c; omega)
              go_wp2_with (at_builtin; refine wpl_app rfl _ _ 28 rfl lo 5 (.int .u8 0) 1 Try.underlying28 (by kernel_rfl) rfl _ m (c8 L1) rfl ?d1 _ 1 1 [.int .u8 (p : Nat)] rfl ?d3 ?d4 ?d5 ?d6 ?d7 ?d8)
              case d1 => exact (Fr.alloc _ _).own HO1.out (fun _ _ h => h)
              case d3 => exact src_1 wb (.int .u8 (p : Nat)) 5
              case d4 => intro u hu; simp at hu; subst hu; rfl
              case d5 => unfold maxLen; omega
              case d6 => omega
              case d7 => have := HLo.out; simp; omega
              case d8 =>
                intro v' w7 hown hg hblk
                obtain ⟨A7, c7, rfl⟩ := own_slice hown
                have hwa := HW.out.after (below_alloc (.cells #[.int .u8 (p : Nat)] 5))
                rw [← c8_b1 p HOk.out.p] at hown
                have HP7 := Lib.hid (hwa.app (x := bytesL p 1) (m := 1) (bytesL_len p 1).symm (by rw [HM.out]; exact hown) hg (by rw [World.size_alloc]; exact hblk))
                have k57 := (cells3 HP7.out.c).2.2.1
                have z57 := (cells3 HP7.out.c).2.2.2.2.2
                have hn7 := HP7.out.set 2 (.slice A7 (m + 1) c7)
                rw [show (#[Value.int .u8 (bl.length : Nat), .int .u8 (typR sd : Nat), .slice Av m cv].setIfInBounds 2 (.slice A7 (m + 1) c7)) = #[.int .u8 (bl.length : Nat), .int .u8 (typR sd : Nat), .slice A7 (m + 1) c7] from rfl] at hn7
                have HS2 := Lib.hid hn7
                clear hn7 hwa hown hg hblk k2 z2 kb
                go_upto_region 13 with fail
                generalize w7.setCell ⟨cb, 2, none⟩ (.slice A7 (m + 1) c7) = wd at *
                generalize Value.slice A7 (m + 1) c7 = v2 at *
                clear k57 z57 HP7 HO1 HLo HW HM hm1
                have HLm := Lib.hid (show (L1 ++ bytesL p 1).length ≤ 920 by rw [List.length_append, bytesL_len]; have := HLn.out; omega)
                clear HLn
                have HLn := HLm
                clear HLm
                generalize hL2 : L1 ++ bytesL p 1 = L2 at *
                have HL2 := Lib.hid hL2
                clear hL2
                go_cut [] (fun wx => ∃ v, W8 w bx rx lo cb bb (oR8 sd so i0 i1 i2 i3 i4 (.slice (some ⟨b, o, none⟩) bl.length c)) (oC7 bl.length (typR sd) v) (.cells #[.int .u32 (s : Nat), .int .u8 (p : Nat), .int .i32 q, .int .u32 (h : Nat), .int .u32 (jj : Nat), .int .u32 (la : Nat), .int .u32 (d : Nat)] 68 (0, 0)) v (L2 ++ bytesL (m24 q) 3) wx)
                case first =>
                  obtain ⟨Av, cv, hv⟩ := own_slice HS2.out.own
                  obtain ⟨m, hm⟩ : ∃ m, (L2).length = m := ⟨_, rfl⟩
                  rw [hm] at hv
                  subst hv
                  have HM := Lib.hid hm
                  have hm1 : m ≤ 1000 := by rw [← hm]; have := HLn.out; omega
                  clear hm
                  have HW := HS2
                  clear HS2
                  obtain ⟨x, hx⟩ : ∃ x : Nat, (x : Int) = q + 16777216 := ⟨(q + 16777216).toNat, by have := HMs.out; omega⟩
                  have hb3 : bytesL x 3 = bytesL (m24 q) 3 := by
                    rw [← bytesL_mod x 3]
                    have h : x % 256 ^ 3 = m24 q := by unfold m24; omega
                    rw [h]
                  have HBy : Hid (∀ w0 : World, Calls Try.prog 23 #[.int .u64 (q + 16777216), .int .i64 3] w0 fun e w' => ∃ v, e = .returned v ∧ BS w' v (bytesL (m24 q) 3) ∧ Below w0.heap.size w0 w') := Lib.hid (fun w0 => by
                    have h := rbytes_k x 3 w0 (by have := HMs.out; omega) (by decide)
                    rw [hx, hb3] at h
                    exact h)
                  clear hb3 hx
                  have hq1 : IntKind.i64.wrap q = q := by rw [wrap_i64']; have := HMs.out; split <;> omega
                  have hq2 : IntKind.i64.wrap (q + 16777216) = q + 16777216 := by rw [wrap_i64']; have := HMs.out; split <;> omega
                  have hq3 : IntKind.u64.wrap (q + 16777216) = q + 16777216 := by rw [wrap_u64]; have := HMs.out; omega
                  have HXl := Lib.hid (bytesL_len (m24 q) 3)
                  have HT1 := Lib.hid (show (fun w' : World => w'.cell? ⟨bb, 2, none⟩ = some (.int .i32 q)) wd.drew from by have h := (Fr.drew wd).heap HW.out.b (fun h => h); exact obj_cell h 2)
                  have HT2 := Lib.hid (show (fun w' : World => w'.cell? ⟨cb, 2, none⟩ = some (.slice Av m cv)) wd.drew from by have h := (Fr.drew wd).heap HW.out.c (fun h => h); exact (cells3 h).2.2.1)
                  refine wp_region_noPanic ?_
                  refine wpK_start (S := SK 4 (fun w' : World => w'.cell? ⟨bb, 2, none⟩ = some (.int .i32 q)) 8 (fun w' : World => w'.cell? ⟨cb, 2, none⟩ = some (.slice Av m cv))) (by kernel_rfl) ?_
                  refine wpK_take0 (i := 0) (v := ?_) rfl (by kernel_rfl) (by kernel_rfl) (by kernel_rfl) ⟨by decide, by decide⟩ (fun _ _ _ h => h) (Or.inl ⟨by rfl, ?_⟩) ⟨fun _ => HT1.out, fun _ => HT2.out⟩ ?_
                  rotate_left
                  · intro w hSw
                    try dsimp only at hSw
                    first | (go_simp; done) | (go_simp; with_reducible rfl)
                  try simp only [Act.put, List.setIfInBounds_toArray, List.set_cons_zero, List.set_cons_succ]
                  refine wpK_take2 (i := 1) (v := ?_) rfl (by kernel_rfl) (by kernel_rfl) (by kernel_rfl) ⟨by decide, by decide⟩ (by kernel_rfl) (by kernel_rfl) (fun _ _ _ h => h) (Or.inl ⟨by rfl, ?_⟩) ⟨fun _ => HT1.out, fun _ => HT2.out⟩ ?_
                  rotate_left
                  · intro w hSw
                    try dsimp only at hSw
                    first | (go_simp; done) | (go_simp; with_reducible rfl)
                  try simp only [Act.put, List.setIfInBounds_toArray, List.set_cons_zero, List.set_cons_succ]
                  refine wpK_take0 (i := 2) (v := ?_) rfl (by kernel_rfl) (by kernel_rfl) (by kernel_rfl) ⟨by decide, by decide⟩ (fun _ _ _ h => h) (Or.inl ⟨by rfl, ?_⟩) ⟨fun _ => HT1.out, fun _ => HT2.out⟩ ?_
                  rotate_left
                  · intro w hSw
                    try dsimp only at hSw
                    first | (go_simp; done) | (go_simp; with_reducible rfl)
                  try simp only [Act.put, List.setIfInBounds_toArray, List.set_cons_zero, List.set_cons_succ]
                  refine wpK_take1 (i := 3) (v := ?_) rfl (by kernel_rfl) (by kernel_rfl) (by kernel_rfl) ⟨by decide, by decide⟩ (by kernel_rfl) (by kernel_rfl) (fun _ _ _ h => h) (Or.inl ⟨by rfl, ?_⟩) ⟨fun _ => HT1.out, fun _ => HT2.out⟩ ?_
                  rotate_left
                  · intro w hSw
                    try dsimp only at hSw
                    first | (go_simp; done) | (go_simp; with_reducible rfl)
                  try simp only [Act.put, List.setIfInBounds_toArray, List.set_cons_zero, List.set_cons_succ]
                  refine wpK_one (i := 4) (by kernel_rfl) rfl (fun K hK => ?_)
                  go_simp
                  refine hK.out _ _ (SK.one (by kernel_rfl) HT2.out) ?_
                  clear hK K
                  try simp only [Act.put, List.setIfInBounds_toArray, List.set_cons_zero, List.set_cons_succ]
                  refine wpK_one (i := 5) (by kernel_rfl) rfl (fun K hK => ?_)
                  go_simp
                  refine hK.out _ _ (SK.one (by kernel_rfl) HT2.out) ?_
                  clear hK K
                  try simp only [Act.put, List.setIfInBounds_toArray, List.set_cons_zero, List.set_cons_succ]
                  refine wpK_one (i := 6) (by kernel_rfl) rfl (fun K hK => ?_)
                  go_simp
                  refine hK.out _ _ (SK.one (by kernel_rfl) HT2.out) ?_
                  clear hK K
                  try simp only [Act.put, List.setIfInBounds_toArray, List.set_cons_zero, List.set_cons_succ]
                  refine wpK_one (i := 7) (by kernel_rfl) rfl (fun K hK => ?_)
                  go_simp
                  go_at_call 23
                  refine (HBy.out _).mono ?_
                  rintro r w6 ⟨u, rfl, hu, hb⟩
                  obtain ⟨Au, cu, hue, _, _, hru⟩ := bs_parts hu
                  rw [HXl.out] at hue
                  subst hue
                  have hsr := src_of HXl.out hru
                  have X := below_drewN (Below.refl wd.heap.size wd) 1
                  have HC := Lib.hid (HW.out.after (X.trans (hb.mono X.size)))
                  have HSrc := Lib.hid hsr
                  have HO6 := Lib.hid (show w6.ownsRow lo 5 1 (.slice Av m cv) m _ from by have h := HC.out.own; rw [HM.out] at h; exact h)
                  have HLo := Lib.hid (show lo ≤ w6.heap.size from by have := HC.out.o3; have := obj_lt HC.out.c; omega)
                  clear hu hb hsr X hru
                  refine hK.out _ _ (SK.one (by kernel_rfl) (cells3 HC.out.c).2.2.1) ?_
                  clear hK K
                  try simp only [Act.put, List.setIfInBounds_toArray, List.set_cons_zero, List.set_cons_succ]
                  refine wpK_one (i := 8) (by kernel_rfl) rfl (fun K hK => ?_)
                  refine step_app rfl (.tmp 72) (.tmp 78) 28 rfl lo 5 (.int .u8 0) 1 Try.underlying28 (by kernel_rfl) rfl _ _ _ rfl HO6.out _ _ _ (c8 (bytesL (m24 q) 3)) rfl HSrc.out (c8_one _) (by unfold maxLen; omega) (by omega) HLo.out ?_
                  intro v' w7 hown hg hblk
                  obtain ⟨A7, c7, rfl⟩ := own_slice hown
                  have HP7 := Lib.hid (HC.out.app (x := (bytesL (m24 q) 3)) (m := 3) HXl.out.symm (by rw [HM.out]; exact hown) hg hblk)
                  have k57 := (cells3 HP7.out.c).2.2.1
                  have z57 := (cells3 HP7.out.c).2.2.2.2.2
                  clear hown hg hblk
                  refine hK.out _ _ (SK.two (by kernel_rfl) (by kernel_rfl)) ?_
                  clear hK K
                  try simp only [Act.put, List.setIfInBounds_toArray, List.set_cons_zero, List.set_cons_succ]
                  refine wpK_one (i := 9) (by kernel_rfl) rfl (fun K hK => ?_)
                  go_simp
                  refine hK.out _ _ (SK.two (by kernel_rfl) (by kernel_rfl)) ?_
                  clear hK K
                  try simp only [Act.put, List.setIfInBounds_toArray, List.set_cons_zero, List.set_cons_succ]
                  refine wpK_one (i := 10) (by kernel_rfl) rfl (fun K hK => ?_)
                  go_simp
                  refine hK.out _ _ (SK.two (by kernel_rfl) (by kernel_rfl)) ?_
                  clear hK K
                  try simp only [Act.put, List.setIfInBounds_toArray, List.set_cons_zero, List.set_cons_succ]
                  refine wpK_done (by kernel_rfl) ?_ _
                  refine NoPanic.normal ?_
                  have hn7 := HP7.out.set 2 (.slice A7 (m + 3) c7)
                  rw [show (#[Value.int .u8 (bl.length : Nat), .int .u8 ((typR sd : Nat) : Nat), .slice Av m cv].setIfInBounds 2 (.slice A7 (m + 3) c7)) = #[.int .u8 (bl.length : Nat), .int .u8 ((typR sd : Nat) : Nat), .slice A7 (m + 3) c7] from rfl] at hn7
                  have HN7 := Lib.hid hn7
                  clear hn7 k57 z57
                  go_wp2_with fail
                  go_meet
                  exact ⟨_, by have h := HN7.out; exact h⟩
                case rest =>
                  obtain ⟨v3, hv3⟩ := hcut
                  have HS3 := Lib.hid hv3
                  clear hv3 HS2
                  generalize wc = we at *
                  have HLm := Lib.hid (show (L2 ++ bytesL (m24 q) 3).length ≤ 930 by rw [List.length_append, bytesL_len]; have := HLn.out; omega)
                  clear HLn
                  have HLn := HLm
                  clear HLm
                  generalize hL3 : L2 ++ bytesL (m24 q) 3 = L3 at *
                  have HL3 := Lib.hid hL3
                  clear hL3
                  go_upto_region 14 with fail
                  obtain ⟨Av, cv, hv⟩ := own_slice HS3.out.own
                  obtain ⟨m, hm⟩ : ∃ m, (L3).length = m := ⟨_, rfl⟩
                  rw [hm] at hv
                  subst hv
                  have HM := Lib.hid hm
                  have hm1 : m ≤ 1000 := by rw [← hm]; have := HLn.out; omega
                  clear hm
                  have HW := HS3
                  clear HS3
                  have HNs := Lib.hid (show numsB [h, jj, la, d] = numsB [h, jj, la, d] from rfl)
                  have HXl := Lib.hid (show (numsB [h, jj, la, d]).length = 16 from numsB_len _)
                  have hZs : ∀ z ∈ [h, jj, la, d], z < 4294967296 := by
                    have h0 := HOk.out.h; have h1 := HOk.out.j; have h2 := HOk.out.l; have h3 := HOk.out.d
                    intro z hz
                    simp only [List.mem_cons, List.not_mem_nil, or_false] at hz
                    rcases hz with rfl | rfl | rfl | rfl <;> assumption
                  have HZs := Lib.hid hZs
                  clear hZs
                  have HT1 := Lib.hid (show (fun w' : World => w'.cell? ⟨bb, 3, none⟩ = some (.int .u32 (h : Nat)) ∧ w'.cell? ⟨bb, 4, none⟩ = some (.int .u32 (jj : Nat)) ∧ w'.cell? ⟨bb, 5, none⟩ = some (.int .u32 (la : Nat)) ∧ w'.cell? ⟨bb, 6, none⟩ = some (.int .u32 (d : Nat))) we.drew from by have h := (Fr.drew we).heap HW.out.b (fun h => h); exact ⟨obj_cell h 3, obj_cell h 4, obj_cell h 5, obj_cell h 6⟩)
                  have HT2 := Lib.hid (show (fun w' : World => w'.cell? ⟨cb, 2, none⟩ = some (.slice Av m cv)) we.drew from by have h := (Fr.drew we).heap HW.out.c (fun h => h); exact (cells3 h).2.2.1)
                  refine wp_region_noPanic ?_
                  refine wpK_start (S := SK 10 (fun w' : World => w'.cell? ⟨bb, 3, none⟩ = some (.int .u32 (h : Nat)) ∧ w'.cell? ⟨bb, 4, none⟩ = some (.int .u32 (jj : Nat)) ∧ w'.cell? ⟨bb, 5, none⟩ = some (.int .u32 (la : Nat)) ∧ w'.cell? ⟨bb, 6, none⟩ = some (.int .u32 (d : Nat))) 12 (fun w' : World => w'.cell? ⟨cb, 2, none⟩ = some (.slice Av m cv))) (by kernel_rfl) ?_
                  refine wpK_take0 (i := 0) (v := ?_) rfl (by kernel_rfl) (by kernel_rfl) (by kernel_rfl) ⟨by decide, by decide⟩ (fun _ _ _ h => h) (Or.inl ⟨by rfl, ?_⟩) ⟨fun _ => HT1.out, fun _ => HT2.out⟩ ?_
                  rotate_left
                  · intro w hSw
                    try dsimp only at hSw
                    first | (go_simp; done) | (go_simp; with_reducible rfl)
                  try simp only [Act.put, List.setIfInBounds_toArray, List.set_cons_zero, List.set_cons_succ]
                  refine wpK_take2 (i := 1) (v := ?_) rfl (by kernel_rfl) (by kernel_rfl) (by kernel_rfl) ⟨by decide, by decide⟩ (by kernel_rfl) (by kernel_rfl) (fun _ _ _ h => h) (Or.inl ⟨by rfl, ?_⟩) ⟨fun _ => HT1.out, fun _ => HT2.out⟩ ?_
                  rotate_left
                  · intro w hSw
                    try dsimp only at hSw
                    first | (go_simp; done) | (go_simp; with_reducible rfl)
                  try simp only [Act.put, List.setIfInBounds_toArray, List.set_cons_zero, List.set_cons_succ]
                  refine wpK_take0 (i := 2) (v := ?_) rfl (by kernel_rfl) (by kernel_rfl) (by kernel_rfl) ⟨by decide, by decide⟩ (fun _ _ _ h => h) (Or.inl ⟨by rfl, ?_⟩) ⟨fun _ => HT1.out, fun _ => HT2.out⟩ ?_
                  rotate_left
                  · intro w hSw
                    try dsimp only at hSw
                    first | (go_simp; done) | (go_simp; with_reducible rfl)
                  try simp only [Act.put, List.setIfInBounds_toArray, List.set_cons_zero, List.set_cons_succ]
                  refine wpK_take1 (i := 3) (v := ?_) rfl (by kernel_rfl) (by kernel_rfl) (by kernel_rfl) ⟨by decide, by decide⟩ (by kernel_rfl) (by kernel_rfl) (fun _ _ _ h => h) (Or.inl ⟨by rfl, ?_⟩) ⟨fun _ => HT1.out, fun _ => HT2.out⟩ ?_
                  rotate_left
                  · intro w hSw
                    try dsimp only at hSw
                    first | (go_simp; done) | (go_simp; with_reducible rfl)
                  try simp only [Act.put, List.setIfInBounds_toArray, List.set_cons_zero, List.set_cons_succ]
                  refine wpK_take0 (i := 4) (v := ?_) rfl (by kernel_rfl) (by kernel_rfl) (by kernel_rfl) ⟨by decide, by decide⟩ (fun _ _ _ h => h) (Or.inl ⟨by rfl, ?_⟩) ⟨fun _ => HT1.out, fun _ => HT2.out⟩ ?_
                  rotate_left
                  · intro w hSw
                    try dsimp only at hSw
                    first | (go_simp; done) | (go_simp; with_reducible rfl)
                  try simp only [Act.put, List.setIfInBounds_toArray, List.set_cons_zero, List.set_cons_succ]
                  refine wpK_take1 (i := 5) (v := ?_) rfl (by kernel_rfl) (by kernel_rfl) (by kernel_rfl) ⟨by decide, by decide⟩ (by kernel_rfl) (by kernel_rfl) (fun _ _ _ h => h) (Or.inl ⟨by rfl, ?_⟩) ⟨fun _ => HT1.out, fun _ => HT2.out⟩ ?_
                  rotate_left
                  · intro w hSw
                    try dsimp only at hSw
                    first | (go_simp; done) | (go_simp; with_reducible rfl)
                  try simp only [Act.put, List.setIfInBounds_toArray, List.set_cons_zero, List.set_cons_succ]
                  refine wpK_take0 (i := 6) (v := ?_) rfl (by kernel_rfl) (by kernel_rfl) (by kernel_rfl) ⟨by decide, by decide⟩ (fun _ _ _ h => h) (Or.inl ⟨by rfl, ?_⟩) ⟨fun _ => HT1.out, fun _ => HT2.out⟩ ?_
                  rotate_left
                  · intro w hSw
                    try dsimp only at hSw
                    first | (go_simp; done) | (go_simp; with_reducible rfl)
                  try simp only [Act.put, List.setIfInBounds_toArray, List.set_cons_zero, List.set_cons_succ]
                  refine wpK_take1 (i := 7) (v := ?_) rfl (by kernel_rfl) (by kernel_rfl) (by kernel_rfl) ⟨by decide, by decide⟩ (by kernel_rfl) (by kernel_rfl) (fun _ _ _ h => h) (Or.inl ⟨by rfl, ?_⟩) ⟨fun _ => HT1.out, fun _ => HT2.out⟩ ?_
                  rotate_left
                  · intro w hSw
                    try dsimp only at hSw
                    first | (go_simp; done) | (go_simp; with_reducible rfl)
                  try simp only [Act.put, List.setIfInBounds_toArray, List.set_cons_zero, List.set_cons_succ]
                  refine wpK_take0 (i := 8) (v := ?_) rfl (by kernel_rfl) (by kernel_rfl) (by kernel_rfl) ⟨by decide, by decide⟩ (fun _ _ _ h => h) (Or.inl ⟨by rfl, ?_⟩) ⟨fun _ => HT1.out, fun _ => HT2.out⟩ ?_
                  rotate_left
                  · intro w hSw
                    try dsimp only at hSw
                    first | (go_simp; done) | (go_simp; with_reducible rfl)
                  try simp only [Act.put, List.setIfInBounds_toArray, List.set_cons_zero, List.set_cons_succ]
                  refine wpK_take1 (i := 9) (v := ?_) rfl (by kernel_rfl) (by kernel_rfl) (by kernel_rfl) ⟨by decide, by decide⟩ (by kernel_rfl) (by kernel_rfl) (fun _ _ _ h => h) (Or.inl ⟨by rfl, ?_⟩) ⟨fun _ => HT1.out, fun _ => HT2.out⟩ ?_
                  rotate_left
                  · intro w hSw
                    try dsimp only at hSw
                    first | (go_simp; done) | (go_simp; with_reducible rfl)
                  try simp only [Act.put, List.setIfInBounds_toArray, List.set_cons_zero, List.set_cons_succ]
                  refine wpK_one (i := 10) (by kernel_rfl) rfl (fun K hK => ?_)
                  go_simp
                  refine hK.out _ _ (SK.one (by kernel_rfl) (by first | exact (cells3 ((Fr.alloc _ _).heap ((Fr.drew _).heap HW.out.c (fun h => h)) (fun h => h))).2.2.1 | exact (cells3 ((Fr.drew _).heap ((Fr.alloc _ _).heap HW.out.c (fun h => h)) (fun h => h))).2.2.1)) ?_
                  clear hK K
                  try simp only [Act.put, List.setIfInBounds_toArray, List.set_cons_zero, List.set_cons_succ]
                  refine wpK_one (i := 11) (by kernel_rfl) rfl (fun K hK => ?_)
                  go_simp
                  go_at_call 22
                  refine (rnums_any _ [h, jj, la, d] _ (sv_obj (l := u32s [h, jj, la, d]) (t := 22) (by first | exact heap1_1 _ _ | exact heap_alloc_new _ _) (by simp [u32s, maxLen])) HZs.out (by simp)).mono ?_
                  rintro r w6 ⟨u, rfl, hu, hb⟩
                  rw [show 4 * ([h, jj, la, d]).length = 16 from rfl, HNs.out] at hu
                  obtain ⟨Au, cu, rfl⟩ := own_slice hu
                  have hsr := src_of HXl.out (own_src hu).1
                  have X := below_drewN (below_alloc (w := we) (.cells #[.int .u32 (h : Nat), .int .u32 (jj : Nat), .int .u32 (la : Nat), .int .u32 (d : Nat)] 22)) 1
                  have HC := Lib.hid (HW.out.after (X.trans (hb.mono X.size)))
                  have HSrc := Lib.hid hsr
                  have HO6 := Lib.hid (show w6.ownsRow lo 5 1 (.slice Av m cv) m _ from by have h := HC.out.own; rw [HM.out] at h; exact h)
                  have HLo := Lib.hid (show lo ≤ w6.heap.size from by have := HC.out.o3; have := obj_lt HC.out.c; omega)
                  clear hu hb hsr X
                  refine hK.out _ _ (SK.one (by kernel_rfl) (cells3 HC.out.c).2.2.1) ?_
                  clear hK K
                  try simp only [Act.put, List.setIfInBounds_toArray, List.set_cons_zero, List.set_cons_succ]
                  refine wpK_one (i := 12) (by kernel_rfl) rfl (fun K hK => ?_)
                  refine step_app rfl (.tmp 82) (.tmp 92) 28 rfl lo 5 (.int .u8 0) 1 Try.underlying28 (by kernel_rfl) rfl _ _ _ rfl HO6.out _ _ _ (c8 (numsB [h, jj, la, d])) rfl HSrc.out (c8_one _) (by unfold maxLen; omega) (by omega) HLo.out ?_
                  intro v' w7 hown hg hblk
                  obtain ⟨A7, c7, rfl⟩ := own_slice hown
                  have HP7 := Lib.hid (HC.out.app (x := (numsB [h, jj, la, d])) (m := 16) HXl.out.symm (by rw [HM.out]; exact hown) hg hblk)
                  have k57 := (cells3 HP7.out.c).2.2.1
                  have z57 := (cells3 HP7.out.c).2.2.2.2.2
                  clear hown hg hblk
                  refine hK.out _ _ (SK.two (by kernel_rfl) (by kernel_rfl)) ?_
                  clear hK K
                  try simp only [Act.put, List.setIfInBounds_toArray, List.set_cons_zero, List.set_cons_succ]
                  refine wpK_one (i := 13) (by kernel_rfl) rfl (fun K hK => ?_)
                  go_simp
                  refine hK.out _ _ (SK.two (by kernel_rfl) (by kernel_rfl)) ?_
                  clear hK K
                  try simp only [Act.put, List.setIfInBounds_toArray, List.set_cons_zero, List.set_cons_succ]
                  refine wpK_one (i := 14) (by kernel_rfl) rfl (fun K hK => ?_)
                  go_simp
                  refine hK.out _ _ (SK.two (by kernel_rfl) (by kernel_rfl)) ?_
                  clear hK K
                  try simp only [Act.put, List.setIfInBounds_toArray, List.set_cons_zero, List.set_cons_succ]
                  refine wpK_done (by kernel_rfl) ?_ _
                  refine NoPanic.normal ?_
                  have hn7 := HP7.out.set 2 (.slice A7 (m + 16) c7)
                  rw [show (#[Value.int .u8 (bl.length : Nat), .int .u8 ((typR sd : Nat) : Nat), .slice Av m cv].setIfInBounds 2 (.slice A7 (m + 16) c7)) = #[.int .u8 (bl.length : Nat), .int .u8 ((typR sd : Nat) : Nat), .slice A7 (m + 16) c7] from rfl] at hn7
                  have HN7 := Lib.hid hn7
                  clear hn7 k57 z57
                  go_wp2_with fail
                  go_roundw
                  case rel =>
                    have hl : L3 ++ numsB [h, jj, la, d] = H ++ encBs (bl.take (j + 1)) := by
                      rw [← HL3.out, ← HL2.out, ← HL1.out, ← HL0.out, HSt.out]
                      simp [encB, numsB]
                    have h := HN7.out
                    rw [hl] at h
                    exact ⟨j + 1, _, bb, _, by omega, by go_num, h⟩
                  case measure => simp [intOf]; omega
          · have : j = bl.length := by omega
            subst this
            rw [List.take_length, ← HEn.out] at HS
            generalize encR ⟨sd, so, i0, i1, i2, i3, i4, bl⟩ = E at *
            obtain ⟨Av, cv, hv⟩ := own_slice HS.out.own
            obtain ⟨m, hm⟩ : ∃ m, E.length = m := ⟨_, rfl⟩
            rw [hm] at hv
            subst hv
            clear hm k0 k1 k2 k3 k4 k5 k6
            obtain ⟨m0, m1, m2, _, _, _⟩ := cells3 HS.out.c
            obtain ⟨n0, n1, n2, z0, z1, z2⟩ := cells3 HS.out.res
            go_wp2_with fail
            generalize hW : World.setCell _ _ _ = wf
            obtain ⟨hx, hfx⟩ := objs3 HS.out.res _ _ _ wf hW.symm
            clear hW m0 m1 m2 n0 n1 n2 z0 z1 z2
            obtain ⟨m0, m1, m2, _, _, _⟩ := cells3 hx
            refine bodyPost_ret (v := .tuple #[.agg #[.int .u8 (bl.length : Nat), .int .u8 (typR sd : Nat), .slice Av m cv], .int .i64 0]) (by simp [results, Try.results8, go_sem, m0, m1, m2]; try rfl) rfl ?_
            have o0 := HS.out.o0
            have o1 := HS.out.o1
            have o2 := HS.out.o2
            refine HQ.out _ _ ⟨.slice Av m cv, by rw [HC.out.1, HC.out.2], by rw [HC.out.1]; exact own_bs (hfx.own HS.out.own (fun k hk (h : k = rx) => by have := (HS.out.own.lt k hk).1; omega)), ?_⟩
            exact HS.out.below.trans (hfx.below HS.out.below.size (fun k (hk : k = rx) => by omega))
  · have hr' : rightR ⟨sd, so, i0, i1, i2, i3, i4, bl⟩ = false := by simpa using hr
    have HC := Lib.hid (show wrC ⟨sd, so, i0, i1, i2, i3, i4, bl⟩ = (0, 0, []) ∧ wrE ⟨sd, so, i0, i1, i2, i3, i4, bl⟩ = 1 by rw [wrC, wrE, if_neg hr, if_neg hr]; exact ⟨rfl, rfl⟩)
    rw [hr']
    obtain ⟨m0, m1, m2, z0, z1, z2⟩ := cells3 HRx1.out
    clear hr hr'
    go_wp2_with fail
    generalize hW : World.setCell _ _ _ = wf
    obtain ⟨hx, hfx⟩ := objs3 HRx1.out _ _ _ wf hW.symm
    clear hW m0 m1 m2 z0 z1 z2
    obtain ⟨m0, m1, m2, z0, z1, z2⟩ := cells3 hx
    refine bodyPost_ret (v := .tuple #[.agg #[.int .u8 0, .int .u8 0, .slice none 0 0], .int .i64 1]) (by simp [results, Try.results8, go_sem, m0, m1, m2]; try rfl) rfl ?_
    exact HQ.out _ _ ⟨.slice none 0 0, by rw [HC.out.1, HC.out.2]; rfl, by rw [HC.out.1]; exact BS.nil _, HB1.out.trans (hfx.below HB1.out.size (fun k (hk : k = rx) => by have := HS1.out; have := HBx.out; omega))⟩
end Go.Proofs.Ythgajlmhgbhmlaa
