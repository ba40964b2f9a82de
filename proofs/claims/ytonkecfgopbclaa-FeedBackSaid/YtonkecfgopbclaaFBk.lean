/- The walk of FeedBack. -/
import Derived.Test.YtonkecfgopbclaaFAk
import Derived.Deep.DeepCutAuto
namespace Go.Proofs.Ytonkecfgopbclaa
open Go.RowKit

/-- two messages and a chunk in boxes -/
structure RKF (w0 : World) (b3 b4 b5 : Nat) (o3 o4 o5 : Obj) (va vl : Value) (ak : List (Nat × Nat)) (lo : List Int) (ua ul : Value) (bk : List (Nat × Nat)) (mo : List Int) (u5 : Value) (B : List UInt8) (w : World) : Prop where
  x3 : w.heap[b3]? = some o3
  x4 : w.heap[b4]? = some o4
  x5 : w.heap[b5]? = some o5
  h3a : AsS w va ak
  h3l : LoS w vl lo
  h4a : AsS w ua bk
  h4l : LoS w ul mo
  h5 : BS w u5 B
  below : Below w0.heap.size w0 w
section
variable {w0 w w' : World} {b3 b4 b5 : Nat} {o3 o4 o5 : Obj} {va vl ua ul u5 : Value} {ak bk : List (Nat × Nat)} {lo mo : List Int} {B : List UInt8}
theorem RKF.after (h : RKF w0 b3 b4 b5 o3 o4 o5 va vl ak lo ua ul bk mo u5 B w) (hb : Below w.heap.size w w') : RKF w0 b3 b4 b5 o3 o4 o5 va vl ak lo ua ul bk mo u5 B w' :=
  ⟨(Fr.of hb).heap h.x3 (fun h => h), (Fr.of hb).heap h.x4 (fun h => h), (Fr.of hb).heap h.x5 (fun h => h), h.h3a.below hb, h.h3l.below hb, h.h4a.below hb, h.h4l.below hb, h.h5.below hb, h.below.trans (hb.mono h.below.size)⟩
end
/-- .. and what was read, written, and read again -/
structure RKA (w0 : World) (b3 b4 b5 b7 b9 b11 : Nat) (o3 o4 o5 o7 o9 o11 : Obj) (va vl : Value) (ak : List (Nat × Nat)) (lo : List Int) (ua ul : Value) (bk : List (Nat × Nat)) (mo : List Int) (u5 : Value) (B : List UInt8)
    (ra rl ta tl : Value) (ck : List (Nat × Nat)) (no : List Int) (u9 : Value) (E : List UInt8) (w : World) : Prop where
  k : RKF w0 b3 b4 b5 o3 o4 o5 va vl ak lo ua ul bk mo u5 B w
  x7 : w.heap[b7]? = some o7
  x9 : w.heap[b9]? = some o9
  x11 : w.heap[b11]? = some o11
  h7a : AsS w ra ck
  h7l : LoS w rl no
  h11a : AsS w ta ck
  h11l : LoS w tl no
  h9 : BS w u9 E
section
variable {w0 w w' : World} {b3 b4 b5 b7 b9 b11 : Nat} {o3 o4 o5 o7 o9 o11 : Obj} {va vl ua ul u5 ra rl ta tl u9 : Value} {ak bk ck : List (Nat × Nat)} {lo mo no : List Int} {B E : List UInt8}
theorem RKA.after (h : RKA w0 b3 b4 b5 b7 b9 b11 o3 o4 o5 o7 o9 o11 va vl ak lo ua ul bk mo u5 B ra rl ta tl ck no u9 E w) (hb : Below w.heap.size w w') : RKA w0 b3 b4 b5 b7 b9 b11 o3 o4 o5 o7 o9 o11 va vl ak lo ua ul bk mo u5 B ra rl ta tl ck no u9 E w' :=
  ⟨h.k.after hb, (Fr.of hb).heap h.x7 (fun h => h), (Fr.of hb).heap h.x9 (fun h => h), (Fr.of hb).heap h.x11 (fun h => h), h.h7a.below hb, h.h7l.below hb, h.h11a.below hb, h.h11l.below hb, h.h9.below hb⟩
end
theorem RKA.cells {w0 w : World} {b3 b4 b5 b7 b9 b11 : Nat} {o3 o4 : Obj} {x0 x1 x2 x3 x4 y0 y1 y2 y3 y4 z0 z1 z2 v0 v1 v2 : Value} {t t2 t3 t4 : TypeId} {va vl ua ul u5 ra rl ta tl u9 : Value} {ak bk ck : List (Nat × Nat)} {lo mo no : List Int} {B E : List UInt8}
    (h : RKA w0 b3 b4 b5 b7 b9 b11 o3 o4 (.cells #[v0, v1, v2] t4 (0, 0)) (.cells #[y0, y1, y2, y3, y4] t2 (0, 0)) (.cells #[z0, z1, z2] t3 (0, 0)) (.cells #[x0, x1, x2, x3, x4] t (0, 0)) va vl ak lo ua ul bk mo u5 B ra rl ta tl ck no u9 E w) :
    RKA w0 b3 b4 b5 b7 b9 b11 o3 o4 (.cells #[v0, v1, v2] t4 (0, 0)) (.cells #[y0, y1, y2, y3, y4] t2 (0, 0)) (.cells #[z0, z1, z2] t3 (0, 0)) (.cells #[x0, x1, x2, x3, x4] t (0, 0)) va vl ak lo ua ul bk mo u5 B ra rl ta tl ck no u9 E w ∧
      w.cell? ⟨b11, 0, none⟩ = some x0 ∧ w.cell? ⟨b11, 1, none⟩ = some x1 ∧ w.cell? ⟨b11, 2, none⟩ = some x2 ∧ w.cell? ⟨b11, 3, none⟩ = some x3 ∧ w.cell? ⟨b11, 4, none⟩ = some x4 ∧ w.cell? ⟨b7, 0, none⟩ = some y0 ∧ w.cell? ⟨b7, 1, none⟩ = some y1 ∧ w.cell? ⟨b7, 2, none⟩ = some y2 ∧ w.cell? ⟨b7, 3, none⟩ = some y3 ∧ w.cell? ⟨b7, 4, none⟩ = some y4 ∧ w.cell? ⟨b9, 0, none⟩ = some z0 ∧ w.cell? ⟨b9, 1, none⟩ = some z1 ∧ w.cell? ⟨b9, 2, none⟩ = some z2 ∧ w.cell? ⟨b5, 0, none⟩ = some v0 ∧ w.cell? ⟨b5, 1, none⟩ = some v1 ∧ w.cell? ⟨b5, 2, none⟩ = some v2 := by
  have a := obj_cell h.x11
  have b := obj_cell h.x7
  have c := obj_cell h.x9
  have d := obj_cell h.k.x5
  exact ⟨h, a 0, a 1, a 2, a 3, a 4, b 0, b 1, b 2, b 3, b 4, c 0, c 1, c 2, d 0, d 1, d 2⟩
/-- .. and two chunks, and a message that was read of the first -/
structure RKB (w0 : World) (b3 b4 b5 b13 b15 b17 : Nat) (o3 o4 o5 o13 o15 o17 : Obj) (va vl : Value) (ak : List (Nat × Nat)) (lo : List Int) (ua ul : Value) (bk : List (Nat × Nat)) (mo : List Int) (u5 : Value) (B : List UInt8)
    (u13 : Value) (E : List UInt8) (u15 : Value) (F : List UInt8) (ta tl : Value) (w : World) : Prop where
  k : RKF w0 b3 b4 b5 o3 o4 o5 va vl ak lo ua ul bk mo u5 B w
  x13 : w.heap[b13]? = some o13
  x15 : w.heap[b15]? = some o15
  x17 : w.heap[b17]? = some o17
  h13 : BS w u13 E
  h15 : BS w u15 F
  h17a : AsS w ta ak
  h17l : LoS w tl lo
section
variable {w0 w w' : World} {b3 b4 b5 b13 b15 b17 : Nat} {o3 o4 o5 o13 o15 o17 : Obj} {va vl ua ul u5 u13 u15 ta tl : Value} {ak bk : List (Nat × Nat)} {lo mo : List Int} {B E F : List UInt8}
theorem RKB.after (h : RKB w0 b3 b4 b5 b13 b15 b17 o3 o4 o5 o13 o15 o17 va vl ak lo ua ul bk mo u5 B u13 E u15 F ta tl w) (hb : Below w.heap.size w w') : RKB w0 b3 b4 b5 b13 b15 b17 o3 o4 o5 o13 o15 o17 va vl ak lo ua ul bk mo u5 B u13 E u15 F ta tl w' :=
  ⟨h.k.after hb, (Fr.of hb).heap h.x13 (fun h => h), (Fr.of hb).heap h.x15 (fun h => h), (Fr.of hb).heap h.x17 (fun h => h), h.h13.below hb, h.h15.below hb, h.h17a.below hb, h.h17l.below hb⟩
end
theorem RKB.cells {w0 w : World} {b3 b4 b5 b13 b15 b17 : Nat} {o5 : Obj} {x0 x1 x2 x3 x4 y0 y1 y2 y3 y4 s0 s1 s2 s3 s4 z0 z1 z2 v0 v1 v2 : Value} {t t2 t3 t4 t5 : TypeId} {va vl ua ul u5 u13 u15 ta tl : Value} {ak bk : List (Nat × Nat)} {lo mo : List Int} {B E F : List UInt8}
    (h : RKB w0 b3 b4 b5 b13 b15 b17 (.cells #[y0, y1, y2, y3, y4] t2 (0, 0)) (.cells #[s0, s1, s2, s3, s4] t3 (0, 0)) o5 (.cells #[z0, z1, z2] t4 (0, 0)) (.cells #[v0, v1, v2] t5 (0, 0)) (.cells #[x0, x1, x2, x3, x4] t (0, 0)) va vl ak lo ua ul bk mo u5 B u13 E u15 F ta tl w) :
    RKB w0 b3 b4 b5 b13 b15 b17 (.cells #[y0, y1, y2, y3, y4] t2 (0, 0)) (.cells #[s0, s1, s2, s3, s4] t3 (0, 0)) o5 (.cells #[z0, z1, z2] t4 (0, 0)) (.cells #[v0, v1, v2] t5 (0, 0)) (.cells #[x0, x1, x2, x3, x4] t (0, 0)) va vl ak lo ua ul bk mo u5 B u13 E u15 F ta tl w ∧
      w.cell? ⟨b17, 0, none⟩ = some x0 ∧ w.cell? ⟨b17, 1, none⟩ = some x1 ∧ w.cell? ⟨b17, 2, none⟩ = some x2 ∧ w.cell? ⟨b17, 3, none⟩ = some x3 ∧ w.cell? ⟨b17, 4, none⟩ = some x4 ∧ w.cell? ⟨b3, 0, none⟩ = some y0 ∧ w.cell? ⟨b3, 1, none⟩ = some y1 ∧ w.cell? ⟨b3, 2, none⟩ = some y2 ∧ w.cell? ⟨b3, 3, none⟩ = some y3 ∧ w.cell? ⟨b3, 4, none⟩ = some y4 ∧ w.cell? ⟨b4, 0, none⟩ = some s0 ∧ w.cell? ⟨b4, 1, none⟩ = some s1 ∧ w.cell? ⟨b4, 2, none⟩ = some s2 ∧ w.cell? ⟨b4, 3, none⟩ = some s3 ∧ w.cell? ⟨b4, 4, none⟩ = some s4 ∧ w.cell? ⟨b13, 0, none⟩ = some z0 ∧ w.cell? ⟨b13, 1, none⟩ = some z1 ∧ w.cell? ⟨b13, 2, none⟩ = some z2 ∧ w.cell? ⟨b15, 0, none⟩ = some v0 ∧ w.cell? ⟨b15, 1, none⟩ = some v1 ∧ w.cell? ⟨b15, 2, none⟩ = some v2 := by
  have a := obj_cell h.x17
  have b := obj_cell h.k.x3
  have c := obj_cell h.k.x4
  have d := obj_cell h.x13
  have e := obj_cell h.x15
  exact ⟨h, a 0, a 1, a 2, a 3, a 4, b 0, b 1, b 2, b 3, b 4, c 0, c 1, c 2, c 3, c 4, d 0, d 1, d 2, e 0, e 1, e 2⟩
/-- what was read, and may be: written, and read again -/
theorem again_all {d : DC} (h : rdEM d = 0) (hr : rightM (readM d) = true) :
    wrEM (readM d) = 0 ∧ wrCM (readM d) = (d.1, d.2.1, encM (readM d)) ∧ rdEM (d.1, d.2.1, encM (readM d)) = 0 ∧ readM (d.1, d.2.1, encM (readM d)) = readM d ∧ (encM (readM d)).length ≤ d.2.2.length ∧ rightC (d.1, d.2.1, encM (readM d)) = true := by
  obtain ⟨h1, h2, h3⟩ := again_m h
  have hc : chunkM (readM d) = (d.1, d.2.1, encM (readM d)) := by rw [chunkM, h1, h2]
  obtain ⟨g1, _, g3, g4⟩ := back_m hr (readM_ok d)
  rw [hc] at g1 g3 g4
  exact ⟨by rw [wrEM, if_pos hr], by rw [wrCM, if_pos hr, hc], g3, g4, h3, g1⟩
/-- unlike messages have unlike chunks -/
theorem inj_m {m m' : DM} (h : rightM m = true) (ho : m.Ok) (h' : rightM m' = true) (ho' : m'.Ok) : chunkM m = chunkM m' ↔ m = m' := by
  constructor
  · intro e
    rw [← (back_m h ho).2.2.2, ← (back_m h' ho').2.2.2, e]
  · rintro rfl; rfl
theorem cnt_lt (k : Int) : cntM k < 256 := by unfold cntM; split; decide; split <;> decide
theorem typ_lt (k : Int) : typM k < 256 := by unfold typM; split; decide; split <;> decide
/-- what writing a message tells, beside another one's chunk -/
theorem other_m {m m' : DM} (h : rightM m = true) (ho : m.Ok) (ho' : m'.Ok) : (wrCM m').1 < 256 ∧ (wrCM m').2.1 < 256 ∧ (wrEM m' = 0 → (chunkM m = wrCM m' ↔ m = m')) ∧ (wrEM m' = 0 ∨ wrEM m' = 1) := by
  unfold wrCM wrEM
  by_cases h' : rightM m' = true
  · rw [if_pos h', if_pos h']
    exact ⟨cnt_lt _, typ_lt _, fun _ => inj_m h ho h' ho', .inl rfl⟩
  · rw [if_neg h', if_neg h']
    exact ⟨by decide, by decide, fun h => absurd h (by decide), .inr rfl⟩
set_option linter.unusedSimpArgs false in
set_option maxRecDepth 40000 in
set_option maxHeartbeats 20000000 in
theorem fback_any (k : Int) (se me : Nat) (va vl : Value) (ak : List (Nat × Nat)) (lo : List Int) (k2 : Int) (se2 me2 : Nat) (ua ul : Value) (bk : List (Nat × Nat)) (mo : List Int) (n y : Nat) (B : List UInt8) (u5 : Value) (w : World)
    (ha : AsS w va ak) (hl : LoS w vl lo) (ho : DM.Ok ⟨k, se, me, ak, lo⟩) (ha2 : AsS w ua bk) (hl2 : LoS w ul mo) (hp : DM.Ok ⟨k2, se2, me2, bk, mo⟩) (h5 : BS w u5 B) :
    Calls Try.prog 3 #[.agg #[.int .i64 k, .int .u32 (se : Nat), .int .u32 (me : Nat), va, vl], .agg #[.int .i64 k2, .int .u32 (se2 : Nat), .int .u32 (me2 : Nat), ua, ul], .agg #[.int .u8 (n : Nat), .int .u8 (y : Nat), u5]] w
      fun r w' => r = .returned (.bool true) ∧ Below w.heap.size w w' := by
  have HO := Lib.hid ho
  have HP := Lib.hid hp
  obtain ⟨A3, c3, rfl, y1, y2, y3⟩ := ha.parts
  obtain ⟨B3, d3, rfl, y4, y5⟩ := hl.parts
  obtain ⟨A4, c4, rfl, y6, y7, y8⟩ := ha2.parts
  obtain ⟨B4, d4, rfl, y9, y10⟩ := hl2.parts
  obtain ⟨A5, c5, rfl, y11, y12, y13⟩ := bs_parts h5
  have hb1 := below_alloc (w := w) (oMsg (k) (se) (me) (.slice A3 ak.length c3) (.slice B3 lo.length d3))
  have hb2 := hb1.alloc hb1.size (oMsg (k2) (se2) (me2) (.slice A4 bk.length c4) (.slice B4 mo.length d4))
  have hb3 := hb2.alloc hb2.size (oChk (n) (y) (.slice A5 B.length c5))
  have hx3 := (Fr.alloc _ (oChk (n) (y) (.slice A5 B.length c5))).heap ((Fr.alloc _ (oMsg (k2) (se2) (me2) (.slice A4 bk.length c4) (.slice B4 mo.length d4))).heap (heap_alloc_new w (oMsg (k) (se) (me) (.slice A3 ak.length c3) (.slice B3 lo.length d3))) (fun h => h)) (fun h => h)
  have hx4 := heap_alloc_new (w.alloc (oMsg (k) (se) (me) (.slice A3 ak.length c3) (.slice B3 lo.length d3))) (oMsg (k2) (se2) (me2) (.slice A4 bk.length c4) (.slice B4 mo.length d4))
  rw [World.size_alloc] at hx4
  have hx4 := (Fr.alloc _ (oChk (n) (y) (.slice A5 B.length c5))).heap hx4 (fun h => h)
  have hx5 := heap_alloc_new ((w.alloc (oMsg (k) (se) (me) (.slice A3 ak.length c3) (.slice B3 lo.length d3))).alloc (oMsg (k2) (se2) (me2) (.slice A4 bk.length c4) (.slice B4 mo.length d4))) (oChk (n) (y) (.slice A5 B.length c5))
  rw [World.size_alloc, World.size_alloc] at hx5
  have hk : RKF w w.heap.size (w.heap.size + 1) (w.heap.size + 1 + 1) (oMsg (k) (se) (me) (.slice A3 ak.length c3) (.slice B3 lo.length d3)) (oMsg (k2) (se2) (me2) (.slice A4 bk.length c4) (.slice B4 mo.length d4)) (oChk (n) (y) (.slice A5 B.length c5)) (.slice A3 ak.length c3) (.slice B3 lo.length d3) ak lo (.slice A4 bk.length c4) (.slice B4 mo.length d4) bk mo (.slice A5 B.length c5) B (((w.alloc (oMsg (k) (se) (me) (.slice A3 ak.length c3) (.slice B3 lo.length d3))).alloc (oMsg (k2) (se2) (me2) (.slice A4 bk.length c4) (.slice B4 mo.length d4))).alloc (oChk (n) (y) (.slice A5 B.length c5))) :=
    ⟨hx3, hx4, hx5, ha.below hb3, hl.below hb3, ha2.below hb3, hl2.below hb3, h5.below hb3, hb3⟩
  have HK := Lib.hid hk
  clear ho hp ha hl ha2 hl2 h5 hb1 hb2 hb3 hx3 hx4 hx5 hk y1 y2 y3 y4 y5 y6 y7 y8 y9 y10 y11 y12 y13
  refine calls_q fun Q HQ => ?_
  go_enter Try.func3, Try.ntmps3
  go_wp2_with fail
  rw [show ((w.alloc (.cells #[.int .i64 k, .int .u32 (se : Nat), .int .u32 (me : Nat), .slice A3 ak.length c3, .slice B3 lo.length d3] 26)).alloc (.cells #[.int .i64 k2, .int .u32 (se2 : Nat), .int .u32 (me2 : Nat), .slice A4 bk.length c4, .slice B4 mo.length d4] 26)).alloc (.cells #[.int .u8 (n : Nat), .int .u8 (y : Nat), .slice A5 B.length c5] 29) = (((w.alloc (oMsg (k) (se) (me) (.slice A3 ak.length c3) (.slice B3 lo.length d3))).alloc (oMsg (k2) (se2) (me2) (.slice A4 bk.length c4) (.slice B4 mo.length d4))).alloc (oChk (n) (y) (.slice A5 B.length c5))) from rfl]
  generalize (((w.alloc (oMsg (k) (se) (me) (.slice A3 ak.length c3) (.slice B3 lo.length d3))).alloc (oMsg (k2) (se2) (me2) (.slice A4 bk.length c4) (.slice B4 mo.length d4))).alloc (oChk (n) (y) (.slice A5 B.length c5))) = w1 at *
  generalize w.heap.size + 1 + 1 = b5 at *
  generalize w.heap.size + 1 = b4 at *
  obtain ⟨b3, hb0⟩ : ∃ b3, w.heap.size = b3 := ⟨_, rfl⟩
  have hk := HK.out
  rw [show RKF w w.heap.size b4 b5 = RKF w b3 b4 b5 by rw [hb0]] at hk
  refine (awake9_any w1).mono ?_
  rintro r w2 ⟨rfl, hb⟩
  have HK2 := Lib.hid (hk.after hb)
  have HBq := Lib.hid hb0
  clear hb hk HK
  rw [hb0]
  clear hb0
  obtain ⟨k0, k1, k2_, k3, k4⟩ := cells5m HK2.out.x3
  go_wp2_with fail
  refine (flarge_any k se me _ _ ak lo w2 HK2.out.h3a HK2.out.h3l).mono ?_
  rintro r w3 ⟨rfl, hb⟩
  have HK3 := Lib.hid (HK2.out.after hb)
  clear hb HK2 k0 k1 k2_ k3 k4
  obtain ⟨k0, k1, k2_, k3, k4⟩ := cells5m HK3.out.x4
  by_cases hx : 300 < ak.length ∨ 300 < lo.length
  · rw [decide_eq_true hx]
    clear hx
    go_wp2_with fail
    exact HQ.out _ _ ⟨rfl, HK3.out.below⟩
  rw [decide_eq_false hx]
  go_wp2_with fail
  refine (flarge_any k2 se2 me2 _ _ bk mo w3 HK3.out.h4a HK3.out.h4l).mono ?_
  rintro r w4 ⟨rfl, hb⟩
  have HK4 := Lib.hid (HK3.out.after hb)
  clear hb HK3 k0 k1 k2_ k3 k4
  by_cases hx2 : 300 < bk.length ∨ 300 < mo.length
  · rw [decide_eq_true hx2]
    clear hx hx2
    go_wp2_with fail
    exact HQ.out _ _ ⟨rfl, HK4.out.below⟩
  rw [decide_eq_false hx2]
  have HBl := Lib.hid (show ak.length ≤ 1000 ∧ bk.length ≤ 1000 by omega)
  clear hx hx2
  obtain ⟨m0, m1, m2, _, _, _⟩ := cells3m HK4.out.x5
  by_cases hx3 : (400 : Int) < (B.length : Int)
  · go_wp2_with fail
    exact HQ.out _ _ ⟨rfl, HK4.out.below⟩
  have HBB := Lib.hid (show B.length ≤ 1000 by omega)
  go_wp2_with fail
  clear hx3
  have hrd := fread_v n y _ B w4 HK4.out.h5 HBB.out
  unfold FRPost at hrd
  have hok6 := readM_ok (n, y, B)
  have hag := fun h hr => again_all (d := (n, y, B)) h hr
  simp only at hag
  have hs6 : rdEM (n, y, B) = 0 → rightM (readM (n, y, B)) = true → (encM (readM (n, y, B))).length ≤ 1000 ∧ (readM (n, y, B)).ak.length ≤ 1000 := fun h hr => ⟨Nat.le_trans (hag h hr).2.2.2.2.1 HBB.out, (right_small hr hok6).1⟩
  generalize readM (n, y, B) = M6 at *
  generalize rdEM (n, y, B) = er at *
  obtain ⟨k6, se6, me6, ak6, lo6⟩ := M6
  simp only at hrd hs6
  have HOk6 := Lib.hid hok6
  have HAg := Lib.hid hag
  have HS6 := Lib.hid hs6
  clear hok6 hag hs6
  refine hrd.mono ?_
  rintro r w5 ⟨v6a, v6l, rfl, hv6a, hv6l, hb⟩
  obtain ⟨A6, c6, rfl, y1, y2, y3⟩ := hv6a.parts
  obtain ⟨B6, d6, rfl, y4, y5⟩ := hv6l.parts
  have hba := hb.alloc hb.size (oMsg (k6) (se6) (me6) (.slice A6 ak6.length c6) (.slice B6 lo6.length d6))
  have HK6 := Lib.hid (HK4.out.after hba)
  have HVa := Lib.hid (hv6a.below (below_alloc (oMsg (k6) (se6) (me6) (.slice A6 ak6.length c6) (.slice B6 lo6.length d6))))
  have HVl := Lib.hid (hv6l.below (below_alloc (oMsg (k6) (se6) (me6) (.slice A6 ak6.length c6) (.slice B6 lo6.length d6))))
  have HX7 := Lib.hid (heap_alloc_new w5 (oMsg (k6) (se6) (me6) (.slice A6 ak6.length c6) (.slice B6 lo6.length d6)))
  clear hrd hv6a hv6l hb hba HK4 m0 m1 m2 y1 y2 y3 y4 y5
  go_upto_region 6 with fail
  rw [show w5.alloc (.cells #[.int .i64 k6, .int .u32 (se6 : Nat), .int .u32 (me6 : Nat), .slice A6 ak6.length c6, .slice B6 lo6.length d6] 26) = w5.alloc (oMsg (k6) (se6) (me6) (.slice A6 ak6.length c6) (.slice B6 lo6.length d6)) from rfl]
  generalize w5.alloc (oMsg (k6) (se6) (me6) (.slice A6 ak6.length c6) (.slice B6 lo6.length d6)) = w6 at *
  generalize w5.heap.size = b7 at *
  go_cut [43] (fun b wx => ∃ v : Bool, b = .bool v ∧ (v = true → er = 0 ∧ rightM ⟨k6, se6, me6, ak6, lo6⟩ = true) ∧ RKF w b3 b4 b5 (oMsg (k) (se) (me) (.slice A3 ak.length c3) (.slice B3 lo.length d3)) (oMsg (k2) (se2) (me2) (.slice A4 bk.length c4) (.slice B4 mo.length d4)) (oChk (n) (y) (.slice A5 B.length c5)) (.slice A3 ak.length c3) (.slice B3 lo.length d3) ak lo (.slice A4 bk.length c4) (.slice B4 mo.length d4) bk mo (.slice A5 B.length c5) B wx ∧ wx.heap[b7]? = some (oMsg (k6) (se6) (me6) (.slice A6 ak6.length c6) (.slice B6 lo6.length d6)) ∧ AsS wx (.slice A6 ak6.length c6) ak6 ∧ LoS wx (.slice B6 lo6.length d6) lo6)
  case first =>
    by_cases hz : er = 0
    · subst hz
      obtain ⟨k0, k1, k2_, k3, k4⟩ := cells5m HX7.out
      go_wp2_with fail
      refine (fright_any k6 se6 me6 _ _ ak6 lo6 w6 HVa.out HVl.out).mono ?_
      rintro r w7 ⟨rfl, hb⟩
      have HK7 := Lib.hid (HK6.out.after hb)
      have HX72 := Lib.hid ((Fr.of hb).heap HX7.out (fun h => h))
      have HVa2 := Lib.hid (HVa.out.below hb)
      have HVl2 := Lib.hid (HVl.out.below hb)
      obtain ⟨v, hv⟩ : ∃ v, v = rightM ⟨k6, se6, me6, ak6, lo6⟩ := ⟨_, rfl⟩
      have HV := Lib.hid (show v = true → (0 : Int) = 0 ∧ rightM ⟨k6, se6, me6, ak6, lo6⟩ = true from fun h => ⟨rfl, hv ▸ h⟩)
      rw [← hv]
      clear hb hv HK6 HX7 HVa HVl k0 k1 k2_ k3 k4
      go_wp2_with fail
      go_meet
      case rel => exact ⟨v, rfl, HV.out, HK7.out, HX72.out, HVa2.out, HVl2.out⟩
    · have hz0 : (er == 0) = false := by simp [hz]
      clear hz
      go_wp2_with fail
      go_meet
      case rel => exact ⟨false, rfl, fun h => absurd h (by decide), HK6.out, HX7.out, HVa.out, HVl.out⟩
  case rest =>
    obtain ⟨v, hu, hv, hk7, hx7, ha7, hl7⟩ := hcut
    subst hu
    have HV := Lib.hid hv
    have HK7 := Lib.hid hk7
    have HX72 := Lib.hid hx7
    have HVa2 := Lib.hid ha7
    have HVl2 := Lib.hid hl7
    clear hv hk7 hx7 ha7 hl7 HK6 HX7 HVa HVl
    generalize wc = w7 at *
    go_upto_if 43 with fail
    go_cut [] (fun wx => RKF w b3 b4 b5 (oMsg (k) (se) (me) (.slice A3 ak.length c3) (.slice B3 lo.length d3)) (oMsg (k2) (se2) (me2) (.slice A4 bk.length c4) (.slice B4 mo.length d4)) (oChk (n) (y) (.slice A5 B.length c5)) (.slice A3 ak.length c3) (.slice B3 lo.length d3) ak lo (.slice A4 bk.length c4) (.slice B4 mo.length d4) bk mo (.slice A5 B.length c5) B wx)
    case first =>
      cases v
      · go_wp2_with fail
        go_meet
        case rel => exact HK7.out
      · obtain ⟨he0, hr6⟩ := HV.out rfl
        obtain ⟨g1, g2, g3, g4, g5, g6⟩ := HAg.out he0 hr6
        obtain ⟨gl, ga⟩ := HS6.out he0 hr6
        have hwr := fwrite_any k6 se6 me6 _ _ ak6 lo6 w7 HVa2.out HVl2.out HOk6.out
        unfold FWPost at hwr
        rw [g1, g2] at hwr
        have hRd := fun (v : Value) (w : World) (hv : BS w v (encM ⟨k6, se6, me6, ak6, lo6⟩)) => fread_v n y v (encM ⟨k6, se6, me6, ak6, lo6⟩) w hv gl
        unfold FRPost at hRd
        rw [g3, g4] at hRd
        simp only at hRd hwr
        generalize encM ⟨k6, se6, me6, ak6, lo6⟩ = E6 at *
        have HRd := Lib.hid hRd
        have HG5 := Lib.hid g5
        have HGa := Lib.hid ga
        clear he0 hr6 g1 g2 g3 g4 g5 g6 gl ga hRd HAg HS6 HV HOk6
        obtain ⟨k0, k1, k2_, k3, k4⟩ := cells5m HX72.out
        go_wp2_with fail
        refine hwr.mono ?_
        rintro r w8 ⟨v9, rfl, hv9, hb⟩
        obtain ⟨A9, c9, rfl, y1, y2, y3⟩ := bs_parts hv9
        have hba := hb.alloc hb.size (oChk (n) (y) (.slice A9 E6.length c9))
        have HK9 := Lib.hid (HK7.out.after hba)
        have HX79 := Lib.hid ((Fr.of hba).heap HX72.out (fun h => h))
        have HVa9 := Lib.hid (HVa2.out.below hba)
        have HVl9 := Lib.hid (HVl2.out.below hba)
        have HV9 := Lib.hid (hv9.below (below_alloc (oChk (n) (y) (.slice A9 E6.length c9))))
        have HX9 := Lib.hid (heap_alloc_new w8 (oChk (n) (y) (.slice A9 E6.length c9)))
        clear hwr hv9 hb hba HK7 HX72 HVa2 HVl2 y1 y2 y3 k0 k1 k2_ k3 k4
        go_upto_region 8 with fail
        rw [show w8.alloc (.cells #[.int .u8 (n : Nat), .int .u8 (y : Nat), .slice A9 E6.length c9] 29) = w8.alloc (oChk (n) (y) (.slice A9 E6.length c9)) from rfl]
        generalize w8.alloc (oChk (n) (y) (.slice A9 E6.length c9)) = w9 at *
        generalize w8.heap.size = b9 at *
        obtain ⟨m0, m1, m2, _, _, _⟩ := cells3m HX9.out
        go_wp2_with fail
        refine (HRd.out _ w9 HV9.out).mono ?_
        rintro r w10 ⟨v11a, v11l, rfl, h11a, h11l, hb⟩
        obtain ⟨A11, c11, rfl, y1, y2, y3⟩ := h11a.parts
        obtain ⟨B11, d11, rfl, y4, y5⟩ := h11l.parts
        have hba := hb.alloc hb.size (oMsg (k6) (se6) (me6) (.slice A11 ak6.length c11) (.slice B11 lo6.length d11))
        have HA := Lib.hid (show RKA w b3 b4 b5 b7 b9 w10.heap.size (oMsg (k) (se) (me) (.slice A3 ak.length c3) (.slice B3 lo.length d3)) (oMsg (k2) (se2) (me2) (.slice A4 bk.length c4) (.slice B4 mo.length d4)) (oChk (n) (y) (.slice A5 B.length c5)) (oMsg (k6) (se6) (me6) (.slice A6 ak6.length c6) (.slice B6 lo6.length d6)) (oChk (n) (y) (.slice A9 E6.length c9)) (oMsg (k6) (se6) (me6) (.slice A11 ak6.length c11) (.slice B11 lo6.length d11)) (.slice A3 ak.length c3) (.slice B3 lo.length d3) ak lo (.slice A4 bk.length c4) (.slice B4 mo.length d4) bk mo (.slice A5 B.length c5) B (.slice A6 ak6.length c6) (.slice B6 lo6.length d6) (.slice A11 ak6.length c11) (.slice B11 lo6.length d11) ak6 lo6 (.slice A9 E6.length c9) E6 _ from
          ⟨HK9.out.after hba, (Fr.of hba).heap HX79.out (fun h => h), (Fr.of hba).heap HX9.out (fun h => h), heap_alloc_new w10 (oMsg (k6) (se6) (me6) (.slice A11 ak6.length c11) (.slice B11 lo6.length d11)), HVa9.out.below hba, HVl9.out.below hba, h11a.below (below_alloc _), h11l.below (below_alloc _), HV9.out.below hba⟩)
        clear h11a h11l hb hba HK9 HX79 HVa9 HVl9 HV9 HX9 y1 y2 y3 y4 y5 m0 m1 m2 HRd
        go_upto_region 9 with fail
        rw [show w10.alloc (.cells #[.int .i64 k6, .int .u32 (se6 : Nat), .int .u32 (me6 : Nat), .slice A11 ak6.length c11, .slice B11 lo6.length d11] 26) = w10.alloc (oMsg (k6) (se6) (me6) (.slice A11 ak6.length c11) (.slice B11 lo6.length d11)) from rfl]
        generalize w10.alloc (oMsg (k6) (se6) (me6) (.slice A11 ak6.length c11) (.slice B11 lo6.length d11)) = w11 at *
        generalize w10.heap.size = b11 at *
        have hle : ¬ (B.length : Int) < (E6.length : Int) := by have := HG5.out; omega
        have HEl := Lib.hid hle
        have hEB : E6.length ≤ B.length := HG5.out
        go_region_held3 (fun w' => RKA w b3 b4 b5 b7 b9 b11 (oMsg (k) (se) (me) (.slice A3 ak.length c3) (.slice B3 lo.length d3)) (oMsg (k2) (se2) (me2) (.slice A4 bk.length c4) (.slice B4 mo.length d4)) (oChk (n) (y) (.slice A5 B.length c5)) (oMsg (k6) (se6) (me6) (.slice A6 ak6.length c6) (.slice B6 lo6.length d6)) (oChk (n) (y) (.slice A9 E6.length c9)) (oMsg (k6) (se6) (me6) (.slice A11 ak6.length c11) (.slice B11 lo6.length d11)) (.slice A3 ak.length c3) (.slice B3 lo.length d3) ak lo (.slice A4 bk.length c4) (.slice B4 mo.length d4) bk mo (.slice A5 B.length c5) B (.slice A6 ak6.length c6) (.slice B6 lo6.length d6) (.slice A11 ak6.length c11) (.slice B11 lo6.length d11) ak6 lo6 (.slice A9 E6.length c9) E6 w' ∧ w'.cell? ⟨b11, 0, none⟩ = some (.int .i64 k6) ∧ w'.cell? ⟨b11, 1, none⟩ = some (.int .u32 (se6 : Nat)) ∧ w'.cell? ⟨b11, 2, none⟩ = some (.int .u32 (me6 : Nat)) ∧ w'.cell? ⟨b11, 3, none⟩ = some (.slice A11 ak6.length c11) ∧ w'.cell? ⟨b11, 4, none⟩ = some (.slice B11 lo6.length d11) ∧ w'.cell? ⟨b7, 0, none⟩ = some (.int .i64 k6) ∧ w'.cell? ⟨b7, 1, none⟩ = some (.int .u32 (se6 : Nat)) ∧ w'.cell? ⟨b7, 2, none⟩ = some (.int .u32 (me6 : Nat)) ∧ w'.cell? ⟨b7, 3, none⟩ = some (.slice A6 ak6.length c6) ∧ w'.cell? ⟨b7, 4, none⟩ = some (.slice B6 lo6.length d6) ∧ w'.cell? ⟨b9, 0, none⟩ = some (.int .u8 (n : Nat)) ∧ w'.cell? ⟨b9, 1, none⟩ = some (.int .u8 (y : Nat)) ∧ w'.cell? ⟨b9, 2, none⟩ = some (.slice A9 E6.length c9) ∧ w'.cell? ⟨b5, 0, none⟩ = some (.int .u8 (n : Nat)) ∧ w'.cell? ⟨b5, 1, none⟩ = some (.int .u8 (y : Nat)) ∧ w'.cell? ⟨b5, 2, none⟩ = some (.slice A5 B.length c5)) (first | exact ((‹RKA w b3 b4 b5 b7 b9 b11 _ _ _ _ _ _ _ _ _ _ _ _ _ _ _ _ _ _ _ _ _ _ _ _ _ ∧ _›.1).after (by assumption)).cells | exact (HA.out.after (below_drewN (Below.refl _ _) 1)).cells) (first
          | (go_at_call_of 11 A11; have hh := (‹RKA w b3 b4 b5 b7 b9 b11 _ _ _ _ _ _ _ _ _ _ _ _ _ _ _ _ _ _ _ _ _ _ _ _ _ ∧ _›).1; refine (fown_any k6 se6 me6 _ _ ak6 lo6 _ hh.h11a hh.h11l HGa.out).mono ?_; rintro e w12 ⟨vot, rfl, hot, hotl, hb⟩; have HOt := Lib.hid hot; clear hh hot hotl)
          | (go_at_call_of 11 A6; have hh := (‹RKA w b3 b4 b5 b7 b9 b11 _ _ _ _ _ _ _ _ _ _ _ _ _ _ _ _ _ _ _ _ _ _ _ _ _ ∧ _›).1; refine (fown_any k6 se6 me6 _ _ ak6 lo6 _ hh.h7a hh.h7l HGa.out).mono ?_; rintro e w12 ⟨vor, rfl, hor, horl, hb⟩; have HOr := Lib.hid hor; have HOt2 := Lib.hid (HOt.out.below hb); clear hh hor horl)
          | (go_at_call 10; have hh := (‹RKA w b3 b4 b5 b7 b9 b11 _ _ _ _ _ _ _ _ _ _ _ _ _ _ _ _ _ _ _ _ _ _ _ _ _ ∧ _›).1; refine (fsame_is (r := true) k6 se6 me6 _ _ ak6 lo6 k6 se6 me6 _ _ ak6 lo6 _ HOt2.out hh.h11l HOr.out hh.h7l ⟨fun _ => rfl, fun _ => rfl⟩).mono ?_; rintro e w12 ⟨rfl, hb⟩; clear hh))
        all_goals
          have hh := (‹RKA w b3 b4 b5 b7 b9 b11 _ _ _ _ _ _ _ _ _ _ _ _ _ _ _ _ _ _ _ _ _ _ _ _ _ ∧ _›).1
          have HK12 := Lib.hid hh.k
          clear hh
          go_wp2_with fail
          go_meet
          case rel => exact HK12.out
    case rest =>
      have HK8 := Lib.hid hcut
      clear hcut HK7 HX72 HVa2 HVl2 HAg HS6 HV HOk6
      generalize wc = w8 at *
      have hwr := fwrite_any k se me _ _ ak lo w8 HK8.out.h3a HK8.out.h3l HO.out
      unfold FWPost at hwr
      obtain ⟨k0, k1, k2_, k3, k4⟩ := cells5m HK8.out.x3
      by_cases hr : rightM ⟨k, se, me, ak, lo⟩ = true
      · obtain ⟨g1, g2, g3, g4⟩ := back_m hr HO.out
        have gs := right_iffC.1 g1
        have gl : (encM ⟨k, se, me, ak, lo⟩).length ≤ 1000 := by
          have := gs.2.2
          have h3 : (chunkM ⟨k, se, me, ak, lo⟩).2.2 = encM ⟨k, se, me, ak, lo⟩ := rfl
          rw [h3] at this; omega
        have hcm : chunkM ⟨k, se, me, ak, lo⟩ = (cntM k, typM k, encM ⟨k, se, me, ak, lo⟩) := rfl
        rw [show wrEM ⟨k, se, me, ak, lo⟩ = 0 from by rw [wrEM, if_pos hr], show wrCM ⟨k, se, me, ak, lo⟩ = (cntM k, typM k, encM ⟨k, se, me, ak, lo⟩) from by rw [wrCM, if_pos hr]; rfl] at hwr
        obtain ⟨p1, p2, p3, p4⟩ := other_m hr HO.out HP.out
        have HRt := Lib.hid (fun w ha hl => fright_any k se me (.slice A3 ak.length c3) (.slice B3 lo.length d3) ak lo w ha hl)
        rw [hr] at HRt
        rw [hcm] at g1 g3 g4 p3
        have HCt := Lib.hid (show cntM k < 256 ∧ typM k < 256 from ⟨cnt_lt k, typ_lt k⟩)
        have hRd := fun (v : Value) (w : World) (hv : BS w v (encM ⟨k, se, me, ak, lo⟩)) => fread_v (cntM k) (typM k) v (encM ⟨k, se, me, ak, lo⟩) w hv gl
        unfold FRPost at hRd
        rw [g3, g4] at hRd
        simp only at hRd hwr
        clear gs hcm g2 g3 g4
        generalize encM ⟨k, se, me, ak, lo⟩ = E at *
        generalize cntM k = ct at *
        generalize typM k = ty at *
        have HRd := Lib.hid hRd
        have HEl := Lib.hid gl
        have HRc := Lib.hid g1
        have hwn := fun w ha hl => fwrite_any k2 se2 me2 (.slice A4 bk.length c4) (.slice B4 mo.length d4) bk mo w ha hl HP.out
        unfold FWPost at hwn
        generalize wrCM ⟨k2, se2, me2, bk, mo⟩ = D at *
        generalize wrEM ⟨k2, se2, me2, bk, mo⟩ = f at *
        obtain ⟨ct2, ty2, F⟩ := D
        simp only at hwn p1 p2 p3
        have HWn := Lib.hid hwn
        have HCt2 := Lib.hid (show ct2 < 256 ∧ ty2 < 256 from ⟨p1, p2⟩)
        have HP3 := Lib.hid p3
        have HP4 := Lib.hid p4
        clear hRd gl g1 hwn p1 p2 p3 p4 hr
        go_wp2_with fail
        refine hwr.mono ?_
        rintro r w9 ⟨v13, rfl, hv13, hb⟩
        obtain ⟨A13, c13, rfl, y1, y2, y3⟩ := bs_parts hv13
        have hba := hb.alloc hb.size (oChk (ct) (ty) (.slice A13 E.length c13))
        have HK10 := Lib.hid (HK8.out.after hba)
        have HV13 := Lib.hid (hv13.below (below_alloc (oChk (ct) (ty) (.slice A13 E.length c13))))
        have HX13 := Lib.hid (heap_alloc_new w9 (oChk (ct) (ty) (.slice A13 E.length c13)))
        clear hwr hv13 hb hba HK8 y1 y2 y3 k0 k1 k2_ k3 k4
        go_upto_region 12 with fail
        rw [show w9.alloc (.cells #[.int .u8 (ct : Nat), .int .u8 (ty : Nat), .slice A13 E.length c13] 29) = w9.alloc (oChk (ct) (ty) (.slice A13 E.length c13)) from rfl]
        generalize w9.alloc (oChk (ct) (ty) (.slice A13 E.length c13)) = w10 at *
        generalize w9.heap.size = b13 at *
        obtain ⟨k0, k1, k2_, k3, k4⟩ := cells5m HK10.out.x4
        go_wp2_with fail
        refine (HWn.out w10 HK10.out.h4a HK10.out.h4l).mono ?_
        rintro r w11 ⟨v15, rfl, hv15, hb⟩
        obtain ⟨A15, c15, rfl, y1, y2, y3⟩ := bs_parts hv15
        have hba := hb.alloc hb.size (oChk (ct2) (ty2) (.slice A15 F.length c15))
        have HK12 := Lib.hid (HK10.out.after hba)
        have HV132 := Lib.hid (HV13.out.below hba)
        have HX132 := Lib.hid ((Fr.of hba).heap HX13.out (fun h => h))
        have HV15 := Lib.hid (hv15.below (below_alloc (oChk (ct2) (ty2) (.slice A15 F.length c15))))
        have HX15 := Lib.hid (heap_alloc_new w11 (oChk (ct2) (ty2) (.slice A15 F.length c15)))
        clear hv15 hb hba HK10 HV13 HX13 HWn y1 y2 y3 k0 k1 k2_ k3 k4
        go_upto_region 13 with fail
        rw [show w11.alloc (.cells #[.int .u8 (ct2 : Nat), .int .u8 (ty2 : Nat), .slice A15 F.length c15] 29) = w11.alloc (oChk (ct2) (ty2) (.slice A15 F.length c15)) from rfl]
        generalize w11.alloc (oChk (ct2) (ty2) (.slice A15 F.length c15)) = w12 at *
        generalize w11.heap.size = b15 at *
        obtain ⟨m0, m1, m2, _, _, _⟩ := cells3m HX132.out
        go_wp2_with fail
        refine (HRd.out _ w12 HV132.out).mono ?_
        rintro r w13 ⟨v17a, v17l, rfl, h17a, h17l, hb⟩
        obtain ⟨A17, c17, rfl, y1, y2, y3⟩ := h17a.parts
        obtain ⟨B17, d17, rfl, y4, y5⟩ := h17l.parts
        have hba := hb.alloc hb.size (oMsg (k) (se) (me) (.slice A17 ak.length c17) (.slice B17 lo.length d17))
        have HB := Lib.hid (show RKB w b3 b4 b5 b13 b15 w13.heap.size (oMsg (k) (se) (me) (.slice A3 ak.length c3) (.slice B3 lo.length d3)) (oMsg (k2) (se2) (me2) (.slice A4 bk.length c4) (.slice B4 mo.length d4)) (oChk (n) (y) (.slice A5 B.length c5)) (oChk (ct) (ty) (.slice A13 E.length c13)) (oChk (ct2) (ty2) (.slice A15 F.length c15)) (oMsg (k) (se) (me) (.slice A17 ak.length c17) (.slice B17 lo.length d17)) (.slice A3 ak.length c3) (.slice B3 lo.length d3) ak lo (.slice A4 bk.length c4) (.slice B4 mo.length d4) bk mo (.slice A5 B.length c5) B (.slice A13 E.length c13) E (.slice A15 F.length c15) F (.slice A17 ak.length c17) (.slice B17 lo.length d17) _ from
          ⟨HK12.out.after hba, (Fr.of hba).heap HX132.out (fun h => h), (Fr.of hba).heap HX15.out (fun h => h), heap_alloc_new w13 (oMsg (k) (se) (me) (.slice A17 ak.length c17) (.slice B17 lo.length d17)), HV132.out.below hba, HV15.out.below hba, h17a.below (below_alloc _), h17l.below (below_alloc _)⟩)
        clear h17a h17l hb hba HK12 HV132 HX132 HV15 HX15 y1 y2 y3 y4 y5 m0 m1 m2 HRd
        go_upto_region 16 with fail
        rw [show w13.alloc (.cells #[.int .i64 k, .int .u32 (se : Nat), .int .u32 (me : Nat), .slice A17 ak.length c17, .slice B17 lo.length d17] 26) = w13.alloc (oMsg (k) (se) (me) (.slice A17 ak.length c17) (.slice B17 lo.length d17)) from rfl]
        generalize w13.alloc (oMsg (k) (se) (me) (.slice A17 ak.length c17) (.slice B17 lo.length d17)) = w14 at *
        generalize w13.heap.size = b17 at *
        by_cases hf : f = 0
        · have HIf := Lib.hid (HP3.out hf)
          subst hf
          clear HP3 HP4
          by_cases he : (ct, ty, E) = (ct2, ty2, F)
          · have HDec := Lib.hid (show decide ((ct, ty, E) = (ct2, ty2, F)) = true from decide_eq_true he)
            have HEq := Lib.hid (show (⟨k, se, me, ak, lo⟩ : DM) = ⟨k2, se2, me2, bk, mo⟩ from HIf.out.1 he)
            clear he HIf
            go_region_held3 (fun w' => RKB w b3 b4 b5 b13 b15 b17 (oMsg (k) (se) (me) (.slice A3 ak.length c3) (.slice B3 lo.length d3)) (oMsg (k2) (se2) (me2) (.slice A4 bk.length c4) (.slice B4 mo.length d4)) (oChk (n) (y) (.slice A5 B.length c5)) (oChk (ct) (ty) (.slice A13 E.length c13)) (oChk (ct2) (ty2) (.slice A15 F.length c15)) (oMsg (k) (se) (me) (.slice A17 ak.length c17) (.slice B17 lo.length d17)) (.slice A3 ak.length c3) (.slice B3 lo.length d3) ak lo (.slice A4 bk.length c4) (.slice B4 mo.length d4) bk mo (.slice A5 B.length c5) B (.slice A13 E.length c13) E (.slice A15 F.length c15) F (.slice A17 ak.length c17) (.slice B17 lo.length d17) w' ∧ w'.cell? ⟨b17, 0, none⟩ = some (.int .i64 k) ∧ w'.cell? ⟨b17, 1, none⟩ = some (.int .u32 (se : Nat)) ∧ w'.cell? ⟨b17, 2, none⟩ = some (.int .u32 (me : Nat)) ∧ w'.cell? ⟨b17, 3, none⟩ = some (.slice A17 ak.length c17) ∧ w'.cell? ⟨b17, 4, none⟩ = some (.slice B17 lo.length d17) ∧ w'.cell? ⟨b3, 0, none⟩ = some (.int .i64 k) ∧ w'.cell? ⟨b3, 1, none⟩ = some (.int .u32 (se : Nat)) ∧ w'.cell? ⟨b3, 2, none⟩ = some (.int .u32 (me : Nat)) ∧ w'.cell? ⟨b3, 3, none⟩ = some (.slice A3 ak.length c3) ∧ w'.cell? ⟨b3, 4, none⟩ = some (.slice B3 lo.length d3) ∧ w'.cell? ⟨b4, 0, none⟩ = some (.int .i64 k2) ∧ w'.cell? ⟨b4, 1, none⟩ = some (.int .u32 (se2 : Nat)) ∧ w'.cell? ⟨b4, 2, none⟩ = some (.int .u32 (me2 : Nat)) ∧ w'.cell? ⟨b4, 3, none⟩ = some (.slice A4 bk.length c4) ∧ w'.cell? ⟨b4, 4, none⟩ = some (.slice B4 mo.length d4) ∧ w'.cell? ⟨b13, 0, none⟩ = some (.int .u8 (ct : Nat)) ∧ w'.cell? ⟨b13, 1, none⟩ = some (.int .u8 (ty : Nat)) ∧ w'.cell? ⟨b13, 2, none⟩ = some (.slice A13 E.length c13) ∧ w'.cell? ⟨b15, 0, none⟩ = some (.int .u8 (ct2 : Nat)) ∧ w'.cell? ⟨b15, 1, none⟩ = some (.int .u8 (ty2 : Nat)) ∧ w'.cell? ⟨b15, 2, none⟩ = some (.slice A15 F.length c15)) (first | exact ((‹RKB w b3 b4 b5 b13 b15 b17 _ _ _ _ _ _ _ _ _ _ _ _ _ _ _ _ _ _ _ _ _ _ _ ∧ _›.1).after (by assumption)).cells | exact (HB.out.after (below_drewN (Below.refl _ _) 1)).cells) (first
              | (go_at_call_of 11 A17; have hh := (‹RKB w b3 b4 b5 b13 b15 b17 _ _ _ _ _ _ _ _ _ _ _ _ _ _ _ _ _ _ _ _ _ _ _ ∧ _›).1; refine (fown_any k se me _ _ ak lo _ hh.h17a hh.h17l HBl.out.1).mono ?_; rintro e w12 ⟨vot, rfl, hot, hotl, hb⟩; have HOt := Lib.hid hot; clear hh hot hotl)
              | (go_at_call_of 11 A3; have hh := (‹RKB w b3 b4 b5 b13 b15 b17 _ _ _ _ _ _ _ _ _ _ _ _ _ _ _ _ _ _ _ _ _ _ _ ∧ _›).1; refine (fown_any k se me _ _ ak lo _ hh.k.h3a hh.k.h3l HBl.out.1).mono ?_; rintro e w12 ⟨vor, rfl, hor, horl, hb⟩; have HOr := Lib.hid hor; (first | have HOt2 := Lib.hid (HOt.out.below hb) | skip); clear hh hor horl)
              | (go_at_call_of 11 A4; have hh := (‹RKB w b3 b4 b5 b13 b15 b17 _ _ _ _ _ _ _ _ _ _ _ _ _ _ _ _ _ _ _ _ _ _ _ ∧ _›).1; refine (fown_any k2 se2 me2 _ _ bk mo _ hh.k.h4a hh.k.h4l HBl.out.2).mono ?_; rintro e w12 ⟨von, rfl, hon, honl, hb⟩; have HOn := Lib.hid hon; have HOr2 := Lib.hid (HOr.out.below hb); clear hh hon honl)
              | (go_at_call_of 10 vot; have hh := (‹RKB w b3 b4 b5 b13 b15 b17 _ _ _ _ _ _ _ _ _ _ _ _ _ _ _ _ _ _ _ _ _ _ _ ∧ _›).1; refine (fsame_is (r := true) k se me _ _ ak lo k se me _ _ ak lo _ HOt2.out hh.h17l HOr.out hh.k.h3l ⟨fun _ => rfl, fun _ => rfl⟩).mono ?_; rintro e w12 ⟨rfl, hb⟩; clear hh)
              | (go_at_call_of 10 von; have hh := (‹RKB w b3 b4 b5 b13 b15 b17 _ _ _ _ _ _ _ _ _ _ _ _ _ _ _ _ _ _ _ _ _ _ _ ∧ _›).1; refine (fsame_is (r := true) k se me _ _ ak lo k2 se2 me2 _ _ bk mo _ HOr2.out hh.k.h3l HOn.out hh.k.h4l ⟨fun _ => HEq.out, fun _ => rfl⟩).mono ?_; rintro e w12 ⟨rfl, hb⟩; clear hh)
              | (go_at_call 12; have hh := (‹RKB w b3 b4 b5 b13 b15 b17 _ _ _ _ _ _ _ _ _ _ _ _ _ _ _ _ _ _ _ _ _ _ _ ∧ _›).1; refine (cright_f (r := true) ct ty _ E _ hh.h13 HEl.out HRc.out).mono ?_; rintro e w12 ⟨rfl, hb⟩; clear hh)
              | (go_at_call 8; have hh := (‹RKB w b3 b4 b5 b13 b15 b17 _ _ _ _ _ _ _ _ _ _ _ _ _ _ _ _ _ _ _ _ _ _ _ ∧ _›).1; refine (HRt.out _ hh.k.h3a hh.k.h3l).mono ?_; rintro e w12 ⟨rfl, hb⟩; clear hh)
              | (go_at_call 13; have hh := (‹RKB w b3 b4 b5 b13 b15 b17 _ _ _ _ _ _ _ _ _ _ _ _ _ _ _ _ _ _ _ _ _ _ _ ∧ _›).1; refine (fcsame_is (r := true) ct ty _ E ct2 ty2 _ F _ hh.h13 hh.h15 HCt.out.1 HCt.out.2 HCt2.out.1 HCt2.out.2 HDec.out).mono ?_; rintro e w12 ⟨rfl, hb⟩; clear hh))
            all_goals
              have hh := (‹RKB w b3 b4 b5 b13 b15 b17 _ _ _ _ _ _ _ _ _ _ _ _ _ _ _ _ _ _ _ _ _ _ _ ∧ _›).1
              have HBe := Lib.hid hh.k.below
              clear hh
              go_wp2_with fail
              exact HQ.out _ _ ⟨rfl, HBe.out⟩
          · have HDec := Lib.hid (show decide ((ct, ty, E) = (ct2, ty2, F)) = false from decide_eq_false he)
            have HNe := Lib.hid (show (⟨k, se, me, ak, lo⟩ : DM) = ⟨k2, se2, me2, bk, mo⟩ → False from fun h => he (HIf.out.2 h))
            clear he HIf
            go_region_held3 (fun w' => RKB w b3 b4 b5 b13 b15 b17 (oMsg (k) (se) (me) (.slice A3 ak.length c3) (.slice B3 lo.length d3)) (oMsg (k2) (se2) (me2) (.slice A4 bk.length c4) (.slice B4 mo.length d4)) (oChk (n) (y) (.slice A5 B.length c5)) (oChk (ct) (ty) (.slice A13 E.length c13)) (oChk (ct2) (ty2) (.slice A15 F.length c15)) (oMsg (k) (se) (me) (.slice A17 ak.length c17) (.slice B17 lo.length d17)) (.slice A3 ak.length c3) (.slice B3 lo.length d3) ak lo (.slice A4 bk.length c4) (.slice B4 mo.length d4) bk mo (.slice A5 B.length c5) B (.slice A13 E.length c13) E (.slice A15 F.length c15) F (.slice A17 ak.length c17) (.slice B17 lo.length d17) w' ∧ w'.cell? ⟨b17, 0, none⟩ = some (.int .i64 k) ∧ w'.cell? ⟨b17, 1, none⟩ = some (.int .u32 (se : Nat)) ∧ w'.cell? ⟨b17, 2, none⟩ = some (.int .u32 (me : Nat)) ∧ w'.cell? ⟨b17, 3, none⟩ = some (.slice A17 ak.length c17) ∧ w'.cell? ⟨b17, 4, none⟩ = some (.slice B17 lo.length d17) ∧ w'.cell? ⟨b3, 0, none⟩ = some (.int .i64 k) ∧ w'.cell? ⟨b3, 1, none⟩ = some (.int .u32 (se : Nat)) ∧ w'.cell? ⟨b3, 2, none⟩ = some (.int .u32 (me : Nat)) ∧ w'.cell? ⟨b3, 3, none⟩ = some (.slice A3 ak.length c3) ∧ w'.cell? ⟨b3, 4, none⟩ = some (.slice B3 lo.length d3) ∧ w'.cell? ⟨b4, 0, none⟩ = some (.int .i64 k2) ∧ w'.cell? ⟨b4, 1, none⟩ = some (.int .u32 (se2 : Nat)) ∧ w'.cell? ⟨b4, 2, none⟩ = some (.int .u32 (me2 : Nat)) ∧ w'.cell? ⟨b4, 3, none⟩ = some (.slice A4 bk.length c4) ∧ w'.cell? ⟨b4, 4, none⟩ = some (.slice B4 mo.length d4) ∧ w'.cell? ⟨b13, 0, none⟩ = some (.int .u8 (ct : Nat)) ∧ w'.cell? ⟨b13, 1, none⟩ = some (.int .u8 (ty : Nat)) ∧ w'.cell? ⟨b13, 2, none⟩ = some (.slice A13 E.length c13) ∧ w'.cell? ⟨b15, 0, none⟩ = some (.int .u8 (ct2 : Nat)) ∧ w'.cell? ⟨b15, 1, none⟩ = some (.int .u8 (ty2 : Nat)) ∧ w'.cell? ⟨b15, 2, none⟩ = some (.slice A15 F.length c15)) (first | exact ((‹RKB w b3 b4 b5 b13 b15 b17 _ _ _ _ _ _ _ _ _ _ _ _ _ _ _ _ _ _ _ _ _ _ _ ∧ _›.1).after (by assumption)).cells | exact (HB.out.after (below_drewN (Below.refl _ _) 1)).cells) (first
              | (go_at_call_of 11 A17; have hh := (‹RKB w b3 b4 b5 b13 b15 b17 _ _ _ _ _ _ _ _ _ _ _ _ _ _ _ _ _ _ _ _ _ _ _ ∧ _›).1; refine (fown_any k se me _ _ ak lo _ hh.h17a hh.h17l HBl.out.1).mono ?_; rintro e w12 ⟨vot, rfl, hot, hotl, hb⟩; have HOt := Lib.hid hot; clear hh hot hotl)
              | (go_at_call_of 11 A3; have hh := (‹RKB w b3 b4 b5 b13 b15 b17 _ _ _ _ _ _ _ _ _ _ _ _ _ _ _ _ _ _ _ _ _ _ _ ∧ _›).1; refine (fown_any k se me _ _ ak lo _ hh.k.h3a hh.k.h3l HBl.out.1).mono ?_; rintro e w12 ⟨vor, rfl, hor, horl, hb⟩; have HOr := Lib.hid hor; (first | have HOt2 := Lib.hid (HOt.out.below hb) | skip); clear hh hor horl)
              | (go_at_call_of 11 A4; have hh := (‹RKB w b3 b4 b5 b13 b15 b17 _ _ _ _ _ _ _ _ _ _ _ _ _ _ _ _ _ _ _ _ _ _ _ ∧ _›).1; refine (fown_any k2 se2 me2 _ _ bk mo _ hh.k.h4a hh.k.h4l HBl.out.2).mono ?_; rintro e w12 ⟨von, rfl, hon, honl, hb⟩; have HOn := Lib.hid hon; have HOr2 := Lib.hid (HOr.out.below hb); clear hh hon honl)
              | (go_at_call_of 10 vot; have hh := (‹RKB w b3 b4 b5 b13 b15 b17 _ _ _ _ _ _ _ _ _ _ _ _ _ _ _ _ _ _ _ _ _ _ _ ∧ _›).1; refine (fsame_is (r := true) k se me _ _ ak lo k se me _ _ ak lo _ HOt2.out hh.h17l HOr.out hh.k.h3l ⟨fun _ => rfl, fun _ => rfl⟩).mono ?_; rintro e w12 ⟨rfl, hb⟩; clear hh)
              | (go_at_call_of 10 von; have hh := (‹RKB w b3 b4 b5 b13 b15 b17 _ _ _ _ _ _ _ _ _ _ _ _ _ _ _ _ _ _ _ _ _ _ _ ∧ _›).1; refine (fsame_is (r := false) k se me _ _ ak lo k2 se2 me2 _ _ bk mo _ HOr2.out hh.k.h3l HOn.out hh.k.h4l ⟨fun h => absurd h (by decide), fun h => (HNe.out h).elim⟩).mono ?_; rintro e w12 ⟨rfl, hb⟩; clear hh)
              | (go_at_call 12; have hh := (‹RKB w b3 b4 b5 b13 b15 b17 _ _ _ _ _ _ _ _ _ _ _ _ _ _ _ _ _ _ _ _ _ _ _ ∧ _›).1; refine (cright_f (r := true) ct ty _ E _ hh.h13 HEl.out HRc.out).mono ?_; rintro e w12 ⟨rfl, hb⟩; clear hh)
              | (go_at_call 8; have hh := (‹RKB w b3 b4 b5 b13 b15 b17 _ _ _ _ _ _ _ _ _ _ _ _ _ _ _ _ _ _ _ _ _ _ _ ∧ _›).1; refine (HRt.out _ hh.k.h3a hh.k.h3l).mono ?_; rintro e w12 ⟨rfl, hb⟩; clear hh)
              | (go_at_call 13; have hh := (‹RKB w b3 b4 b5 b13 b15 b17 _ _ _ _ _ _ _ _ _ _ _ _ _ _ _ _ _ _ _ _ _ _ _ ∧ _›).1; refine (fcsame_is (r := false) ct ty _ E ct2 ty2 _ F _ hh.h13 hh.h15 HCt.out.1 HCt.out.2 HCt2.out.1 HCt2.out.2 HDec.out).mono ?_; rintro e w12 ⟨rfl, hb⟩; clear hh))
            all_goals
              have hh := (‹RKB w b3 b4 b5 b13 b15 b17 _ _ _ _ _ _ _ _ _ _ _ _ _ _ _ _ _ _ _ _ _ _ _ ∧ _›).1
              have HBe := Lib.hid hh.k.below
              clear hh
              go_wp2_with fail
              exact HQ.out _ _ ⟨rfl, HBe.out⟩
        · have hf1 : f = 1 := HP4.out.resolve_left hf
          subst hf1
          clear HP3 HP4 hf
          refine wp_region_noPanic ?_
          refine wp_region_held_drew (S := (fun w' => RKB w b3 b4 b5 b13 b15 b17 (oMsg (k) (se) (me) (.slice A3 ak.length c3) (.slice B3 lo.length d3)) (oMsg (k2) (se2) (me2) (.slice A4 bk.length c4) (.slice B4 mo.length d4)) (oChk (n) (y) (.slice A5 B.length c5)) (oChk (ct) (ty) (.slice A13 E.length c13)) (oChk (ct2) (ty2) (.slice A15 F.length c15)) (oMsg (k) (se) (me) (.slice A17 ak.length c17) (.slice B17 lo.length d17)) (.slice A3 ak.length c3) (.slice B3 lo.length d3) ak lo (.slice A4 bk.length c4) (.slice B4 mo.length d4) bk mo (.slice A5 B.length c5) B (.slice A13 E.length c13) E (.slice A15 F.length c15) F (.slice A17 ak.length c17) (.slice B17 lo.length d17) w' ∧ w'.cell? ⟨b17, 0, none⟩ = some (.int .i64 k) ∧ w'.cell? ⟨b17, 1, none⟩ = some (.int .u32 (se : Nat)) ∧ w'.cell? ⟨b17, 2, none⟩ = some (.int .u32 (me : Nat)) ∧ w'.cell? ⟨b17, 3, none⟩ = some (.slice A17 ak.length c17) ∧ w'.cell? ⟨b17, 4, none⟩ = some (.slice B17 lo.length d17) ∧ w'.cell? ⟨b3, 0, none⟩ = some (.int .i64 k) ∧ w'.cell? ⟨b3, 1, none⟩ = some (.int .u32 (se : Nat)) ∧ w'.cell? ⟨b3, 2, none⟩ = some (.int .u32 (me : Nat)) ∧ w'.cell? ⟨b3, 3, none⟩ = some (.slice A3 ak.length c3) ∧ w'.cell? ⟨b3, 4, none⟩ = some (.slice B3 lo.length d3) ∧ w'.cell? ⟨b4, 0, none⟩ = some (.int .i64 k2) ∧ w'.cell? ⟨b4, 1, none⟩ = some (.int .u32 (se2 : Nat)) ∧ w'.cell? ⟨b4, 2, none⟩ = some (.int .u32 (me2 : Nat)) ∧ w'.cell? ⟨b4, 3, none⟩ = some (.slice A4 bk.length c4) ∧ w'.cell? ⟨b4, 4, none⟩ = some (.slice B4 mo.length d4) ∧ w'.cell? ⟨b13, 0, none⟩ = some (.int .u8 (ct : Nat)) ∧ w'.cell? ⟨b13, 1, none⟩ = some (.int .u8 (ty : Nat)) ∧ w'.cell? ⟨b13, 2, none⟩ = some (.slice A13 E.length c13) ∧ w'.cell? ⟨b15, 0, none⟩ = some (.int .u8 (ct2 : Nat)) ∧ w'.cell? ⟨b15, 1, none⟩ = some (.int .u8 (ty2 : Nat)) ∧ w'.cell? ⟨b15, 2, none⟩ = some (.slice A15 F.length c15))) (by kernel_rfl) (HB.out.after (below_drewN (Below.refl _ _) 1)).cells (fun hHeld => ?_)
          refine wpAnyH_take (i := 0) (v := ?_) (by simp only [List.getElem?_toArray, List.getElem?_cons_succ, List.getElem?_cons_zero]; exact rfl) (by kernel_rfl) (by kernel_rfl) (by kernel_rfl) (fun _ _ _ h => h) (Or.inl ⟨by rfl, ?_⟩) hHeld ?_
          rotate_left
          · intro w hSw
            try dsimp only at hSw
            first | (go_simp; done) | (go_simp; with_reducible rfl)
          try simp only [Act.put, List.setIfInBounds_toArray, List.set_cons_zero, List.set_cons_succ]
          refine wpAnyH_take (i := 1) (v := ?_) (by simp only [List.getElem?_toArray, List.getElem?_cons_succ, List.getElem?_cons_zero]; exact rfl) (by kernel_rfl) (by kernel_rfl) (by kernel_rfl) (fun _ _ _ h => h) (Or.inl ⟨by rfl, ?_⟩) hHeld ?_
          rotate_left
          · intro w hSw
            try dsimp only at hSw
            first | (go_simp; done) | (go_simp; with_reducible rfl)
          try simp only [Act.put, List.setIfInBounds_toArray, List.set_cons_zero, List.set_cons_succ]
          refine wpAnyH_take (i := 2) (v := ?_) (by simp only [List.getElem?_toArray, List.getElem?_cons_succ, List.getElem?_cons_zero]; exact rfl) (by kernel_rfl) (by kernel_rfl) (by kernel_rfl) (fun _ _ _ h => h) (Or.inl ⟨by rfl, ?_⟩) hHeld ?_
          rotate_left
          · intro w hSw
            try dsimp only at hSw
            first | (go_simp; done) | (go_simp; with_reducible rfl)
          try simp only [Act.put, List.setIfInBounds_toArray, List.set_cons_zero, List.set_cons_succ]
          refine wpAnyH_take (i := 3) (v := ?_) (by simp only [List.getElem?_toArray, List.getElem?_cons_succ, List.getElem?_cons_zero]; exact rfl) (by kernel_rfl) (by kernel_rfl) (by kernel_rfl) (fun _ _ _ h => h) (Or.inl ⟨by rfl, ?_⟩) hHeld ?_
          rotate_left
          · intro w hSw
            try dsimp only at hSw
            first | (go_simp; done) | (go_simp; with_reducible rfl)
          try simp only [Act.put, List.setIfInBounds_toArray, List.set_cons_zero, List.set_cons_succ]
          refine wpAnyH_take (i := 5) (v := ?_) (by simp only [List.getElem?_toArray, List.getElem?_cons_succ, List.getElem?_cons_zero]; exact rfl) (by kernel_rfl) (by kernel_rfl) (by kernel_rfl) (fun _ _ _ h => h) (Or.inl ⟨by rfl, ?_⟩) hHeld ?_
          rotate_left
          · intro w hSw
            try dsimp only at hSw
            first | (go_simp; done) | (go_simp; with_reducible rfl)
          try simp only [Act.put, List.setIfInBounds_toArray, List.set_cons_zero, List.set_cons_succ]
          refine wpAnyH_ready (rs := [4]) (by kernel_rfl) (by simp) ?_
          refine AllReadyH.cons (by simp only [List.getElem?_toArray, List.getElem?_cons_succ, List.getElem?_cons_zero]; exact rfl) (fun K hK => ?_) AllReadyH.nil
          have hH := Lib.hid hHeld
          go_simp
          go_at_call 11
          refine (fown_any k se me _ _ ak lo _ hHeld.1.h17a hHeld.1.h17l HBl.out.1).mono ?_
          rintro e w12 ⟨vot, rfl, hot, hotl, hb⟩
          have HOt := Lib.hid hot
          clear hot hotl
          have hS := Lib.hid (hH.out.1.after hb).cells
          go_wp2_with fail
          refine hK.out _ _ hS.out (fun hNew => ?_)
          clear hHeld hH hS hb hK K
          have hHeld := hNew
          clear hNew
          try simp only [Act.put, List.setIfInBounds_toArray, List.set_cons_zero, List.set_cons_succ]
          refine wpAnyH_ready (rs := [6]) (by kernel_rfl) (by simp) ?_
          refine AllReadyH.cons (by simp only [List.getElem?_toArray, List.getElem?_cons_succ, List.getElem?_cons_zero]; exact rfl) (fun K hK => ?_) AllReadyH.nil
          have hH := Lib.hid hHeld
          go_simp
          go_at_call 11
          refine (fown_any k se me _ _ ak lo _ hHeld.1.k.h3a hHeld.1.k.h3l HBl.out.1).mono ?_
          rintro e w12 ⟨vor, rfl, hor, horl, hb⟩
          have HOr := Lib.hid hor
          have HOt2 := Lib.hid (HOt.out.below hb)
          clear hor horl
          have hS := Lib.hid (hH.out.1.after hb).cells
          go_wp2_with fail
          refine hK.out _ _ hS.out (fun hNew => ?_)
          clear hHeld hH hS hb hK K
          have hHeld := hNew
          clear hNew
          try simp only [Act.put, List.setIfInBounds_toArray, List.set_cons_zero, List.set_cons_succ]
          refine wpAnyH_ready (rs := [7]) (by kernel_rfl) (by simp) ?_
          refine AllReadyH.cons (by simp only [List.getElem?_toArray, List.getElem?_cons_succ, List.getElem?_cons_zero]; exact rfl) (fun K hK => ?_) AllReadyH.nil
          have hH := Lib.hid hHeld
          go_simp
          go_at_call 10
          refine (fsame_is (r := true) k se me _ _ ak lo k se me _ _ ak lo _ HOt2.out hHeld.1.h17l HOr.out hHeld.1.k.h3l ⟨fun _ => rfl, fun _ => rfl⟩).mono ?_
          rintro e w12 ⟨rfl, hb⟩
          have hS := Lib.hid (hH.out.1.after hb).cells
          go_wp2_with fail
          refine hK.out _ _ hS.out (fun hNew => ?_)
          clear hHeld hH hS hb hK K
          have hHeld := hNew
          clear hNew
          try simp only [Act.put, List.setIfInBounds_toArray, List.set_cons_zero, List.set_cons_succ]
          refine wpAnyH_take (i := 8) (v := ?_) (by simp only [List.getElem?_toArray, List.getElem?_cons_succ, List.getElem?_cons_zero]; exact rfl) (by kernel_rfl) (by kernel_rfl) (by kernel_rfl) (fun _ _ _ h => h) (Or.inl ⟨by rfl, ?_⟩) hHeld ?_
          rotate_left
          · intro w hSw
            try dsimp only at hSw
            first | (go_simp; done) | (go_simp; with_reducible rfl)
          try simp only [Act.put, List.setIfInBounds_toArray, List.set_cons_zero, List.set_cons_succ]
          refine wpAnyH_take (i := 9) (v := ?_) (by simp only [List.getElem?_toArray, List.getElem?_cons_succ, List.getElem?_cons_zero]; exact rfl) (by kernel_rfl) (by kernel_rfl) (by kernel_rfl) (fun _ _ _ h => h) (Or.inl ⟨by rfl, ?_⟩) hHeld ?_
          rotate_left
          · intro w hSw
            try dsimp only at hSw
            first | (go_simp; done) | (go_simp; with_reducible rfl)
          try simp only [Act.put, List.setIfInBounds_toArray, List.set_cons_zero, List.set_cons_succ]
          refine wpAnyH_take (i := 10) (v := ?_) (by simp only [List.getElem?_toArray, List.getElem?_cons_succ, List.getElem?_cons_zero]; exact rfl) (by kernel_rfl) (by kernel_rfl) (by kernel_rfl) (fun _ _ _ h => h) (Or.inl ⟨by rfl, ?_⟩) hHeld ?_
          rotate_left
          · intro w hSw
            try dsimp only at hSw
            first | (go_simp; done) | (go_simp; with_reducible rfl)
          try simp only [Act.put, List.setIfInBounds_toArray, List.set_cons_zero, List.set_cons_succ]
          refine wpAnyH_ready (rs := [11]) (by kernel_rfl) (by simp) ?_
          refine AllReadyH.cons (by simp only [List.getElem?_toArray, List.getElem?_cons_succ, List.getElem?_cons_zero]; exact rfl) (fun K hK => ?_) AllReadyH.nil
          have hH := Lib.hid hHeld
          go_simp
          go_at_call 12
          refine (cright_f (r := true) ct ty _ E _ hHeld.1.h13 HEl.out HRc.out).mono ?_
          rintro e w12 ⟨rfl, hb⟩
          have hS := Lib.hid (hH.out.1.after hb).cells
          go_wp2_with fail
          refine hK.out _ _ hS.out (fun hNew => ?_)
          clear hHeld hH hS hb hK K
          have hHeld := hNew
          clear hNew
          try simp only [Act.put, List.setIfInBounds_toArray, List.set_cons_zero, List.set_cons_succ]
          refine wpAnyH_take (i := 12) (v := ?_) (by simp only [List.getElem?_toArray, List.getElem?_cons_succ, List.getElem?_cons_zero]; exact rfl) (by kernel_rfl) (by kernel_rfl) (by kernel_rfl) (fun _ _ _ h => h) (Or.inl ⟨by rfl, ?_⟩) hHeld ?_
          rotate_left
          · intro w hSw
            try dsimp only at hSw
            first | (go_simp; done) | (go_simp; with_reducible rfl)
          try simp only [Act.put, List.setIfInBounds_toArray, List.set_cons_zero, List.set_cons_succ]
          refine wpAnyH_take (i := 13) (v := ?_) (by simp only [List.getElem?_toArray, List.getElem?_cons_succ, List.getElem?_cons_zero]; exact rfl) (by kernel_rfl) (by kernel_rfl) (by kernel_rfl) (fun _ _ _ h => h) (Or.inl ⟨by rfl, ?_⟩) hHeld ?_
          rotate_left
          · intro w hSw
            try dsimp only at hSw
            first | (go_simp; done) | (go_simp; with_reducible rfl)
          try simp only [Act.put, List.setIfInBounds_toArray, List.set_cons_zero, List.set_cons_succ]
          refine wpAnyH_take (i := 14) (v := ?_) (by simp only [List.getElem?_toArray, List.getElem?_cons_succ, List.getElem?_cons_zero]; exact rfl) (by kernel_rfl) (by kernel_rfl) (by kernel_rfl) (fun _ _ _ h => h) (Or.inl ⟨by rfl, ?_⟩) hHeld ?_
          rotate_left
          · intro w hSw
            try dsimp only at hSw
            first | (go_simp; done) | (go_simp; with_reducible rfl)
          try simp only [Act.put, List.setIfInBounds_toArray, List.set_cons_zero, List.set_cons_succ]
          refine wpAnyH_ready (rs := [15]) (by kernel_rfl) (by simp) ?_
          refine AllReadyH.cons (by simp only [List.getElem?_toArray, List.getElem?_cons_succ, List.getElem?_cons_zero]; exact rfl) (fun K hK => ?_) AllReadyH.nil
          have hH := Lib.hid hHeld
          go_simp
          go_at_call 8
          refine (HRt.out _ hHeld.1.k.h3a hHeld.1.k.h3l).mono ?_
          rintro e w12 ⟨rfl, hb⟩
          have hS := Lib.hid (hH.out.1.after hb).cells
          go_wp2_with fail
          refine hK.out _ _ hS.out (fun hNew => ?_)
          clear hHeld hH hS hb hK K
          have hHeld := hNew
          clear hNew
          try simp only [Act.put, List.setIfInBounds_toArray, List.set_cons_zero, List.set_cons_succ]
          refine wpAnyH_take (i := 16) (v := ?_) (by simp only [List.getElem?_toArray, List.getElem?_cons_succ, List.getElem?_cons_zero]; exact rfl) (by kernel_rfl) (by kernel_rfl) (by kernel_rfl) (fun _ _ _ h => h) (Or.inl ⟨by rfl, ?_⟩) hHeld ?_
          rotate_left
          · intro w hSw
            try dsimp only at hSw
            first | (go_simp; done) | (go_simp; with_reducible rfl)
          try simp only [Act.put, List.setIfInBounds_toArray, List.set_cons_zero, List.set_cons_succ]
          refine wpAnyH_take (i := 17) (v := ?_) (by simp only [List.getElem?_toArray, List.getElem?_cons_succ, List.getElem?_cons_zero]; exact rfl) (by kernel_rfl) (by kernel_rfl) (by kernel_rfl) (fun _ _ _ h => h) (Or.inl ⟨by rfl, ?_⟩) hHeld ?_
          rotate_left
          · intro w hSw
            try dsimp only at hSw
            first | (go_simp; done) | (go_simp; with_reducible rfl)
          try simp only [Act.put, List.setIfInBounds_toArray, List.set_cons_zero, List.set_cons_succ]
          refine wpAnyH_take (i := 18) (v := ?_) (by simp only [List.getElem?_toArray, List.getElem?_cons_succ, List.getElem?_cons_zero]; exact rfl) (by kernel_rfl) (by kernel_rfl) (by kernel_rfl) (fun _ _ _ h => h) (Or.inl ⟨by rfl, ?_⟩) hHeld ?_
          rotate_left
          · intro w hSw
            try dsimp only at hSw
            first | (go_simp; done) | (go_simp; with_reducible rfl)
          try simp only [Act.put, List.setIfInBounds_toArray, List.set_cons_zero, List.set_cons_succ]
          refine wpAnyH_take (i := 19) (v := ?_) (by simp only [List.getElem?_toArray, List.getElem?_cons_succ, List.getElem?_cons_zero]; exact rfl) (by kernel_rfl) (by kernel_rfl) (by kernel_rfl) (fun _ _ _ h => h) (Or.inl ⟨by rfl, ?_⟩) hHeld ?_
          rotate_left
          · intro w hSw
            try dsimp only at hSw
            first | (go_simp; done) | (go_simp; with_reducible rfl)
          try simp only [Act.put, List.setIfInBounds_toArray, List.set_cons_zero, List.set_cons_succ]
          refine wpAnyH_take (i := 20) (v := ?_) (by simp only [List.getElem?_toArray, List.getElem?_cons_succ, List.getElem?_cons_zero]; exact rfl) (by kernel_rfl) (by kernel_rfl) (by kernel_rfl) (fun _ _ _ h => h) (Or.inl ⟨by rfl, ?_⟩) hHeld ?_
          rotate_left
          · intro w hSw
            try dsimp only at hSw
            first | (go_simp; done) | (go_simp; with_reducible rfl)
          try simp only [Act.put, List.setIfInBounds_toArray, List.set_cons_zero, List.set_cons_succ]
          refine wpAnyH_take (i := 21) (v := undef) (by simp only [List.getElem?_toArray, List.getElem?_cons_succ, List.getElem?_cons_zero]; exact rfl) (by kernel_rfl) (by kernel_rfl) (by kernel_rfl) (fun _ _ _ h => h) (Or.inr ⟨by rfl, rfl⟩) hHeld ?_
          try simp only [Act.put, List.setIfInBounds_toArray, List.set_cons_zero, List.set_cons_succ]
          refine wpAnyH_take (i := 22) (v := undef) (by simp only [List.getElem?_toArray, List.getElem?_cons_succ, List.getElem?_cons_zero]; exact rfl) (by kernel_rfl) (by kernel_rfl) (by kernel_rfl) (fun _ _ _ h => h) (Or.inr ⟨by rfl, rfl⟩) hHeld ?_
          try simp only [Act.put, List.setIfInBounds_toArray, List.set_cons_zero, List.set_cons_succ]
          refine wpAnyH_take (i := 24) (v := undef) (by simp only [List.getElem?_toArray, List.getElem?_cons_succ, List.getElem?_cons_zero]; exact rfl) (by kernel_rfl) (by kernel_rfl) (by kernel_rfl) (fun _ _ _ h => h) (Or.inr ⟨by rfl, rfl⟩) hHeld ?_
          try simp only [Act.put, List.setIfInBounds_toArray, List.set_cons_zero, List.set_cons_succ]
          refine wpAnyH_take (i := 26) (v := undef) (by simp only [List.getElem?_toArray, List.getElem?_cons_succ, List.getElem?_cons_zero]; exact rfl) (by kernel_rfl) (by kernel_rfl) (by kernel_rfl) (fun _ _ _ h => h) (Or.inr ⟨by rfl, rfl⟩) hHeld ?_
          try simp only [Act.put, List.setIfInBounds_toArray, List.set_cons_zero, List.set_cons_succ]
          refine wpAnyH_ready (rs := [23]) (by kernel_rfl) (by simp) ?_
          refine AllReadyH.cons (by simp only [List.getElem?_toArray, List.getElem?_cons_succ, List.getElem?_cons_zero]; exact rfl) (fun K hK => ?_) AllReadyH.nil
          rw [if_neg (by rw [show Region.wanted _ _ = false from by rfl]; decide)]
          refine hK.out _ _ hHeld (fun _ => ?_)
          clear hK K
          try simp only [Act.put, List.setIfInBounds_toArray, List.set_cons_zero, List.set_cons_succ]
          refine wpAnyH_ready (rs := [25]) (by kernel_rfl) (by simp) ?_
          refine AllReadyH.cons (by simp only [List.getElem?_toArray, List.getElem?_cons_succ, List.getElem?_cons_zero]; exact rfl) (fun K hK => ?_) AllReadyH.nil
          rw [if_neg (by rw [show Region.wanted _ _ = false from by rfl]; decide)]
          refine hK.out _ _ hHeld (fun _ => ?_)
          clear hK K
          try simp only [Act.put, List.setIfInBounds_toArray, List.set_cons_zero, List.set_cons_succ]
          refine wpAnyH_ready (rs := [27]) (by kernel_rfl) (by simp) ?_
          refine AllReadyH.cons (by simp only [List.getElem?_toArray, List.getElem?_cons_succ, List.getElem?_cons_zero]; exact rfl) (fun K hK => ?_) AllReadyH.nil
          rw [if_neg (by rw [show Region.wanted _ _ = false from by rfl]; decide)]
          refine hK.out _ _ hHeld (fun _ => ?_)
          clear hK K
          try simp only [Act.put, List.setIfInBounds_toArray, List.set_cons_zero, List.set_cons_succ]
          refine wpAnyH_ready (rs := [28]) (by kernel_rfl) (by simp) ?_
          refine AllReadyH.cons (by simp only [List.getElem?_toArray, List.getElem?_cons_succ, List.getElem?_cons_zero]; exact rfl) (fun K hK => ?_) AllReadyH.nil
          rw [if_neg (by rw [show Region.wanted _ _ = false from by rfl]; decide)]
          refine hK.out _ _ hHeld (fun _ => ?_)
          clear hK K
          try simp only [Act.put, List.setIfInBounds_toArray, List.set_cons_zero, List.set_cons_succ]
          refine wpAnyH_take (i := 29) (v := undef) (by simp only [List.getElem?_toArray, List.getElem?_cons_succ, List.getElem?_cons_zero]; exact rfl) (by kernel_rfl) (by kernel_rfl) (by kernel_rfl) (fun _ _ _ h => h) (Or.inr ⟨by rfl, rfl⟩) hHeld ?_
          try simp only [Act.put, List.setIfInBounds_toArray, List.set_cons_zero, List.set_cons_succ]
          refine wpAnyH_take (i := 30) (v := ?_) (by simp only [List.getElem?_toArray, List.getElem?_cons_succ, List.getElem?_cons_zero]; exact rfl) (by kernel_rfl) (by kernel_rfl) (by kernel_rfl) (fun _ _ _ h => h) (Or.inl ⟨by rfl, ?_⟩) hHeld ?_
          rotate_left
          · intro w hSw
            try dsimp only at hSw
            first | (go_simp; done) | (go_simp; with_reducible rfl)
          try simp only [Act.put, List.setIfInBounds_toArray, List.set_cons_zero, List.set_cons_succ]
          refine wpAnyH_take (i := 31) (v := ?_) (by simp only [List.getElem?_toArray, List.getElem?_cons_succ, List.getElem?_cons_zero]; exact rfl) (by kernel_rfl) (by kernel_rfl) (by kernel_rfl) (fun _ _ _ h => h) (Or.inl ⟨by rfl, ?_⟩) hHeld ?_
          rotate_left
          · intro w hSw
            try dsimp only at hSw
            first | (go_simp; done) | (go_simp; with_reducible rfl)
          try simp only [Act.put, List.setIfInBounds_toArray, List.set_cons_zero, List.set_cons_succ]
          refine wpAnyH_take (i := 32) (v := ?_) (by simp only [List.getElem?_toArray, List.getElem?_cons_succ, List.getElem?_cons_zero]; exact rfl) (by kernel_rfl) (by kernel_rfl) (by kernel_rfl) (fun _ _ _ h => h) (Or.inl ⟨by rfl, ?_⟩) hHeld ?_
          rotate_left
          · intro w hSw
            try dsimp only at hSw
            first | (go_simp; done) | (go_simp; with_reducible rfl)
          try simp only [Act.put, List.setIfInBounds_toArray, List.set_cons_zero, List.set_cons_succ]
          refine wpAnyH_done (by kernel_rfl) ?_ _
          refine NoPanic.normal ?_
          have HBe := Lib.hid hHeld.1.k.below
          clear hHeld
          go_wp2_with fail
          exact HQ.out _ _ ⟨rfl, HBe.out⟩
      · have hr' : rightM ⟨k, se, me, ak, lo⟩ = false := by simpa using hr
        rw [show wrEM ⟨k, se, me, ak, lo⟩ = 1 from by rw [wrEM, if_neg hr], show wrCM ⟨k, se, me, ak, lo⟩ = (0, 0, []) from by rw [wrCM, if_neg hr]] at hwr
        have HR := Lib.hid hr'
        have hwn := fun w ha hl => fwrite_any k2 se2 me2 (.slice A4 bk.length c4) (.slice B4 mo.length d4) bk mo w ha hl HP.out
        unfold FWPost at hwn
        generalize wrCM ⟨k2, se2, me2, bk, mo⟩ = D at *
        generalize wrEM ⟨k2, se2, me2, bk, mo⟩ = f at *
        obtain ⟨ct2, ty2, F⟩ := D
        simp only at hwn
        have HWn := Lib.hid hwn
        clear hr hr' hwn
        go_wp2_with fail
        refine hwr.mono ?_
        rintro r w9 ⟨v13, rfl, hv13, hb⟩
        obtain ⟨A13, c13, rfl⟩ := fbs_sl hv13 (n := 0) rfl
        have hba := hb.alloc hb.size (oChk 0 0 (.slice A13 0 c13))
        have HK10 := Lib.hid (HK8.out.after hba)
        clear hwr hv13 hb hba HK8 k0 k1 k2_ k3 k4
        go_upto_region 12 with fail
        rw [show w9.alloc (.cells #[.int .u8 0, .int .u8 0, .slice A13 0 c13] 29) = w9.alloc (oChk 0 0 (.slice A13 0 c13)) from rfl]
        generalize w9.alloc (oChk 0 0 (.slice A13 0 c13)) = w10 at *
        generalize w9.heap.size = b13 at *
        obtain ⟨k0, k1, k2_, k3, k4⟩ := cells5m HK10.out.x4
        go_wp2_with fail
        refine (HWn.out w10 HK10.out.h4a HK10.out.h4l).mono ?_
        rintro r w11 ⟨v15, rfl, hv15, hb⟩
        obtain ⟨A15, c15, rfl, y1, y2, y3⟩ := bs_parts hv15
        have hba := hb.alloc hb.size (oChk (ct2) (ty2) (.slice A15 F.length c15))
        have HK12 := Lib.hid (HK10.out.after hba)
        clear hv15 hb hba HK10 HWn y1 y2 y3 k0 k1 k2_ k3 k4
        go_upto_region 13 with fail
        rw [show w11.alloc (.cells #[.int .u8 (ct2 : Nat), .int .u8 (ty2 : Nat), .slice A15 F.length c15] 29) = w11.alloc (oChk (ct2) (ty2) (.slice A15 F.length c15)) from rfl]
        generalize w11.alloc (oChk (ct2) (ty2) (.slice A15 F.length c15)) = w12 at *
        generalize w11.heap.size = b15 at *
        obtain ⟨k0, k1, k2_, k3, k4⟩ := cells5m HK12.out.x3
        go_wp2_with fail
        have hri := fright_any k se me _ _ ak lo w12 HK12.out.h3a HK12.out.h3l
        rw [HR.out] at hri
        refine hri.mono ?_
        rintro r w13 ⟨rfl, hb⟩
        have HK13 := Lib.hid (HK12.out.after hb)
        clear hri hb HK12 k0 k1 k2_ k3 k4
        go_wp2_with fail
        exact HQ.out _ _ ⟨rfl, HK13.out.below⟩
end Go.Proofs.Ytonkecfgopbclaa
