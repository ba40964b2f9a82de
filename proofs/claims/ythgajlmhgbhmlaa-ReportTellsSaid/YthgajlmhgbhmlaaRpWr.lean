/- The walk of report.Write. -/
import Derived.Test.YthgajlmhgbhmlaaRpV
import Derived.Test.YthgajlmhgbhmlaaRpW
import Derived.Deep.Cut
import Derived.Deep.DeepCutAuto
namespace Go.Proofs.Ythgajlmhgbhmlaa
open Go.RowKit

def wrE (r : DR) : Int := if rightR r then 0 else 1
def wrC (r : DR) : DC := if rightR r then chunkR r else (0, 0, [])
/-- what Write answers -/
def WritePost (w : World) (r : DR) (e : Ending) (w' : World) : Prop :=
  ∃ u, e = .returned (.tuple #[.agg #[.int .u8 ((wrC r).1 : Nat), .int .u8 ((wrC r).2.1 : Nat), u], .int .i64 (wrE r)]) ∧ BS w' u (wrC r).2.2 ∧ Below w.heap.size w w'
abbrev zeroC8 : Obj := .cells #[.int .u8 0, .int .u8 0, .slice none 0 0] 30 (0, 0)
/-- a writer; the report's cells, the result's, and a chunk's -/
structure RWs (w0 : World) (bx rx cb pb : Nat) (orp oc : Obj) (ob : Option Nat) (l : List UInt8) (w : World) : Prop where
  wr : Wr pb w pb ob l
  rp : w.heap[bx]? = some orp
  res : w.heap[rx]? = some zeroC8
  c : w.heap[cb]? = some oc
  below : Below w0.heap.size w0 w
  o0 : w0.heap.size ≤ bx
  o1 : bx < rx
  o2 : rx < cb
  o3 : cb < pb
section
variable {w0 w w' : World} {bx rx cb pb : Nat} {orp oc : Obj} {ob : Option Nat} {l l' : List UInt8}
theorem RWs.step (h : RWs w0 bx rx cb pb orp oc ob l w) (hp : WPost pb w pb ob l' w') : ∃ ob', RWs w0 bx rx cb pb orp oc ob' l' w' := by
  obtain ⟨ob', hw, hf, _⟩ := hp
  have h0 := h.o0; have h1 := h.o1; have h2 := h.o2; have h3 := h.o3
  have hlt := h.wr.lt
  have key : ∀ k, k < pb → ¬ WF pb ob k := fun k hk hx => by have := (hlt k hx).1; omega
  exact ⟨ob', hw, hf.heap h.rp (key _ (by omega)), hf.heap h.res (key _ (by omega)), hf.heap h.c (key _ (by omega)), h.below.trans (hf.below h.below.size (fun k hk => by have := (hlt k hk).1; omega)), h0, h1, h2, h3⟩
theorem RWs.fr0 (h : RWs w0 bx rx cb pb orp oc ob l w) (hb : Below w.heap.size w w') : RWs w0 bx rx cb pb orp oc ob l w' :=
  ⟨h.wr.fr0 (Fr.of hb), (Fr.of hb).heap h.rp (fun h => h), (Fr.of hb).heap h.res (fun h => h), (Fr.of hb).heap h.c (fun h => h), h.below.trans (hb.mono h.below.size), h.o0, h.o1, h.o2, h.o3⟩
theorem RWs.set {cs : Array Value} {t : TypeId} (h : RWs w0 bx rx cb pb orp (.cells cs t (0, 0)) ob l w) (i : Nat) (u : Value) : RWs w0 bx rx cb pb orp (.cells (cs.setIfInBounds i u) t (0, 0)) ob l (w.setCell ⟨cb, i, none⟩ u) := by
  have h0 := h.o0; have h1 := h.o1; have h2 := h.o2; have h3 := h.o3
  have hf : Fr (F1 cb) w (w.setCell ⟨cb, i, none⟩ u) := Fr.setCell w ⟨cb, i, none⟩ u
  have hlt := h.wr.lt
  exact ⟨h.wr.fr hf (fun k hk (hx : k = cb) => by have := (hlt k hk).1; omega), hf.heap h.rp (fun (hx : bx = cb) => by omega), hf.heap h.res (fun (hx : rx = cb) => by omega), obj_set h.c i u, h.below.trans (hf.below h.below.size (fun k (hk : k = cb) => by omega)), h0, h1, h2, h3⟩
end
theorem cells8 {w : World} {b : Nat} {x0 x1 x2 x3 x4 x5 x6 x7 : Value} {t : TypeId} (h : w.heap[b]? = some (.cells #[x0, x1, x2, x3, x4, x5, x6, x7] t (0, 0))) :
    w.cell? ⟨b, 0, none⟩ = some x0 ∧ w.cell? ⟨b, 1, none⟩ = some x1 ∧ w.cell? ⟨b, 2, none⟩ = some x2 ∧ w.cell? ⟨b, 3, none⟩ = some x3 ∧ w.cell? ⟨b, 4, none⟩ = some x4 ∧ w.cell? ⟨b, 5, none⟩ = some x5 ∧ w.cell? ⟨b, 6, none⟩ = some x6 ∧ w.cell? ⟨b, 7, none⟩ = some x7 := by
  have k := obj_cell h
  exact ⟨k 0, k 1, k 2, k 3, k 4, k 5, k 6, k 7⟩
theorem cells3 {w : World} {b : Nat} {x0 x1 x2 : Value} {t : TypeId} (h : w.heap[b]? = some (.cells #[x0, x1, x2] t (0, 0))) :
    w.cell? ⟨b, 0, none⟩ = some x0 ∧ w.cell? ⟨b, 1, none⟩ = some x1 ∧ w.cell? ⟨b, 2, none⟩ = some x2 ∧ w.frozen? ⟨b, 0, none⟩ = false ∧ w.frozen? ⟨b, 1, none⟩ = false ∧ w.frozen? ⟨b, 2, none⟩ = false := by
  have k := obj_cell h
  have z := obj_frozen h
  exact ⟨k 0, k 1, k 2, z 0, z 1, z 2⟩
theorem objs3 {w : World} {b : Nat} {x0 x1 x2 : Value} {t : TypeId} (h : w.heap[b]? = some (.cells #[x0, x1, x2] t (0, 0))) (y0 y1 y2 : Value) :
    ∀ w', w' = ((w.setCell ⟨b, 0, none⟩ y0).setCell ⟨b, 1, none⟩ y1).setCell ⟨b, 2, none⟩ y2 → w'.heap[b]? = some (.cells #[y0, y1, y2] t (0, 0)) ∧ Fr (F1 b) w w' := by
  rintro _ rfl
  have h0 := obj_set h 0 y0
  have h1 := obj_set h0 1 y1
  have h2 := obj_set h1 2 y2
  refine ⟨by simpa using h2, ?_⟩
  have f0 : Fr (F1 b) w (w.setCell ⟨b, 0, none⟩ y0) := Fr.setCell w ⟨b, 0, none⟩ y0
  have f1 : Fr (F1 b) w ((w.setCell ⟨b, 0, none⟩ y0).setCell ⟨b, 1, none⟩ y1) := f0.trans (Fr.setCell _ ⟨b, 1, none⟩ y1) (fun _ h => .inl h)
  exact f1.trans (Fr.setCell _ ⟨b, 2, none⟩ y2) (fun _ h => .inl h)
theorem encBs_take (bl : List DB) (j : Nat) (h : j < bl.length) : encBs (bl.take (j + 1)) = encBs (bl.take j) ++ encB bl[j] := by
  rw [List.take_succ_eq_append_getElem h, encBs_snoc]
set_option maxHeartbeats 2000000 in
theorem rpwrite_any (sd : Bool) (so i0 i1 i2 i3 i4 : Nat) (bl : List DB) (A : Option Addr) (c : Nat) (w : World) (h : BlS w (.slice A bl.length c) bl) (ho : DR.Ok ⟨sd, so, i0, i1, i2, i3, i4, bl⟩) :
    Calls Try.prog 7 #[.agg #[.bool sd, .int .u32 (so : Nat), .int .u32 (i0 : Nat), .int .u32 (i1 : Nat), .int .u32 (i2 : Nat), .int .u32 (i3 : Nat), .int .u32 (i4 : Nat), .slice A bl.length c]] w
      (WritePost w ⟨sd, so, i0, i1, i2, i3, i4, bl⟩) := by
  have HT := Lib.hid h
  have HO := Lib.hid ho
  obtain ⟨_, _, he, _, _, hA⟩ := h.parts
  simp only [Value.slice.injEq, true_and] at he
  obtain ⟨rfl, rfl⟩ := he
  have HA := Lib.hid hA
  have hbx := heap_alloc_new w (.cells #[.bool sd, .int .u32 (so : Nat), .int .u32 (i0 : Nat), .int .u32 (i1 : Nat), .int .u32 (i2 : Nat), .int .u32 (i3 : Nat), .int .u32 (i4 : Nat), .slice A bl.length c] 27 (0, 0))
  have hb1 := below_alloc (w := w) (.cells #[.bool sd, .int .u32 (so : Nat), .int .u32 (i0 : Nat), .int .u32 (i1 : Nat), .int .u32 (i2 : Nat), .int .u32 (i3 : Nat), .int .u32 (i4 : Nat), .slice A bl.length c] 27 (0, 0))
  have hrx := heap_alloc_new (w.alloc (.cells #[.bool sd, .int .u32 (so : Nat), .int .u32 (i0 : Nat), .int .u32 (i1 : Nat), .int .u32 (i2 : Nat), .int .u32 (i3 : Nat), .int .u32 (i4 : Nat), .slice A bl.length c] 27 (0, 0))) zeroC8
  have hbx2 := (Fr.alloc (w.alloc (.cells #[.bool sd, .int .u32 (so : Nat), .int .u32 (i0 : Nat), .int .u32 (i1 : Nat), .int .u32 (i2 : Nat), .int .u32 (i3 : Nat), .int .u32 (i4 : Nat), .slice A bl.length c] 27 (0, 0))) zeroC8).heap hbx (fun h => h)
  have hb2 := hb1.alloc hb1.size zeroC8
  rw [World.size_alloc] at hrx
  have HX := Lib.hid hbx2
  have HRx := Lib.hid hrx
  have HB := Lib.hid hb2
  clear h ho hA hbx hb1 hrx hbx2 hb2
  refine calls_q fun Q HQ => ?_
  unfold WritePost at HQ
  go_enter Try.func7, Try.ntmps7
  go_wp2_with fail
  have HS := Lib.hid (show w.heap.size < w.heap.size + 1 ∧ w.heap.size + 1 < ((w.alloc (.cells #[.bool sd, .int .u32 (so : Nat), .int .u32 (i0 : Nat), .int .u32 (i1 : Nat), .int .u32 (i2 : Nat), .int .u32 (i3 : Nat), .int .u32 (i4 : Nat), .slice A bl.length c] 27 (0, 0))).alloc zeroC8).heap.size by simp)
  rw [show (w.alloc (.cells #[.bool sd, .int .u32 (so : Nat), .int .u32 (i0 : Nat), .int .u32 (i1 : Nat), .int .u32 (i2 : Nat), .int .u32 (i3 : Nat), .int .u32 (i4 : Nat), .slice A bl.length c] 27)).alloc (Obj.cells #[.int .u8 0, .int .u8 0, .slice none 0 0] 30) = (w.alloc (.cells #[.bool sd, .int .u32 (so : Nat), .int .u32 (i0 : Nat), .int .u32 (i1 : Nat), .int .u32 (i2 : Nat), .int .u32 (i3 : Nat), .int .u32 (i4 : Nat), .slice A bl.length c] 27 (0, 0))).alloc zeroC8 from rfl] at *
  generalize hbx : w.heap.size = bx at HX HRx HS ⊢
  have HBx := Lib.hid (show w.heap.size ≤ bx by omega)
  clear hbx
  generalize (w.alloc (.cells #[.bool sd, .int .u32 (so : Nat), .int .u32 (i0 : Nat), .int .u32 (i1 : Nat), .int .u32 (i2 : Nat), .int .u32 (i3 : Nat), .int .u32 (i4 : Nat), .slice A bl.length c] 27 (0, 0))).alloc zeroC8 = wa at *
  obtain ⟨rx, hrx⟩ : ∃ rx, rx = bx + 1 := ⟨_, rfl⟩
  rw [← hrx] at HRx HS ⊢
  clear hrx
  refine (rpright_any sd so i0 i1 i2 i3 i4 bl A c _ (HT.out.below HB.out)).mono ?_
  rintro e w1 ⟨rfl, hb⟩
  have HX1 := Lib.hid ((Fr.of hb).heap HX.out (fun h => h))
  have HRx1 := Lib.hid ((Fr.of hb).heap HRx.out (fun h => h))
  have HB1 := Lib.hid (HB.out.trans (hb.mono HB.out.size))
  have HS1 := Lib.hid (show bx < rx ∧ rx < w1.heap.size by have := HS.out; have := hb.size; omega)
  clear hb HX HRx HB HS
  by_cases hr : rightR ⟨sd, so, i0, i1, i2, i3, i4, bl⟩ = true
  · have HC := Lib.hid (show wrC ⟨sd, so, i0, i1, i2, i3, i4, bl⟩ = (bl.length, typR sd, encR ⟨sd, so, i0, i1, i2, i3, i4, bl⟩) ∧ wrE ⟨sd, so, i0, i1, i2, i3, i4, bl⟩ = 0 by rw [wrC, wrE, if_pos hr, if_pos hr]; exact ⟨rfl, rfl⟩)
    rw [hr]
    have hl8 : bl.length ≤ 8 := by
      have h := (rightR_iff.1 hr).2.1
      unfold mostN at h
      split at h <;> simp only at h <;> omega
    have hw8 : IntKind.u8.wrap (bl.length : Int) = (bl.length : Int) := by rw [wrap_u8]; omega
    obtain ⟨k0, k1, k2, k3, k4, k5, k6, k7⟩ := cells8 HX1.out
    go_upto_region 5 with fail
    have hs : RWs w bx rx w1.heap.size (w1.heap.size + 1) (.cells #[.bool sd, .int .u32 (so : Nat), .int .u32 (i0 : Nat), .int .u32 (i1 : Nat), .int .u32 (i2 : Nat), .int .u32 (i3 : Nat), .int .u32 (i4 : Nat), .slice A bl.length c] 27 (0, 0)) (.cells #[.int .u8 (bl.length : Nat), .int .u8 201, .slice none 0 0] 30 (0, 0)) none [] ((w1.alloc (.cells #[.int .u8 (bl.length : Nat), .int .u8 201, .slice none 0 0] 30)).alloc (.cells #[.slice none 0 0] 60)) := by
      have h1 := heap_alloc_new w1 (.cells #[.int .u8 (bl.length : Nat), .int .u8 201, .slice none 0 0] 30 (0, 0))
      have f1 := Fr.alloc w1 (.cells #[.int .u8 (bl.length : Nat), .int .u8 201, .slice none 0 0] 30 (0, 0))
      have f2 := Fr.alloc (w1.alloc (.cells #[.int .u8 (bl.length : Nat), .int .u8 201, .slice none 0 0] 30 (0, 0))) (.cells #[.slice none 0 0] 60 (0, 0))
      have hw := wr_new (w1.alloc (.cells #[.int .u8 (bl.length : Nat), .int .u8 201, .slice none 0 0] 30 (0, 0)))
      rw [World.size_alloc] at hw
      have hb := (HB1.out.alloc HB1.out.size (.cells #[.int .u8 (bl.length : Nat), .int .u8 201, .slice none 0 0] 30 (0, 0)))
      exact ⟨hw, f2.heap (f1.heap HX1.out (fun h => h)) (fun h => h), f2.heap (f1.heap HRx1.out (fun h => h)) (fun h => h), f2.heap h1 (fun h => h), hb.alloc hb.size _, HBx.out, HS1.out.1, HS1.out.2, Nat.lt_succ_self _⟩
    have HS := Lib.hid hs
    generalize (w1.alloc (.cells #[.int .u8 (bl.length : Nat), .int .u8 201, .slice none 0 0] 30)).alloc (.cells #[.slice none 0 0] 60) = w2 at *
    generalize w1.heap.size + 1 = pb at *
    generalize w1.heap.size = cb at *
    clear hs k0 k1 k2 k3 k4 k5 k6 k7 HX1 HRx1 HB1 HS1 HBx hr
    obtain ⟨k0, k1, k2, k3, k4, k5, k6, k7⟩ := cells8 HS.out.rp
    go_wp2_with fail
    refine (wnum_n pb pb none [] so w2 HS.out.wr HO.out.so (by decide)).mono ?_
    rintro e w3 ⟨rfl, hp⟩
    obtain ⟨o3, h3⟩ := HS.out.step hp
    have HS3 := Lib.hid h3
    clear HS hp h3 k0 k1 k2 k3 k4 k5 k6 k7
    obtain ⟨k0, k1, k2, k3, k4, k5, k6, k7⟩ := cells8 HS3.out.rp
    go_upto_if 21 with fail
    go_cut [] (fun wx => ∃ o9, RWs w bx rx cb pb (.cells #[.bool sd, .int .u32 (so : Nat), .int .u32 (i0 : Nat), .int .u32 (i1 : Nat), .int .u32 (i2 : Nat), .int .u32 (i3 : Nat), .int .u32 (i4 : Nat), .slice A bl.length c] 27 (0, 0)) (.cells #[.int .u8 (bl.length : Nat), .int .u8 (typR sd : Nat), .slice none 0 0] 30 (0, 0)) o9 (headR ⟨sd, so, i0, i1, i2, i3, i4, bl⟩) wx)
    case first =>
      cases sd
      · have h4 := HS3.out
        rw [show [] ++ bytesL so 4 = headR ⟨false, so, i0, i1, i2, i3, i4, bl⟩ by simp [headR]] at h4
        have HS4 := Lib.hid h4
        clear h4 HS3
        go_wp2_with fail
        go_meet
        case rel => exact ⟨_, HS4.out⟩
      · obtain ⟨m0, m1, m2, z0, z1, z2⟩ := cells3 HS3.out.c
        have h4 := HS3.out.set 1 (.int .u8 200)
        rw [show (#[Value.int .u8 (bl.length : Nat), .int .u8 201, .slice none 0 0].setIfInBounds 1 (.int .u8 200)) = #[.int .u8 (bl.length : Nat), .int .u8 200, .slice none 0 0] from rfl] at h4
        have HS4 := Lib.hid h4
        clear h4 HS3
        go_upto_region 8 with fail
        generalize w3.setCell ⟨cb, 1, none⟩ (.int .u8 200) = w4 at *
        clear m0 m1 m2 z0 z1 z2 k0 k1 k2 k3 k4 k5 k6 k7
        obtain ⟨k0, k1, k2, k3, k4, k5, k6, k7⟩ := cells8 HS4.out.rp
        go_wp2_with fail
        refine (winfo_any pb pb o3 _ i0 i1 i2 i3 i4 w4 HS4.out.wr HO.out.i0 HO.out.i1 HO.out.i2 HO.out.i3 HO.out.i4 (by simp [bytesL_len])).mono ?_
        rintro e w5 ⟨rfl, hp⟩
        obtain ⟨o5, h5⟩ := HS4.out.step hp
        rw [show [] ++ bytesL so 4 ++ encI ⟨true, 0, i0, i1, i2, i3, i4, []⟩ = headR ⟨true, so, i0, i1, i2, i3, i4, bl⟩ by simp [headR, encI]] at h5
        have HS5 := Lib.hid h5
        clear h5 hp HS4
        go_wp2_with fail
        go_meet
        case rel => exact ⟨_, HS5.out⟩
    case rest =>
      obtain ⟨o9, h9⟩ := hcut
      have HS9 := Lib.hid h9
      clear h9 HS3 k0 k1 k2 k3 k4 k5 k6 k7
      generalize wc = w9 at *
      obtain ⟨k0, k1, k2, k3, k4, k5, k6, k7⟩ := cells8 HS9.out.rp
      have HHl := Lib.hid (show (headR ⟨sd, so, i0, i1, i2, i3, i4, bl⟩).length ≤ 24 by rw [headR_len]; unfold aheadN; split <;> decide)
      have HEn := Lib.hid (show encR ⟨sd, so, i0, i1, i2, i3, i4, bl⟩ = headR ⟨sd, so, i0, i1, i2, i3, i4, bl⟩ ++ encBs bl from rfl)
      have HOb := Lib.hid (show ∀ b ∈ bl, b.Ok from HO.out.bl)
      go_wp2_with fail
      clear k0 k1 k2 k3 k4 k5 k6 k7
      generalize headR ⟨sd, so, i0, i1, i2, i3, i4, bl⟩ = H at *
      go_loopw [29] (fun i wr => ∃ (j : Nat) (ob : Option Nat), j ≤ bl.length ∧ i = .int .i64 j ∧ RWs w bx rx cb pb (.cells #[.bool sd, .int .u32 (so : Nat), .int .u32 (i0 : Nat), .int .u32 (i1 : Nat), .int .u32 (i2 : Nat), .int .u32 (i3 : Nat), .int .u32 (i4 : Nat), .slice A bl.length c] 27 (0, 0)) (.cells #[.int .u8 (bl.length : Nat), .int .u8 (typR sd : Nat), .slice none 0 0] 30 (0, 0)) ob (H ++ encBs (bl.take j)) wr) (fun i _ => bl.length - (intOf i).toNat)
      case atStart => exact ⟨0, o9, Nat.zero_le _, rfl, by simpa [encBs] using HS9.out⟩
      case round =>
        obtain ⟨j, ob, hj, rfl, hs⟩ := hrel
        have HS := Lib.hid hs
        clear hs
        by_cases hlt : j < bl.length
        · obtain ⟨b, o, rfl, hbl⟩ := HA.out (by omega)
          obtain ⟨c0, c1, c2, c3, c4, c5, c6⟩ := (HT.out.below HS.out.below).at j hlt
          have hbl2 := Nat.lt_of_lt_of_le hbl HS.out.below.size
          have h0 : (0 : Int) ≤ (j : Int) := by omega
          have h1 : (j : Int) < (bl.length : Int) := by omega
          have hst := encBs_take bl j hlt
          have hok := HOb.out _ (List.getElem_mem hlt)
          have hle : (encBs (bl.take j)).length = 24 * j := by rw [encBs_len]; simp; omega
          have hHl := HHl.out
          generalize bl[j] = bj at *
          obtain ⟨s, p, m, h, jj, la, d⟩ := bj
          have HSt := Lib.hid hst
          have HOk := Lib.hid hok
          have HLn := Lib.hid (show (H ++ encBs (bl.take j)).length ≤ 100000 by rw [List.length_append]; omega)
          clear hst hok hle hHl
          have HS2 := Lib.hid (HS.out.fr0 (below_alloc (.cells #[.int .u32 (s : Nat), .int .u8 (p : Nat), .int .i32 m, .int .u32 (h : Nat), .int .u32 (jj : Nat), .int .u32 (la : Nat), .int .u32 (d : Nat)] 56 (0, 0))))
          go_wp2_with fail
          refine (wblock_any pb pb ob _ s p m h jj la d _ HS2.out.wr HOk.out HLn.out).mono ?_
          rintro e w5 ⟨rfl, hp⟩
          obtain ⟨o5, h5⟩ := HS2.out.step hp
          rw [List.append_assoc, ← HSt.out] at h5
          have HS5 := Lib.hid h5
          clear h5 hp HS HS2
          go_wp2_with fail
          go_roundw
          case rel => exact ⟨j + 1, o5, by omega, by go_num, HS5.out⟩
          case measure => simp [intOf]; omega
        · have : j = bl.length := by omega
          subst this
          rw [List.take_length, ← HEn.out] at HS
          have hle : (encR ⟨sd, so, i0, i1, i2, i3, i4, bl⟩).length ≤ 1000 := by rw [encR_len]; unfold aheadN; simp only; split <;> omega
          have HLe := Lib.hid hle
          clear hle
          generalize encR ⟨sd, so, i0, i1, i2, i3, i4, bl⟩ = E at *
          go_wp2_with fail
          refine (wbytes_any pb pb ob _ wr HS.out.wr (by have := HLe.out; omega)).mono ?_
          rintro e w3 ⟨u, rfl, hu, hb⟩
          obtain ⟨Au, cu, rfl⟩ := own_slice hu
          have hux := own_bsx hu
          have hcl := obj_lt HS.out.c
          have hrl := obj_lt HS.out.res
          have HS3 := Lib.hid (HS.out.fr0 hb)
          have hf2 := Fr.setCell w3 ⟨cb, 2, none⟩ (.slice Au E.length cu)
          have hux2 := hux.fr hf2 (fun k _ hk (hx : k = cb) => by omega)
          have hs4 := HS3.out.set 2 (.slice Au E.length cu)
          rw [show (#[Value.int .u8 (bl.length : Nat), .int .u8 (typR sd : Nat), .slice none 0 0].setIfInBounds 2 (.slice Au E.length cu)) = #[.int .u8 (bl.length : Nat), .int .u8 (typR sd : Nat), .slice Au E.length cu] from rfl] at hs4
          have HU := Lib.hid (hux2.mono (G' := fun k => k ≠ rx) (fun k _ hk hx => by omega))
          have HS4 := Lib.hid hs4
          obtain ⟨m0, m1, m2, z0, z1, z2⟩ := cells3 HS3.out.c
          clear HS hs4 hf2 hux hux2 hu hb hcl hrl HS3
          go_upto_region 15 with fail
          generalize w3.setCell ⟨cb, 2, none⟩ (.slice Au E.length cu) = w4 at *
          clear m0 m1 m2 z0 z1 z2
          obtain ⟨m0, m1, m2, _, _, _⟩ := cells3 HS4.out.c
          obtain ⟨n0, n1, n2, z0, z1, z2⟩ := cells3 HS4.out.res
          go_wp2_with fail
          generalize hW : World.setCell _ _ _ = wf
          obtain ⟨hx, hfx⟩ := objs3 HS4.out.res _ _ _ wf hW.symm
          clear hW m0 m1 m2 n0 n1 n2 z0 z1 z2
          obtain ⟨m0, m1, m2, _, _, _⟩ := cells3 hx
          refine bodyPost_ret (v := .tuple #[.agg #[.int .u8 (bl.length : Nat), .int .u8 (typR sd : Nat), .slice Au E.length cu], .int .i64 0]) (by simp [results, Try.results7, go_sem, m0, m1, m2]; try rfl) rfl ?_
          refine HQ.out _ _ ⟨.slice Au E.length cu, by rw [HC.out.1, HC.out.2], by rw [HC.out.1]; exact (HU.out.fr hfx (fun k _ hk (hx : k = rx) => hk hx)).1, ?_⟩
          have h0 := HS4.out.o0
          have h1 := HS4.out.o1
          exact HS4.out.below.trans (hfx.below HS4.out.below.size (fun k (hk : k = rx) => by omega))
  · have hr' : rightR ⟨sd, so, i0, i1, i2, i3, i4, bl⟩ = false := by simpa using hr
    have HC := Lib.hid (show wrC ⟨sd, so, i0, i1, i2, i3, i4, bl⟩ = (0, 0, []) ∧ wrE ⟨sd, so, i0, i1, i2, i3, i4, bl⟩ = 1 by rw [wrC, wrE, if_neg hr, if_neg hr]; exact ⟨rfl, rfl⟩)
    rw [hr']
    obtain ⟨m0, m1, m2, z0, z1, z2⟩ := cells3 HRx1.out
    clear hr hr'
    go_wp2_with fail
    generalize hW : World.setCell _ _ _ = wf
    obtain ⟨hx, hfx⟩ := objs3 HRx1.out _ _ _ wf hW.symm
    clear hW m0 m1 m2 z0 z1 z2
    obtain ⟨m0, m1, m2, z0, z1, z2⟩ := cells3 hx
    refine bodyPost_ret (v := .tuple #[.agg #[.int .u8 0, .int .u8 0, .slice none 0 0], .int .i64 1]) (by simp [results, Try.results7, go_sem, m0, m1, m2]; try rfl) rfl ?_
    exact HQ.out _ _ ⟨.slice none 0 0, by rw [HC.out.1, HC.out.2]; rfl, by rw [HC.out.1]; exact BS.nil _, HB1.out.trans (hfx.below HB1.out.size (fun k (hk : k = rx) => by have := HS1.out; have := HBx.out; omega))⟩
end Go.Proofs.Ythgajlmhgbhmlaa
