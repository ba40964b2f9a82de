/- The walk of layer 8's awake. -/
import Derived.Test.YthgajlmhgbhmlaaRpRd
import Derived.Test.YthgajlmhgbhmlaaRpOw
import Derived.Test.YthgajlmhgbhmlaaRpSm
import Derived.Test.YthgajlmhgbhmlaaRpCs
import Derived.Deep.RegionHeld3
namespace Go.Proofs.Ythgajlmhgbhmlaa
open Go.RowKit

/-! ### the calls, over any slice of blocks -/
section
variable (sd : Bool) (so i0 i1 i2 i3 i4 : Nat) (bl : List DB) (v : Value) (w : World)
theorem rpright_v (h : BlS w v bl) :
    Calls Try.prog 12 #[.agg #[.bool sd, .int .u32 (so : Nat), .int .u32 (i0 : Nat), .int .u32 (i1 : Nat), .int .u32 (i2 : Nat), .int .u32 (i3 : Nat), .int .u32 (i4 : Nat), v]] w
      fun e w' => e = .returned (.bool (rightR ⟨sd, so, i0, i1, i2, i3, i4, bl⟩)) ∧ Below w.heap.size w w' := by
  obtain ⟨A, c, rfl, _⟩ := h.parts
  exact rpright_any sd so i0 i1 i2 i3 i4 bl A c w h
theorem rpwrite_v (h : BlS w v bl) (ho : DR.Ok ⟨sd, so, i0, i1, i2, i3, i4, bl⟩) :
    Calls Try.prog 7 #[.agg #[.bool sd, .int .u32 (so : Nat), .int .u32 (i0 : Nat), .int .u32 (i1 : Nat), .int .u32 (i2 : Nat), .int .u32 (i3 : Nat), .int .u32 (i4 : Nat), v]] w
      (WritePost w ⟨sd, so, i0, i1, i2, i3, i4, bl⟩) := by
  obtain ⟨A, c, rfl, _⟩ := h.parts
  exact rpwrite_any sd so i0 i1 i2 i3 i4 bl A c w h ho
theorem rpown_v (h : BlS w v bl) (hm : bl.length ≤ 1000) :
    Calls Try.prog 9 #[.agg #[.bool sd, .int .u32 (so : Nat), .int .u32 (i0 : Nat), .int .u32 (i1 : Nat), .int .u32 (i2 : Nat), .int .u32 (i3 : Nat), .int .u32 (i4 : Nat), v]] w
      fun e w' => ∃ v, e = .returned (.agg #[.bool sd, .int .u32 (so : Nat), .int .u32 (i0 : Nat), .int .u32 (i1 : Nat), .int .u32 (i2 : Nat), .int .u32 (i3 : Nat), .int .u32 (i4 : Nat), v]) ∧ BlS w' v bl ∧ Below w.heap.size w w' := by
  obtain ⟨A, c, rfl, _⟩ := h.parts
  exact rpown_any sd so i0 i1 i2 i3 i4 bl A c w h hm
theorem rpsame_v {r : Bool} (td : Bool) (tz j0 j1 j2 j3 j4 : Nat) (bm : List DB) (u : Value) (hs : BlS w v bl) (ht : BlS w u bm) (h : r = true ↔ (⟨sd, so, i0, i1, i2, i3, i4, bl⟩ : DR) = ⟨td, tz, j0, j1, j2, j3, j4, bm⟩) :
    Calls Try.prog 15 #[.agg #[.bool sd, .int .u32 (so : Nat), .int .u32 (i0 : Nat), .int .u32 (i1 : Nat), .int .u32 (i2 : Nat), .int .u32 (i3 : Nat), .int .u32 (i4 : Nat), v],
        .agg #[.bool td, .int .u32 (tz : Nat), .int .u32 (j0 : Nat), .int .u32 (j1 : Nat), .int .u32 (j2 : Nat), .int .u32 (j3 : Nat), .int .u32 (j4 : Nat), u]] w
      fun e w' => e = .returned (.bool r) ∧ Below w.heap.size w w' := by
  obtain ⟨A, c, rfl, _⟩ := hs.parts
  obtain ⟨A2, c2, rfl, _⟩ := ht.parts
  exact rpsame_is sd so i0 i1 i2 i3 i4 bl A c td tz j0 j1 j2 j3 j4 bm A2 c2 w hs ht h
end
theorem rpread_v (n y : Nat) (v : Value) (B : List UInt8) (w : World) (hv : BS w v B) (hn : n < 256) (hy : y < 256) (hl : B.length ≤ 1000) :
    Calls Try.prog 10 #[.agg #[.int .u8 (n : Nat), .int .u8 (y : Nat), v]] w (RdPostR w (n, y, B)) := by
  obtain ⟨A, c, rfl, _⟩ := bs_parts hv
  exact rpread_any n y A c B w hv hn hy hl
/-! ### the reports of awake -/
def rA : DR := ⟨false, 5, 0, 0, 0, 0, 0, []⟩
def bB : DB := ⟨3, 0, -1, 0, 0, 0, 0⟩
def rB : DR := ⟨true, 1, 2, 0, 0, 0, 0, [bB]⟩
def lB : List UInt8 := encR rB
theorem rA_ok : rA.Ok := ⟨by decide, by decide, by decide, by decide, by decide, by decide, fun b hb => absurd hb (by simp [rA])⟩
theorem rB_ok : rB.Ok := ⟨by decide, by decide, by decide, by decide, by decide, by decide, fun b hb => by
  simp only [rB, List.mem_singleton] at hb
  subst hb
  exact ⟨by decide, by decide, by decide, by decide, by decide, by decide, by decide, by decide⟩⟩
theorem rA_right : rightR rA = true := by decide
theorem rB_right : rightR rB = true := by decide
theorem rA_wr : wrC rA = (0, 201, [0, 0, 0, 5]) ∧ wrE rA = 0 := by
  rw [wrC, wrE, if_pos rA_right, if_pos rA_right]
  exact ⟨by decide, rfl⟩
theorem rB_wr : wrC rB = (1, 200, lB) ∧ wrE rB = 0 := by
  rw [wrC, wrE, if_pos rB_right, if_pos rB_right]
  exact ⟨rfl, rfl⟩
theorem lB_len : lB.length = 48 := by decide
theorem rA_rd : rdErr (0, 201, [0, 0, 0, 5]) = 0 ∧ readR (0, 201, [0, 0, 0, 5]) = rA := by
  have e : chunkR rA = (0, 201, [0, 0, 0, 5]) := by decide
  rw [← e]
  exact ⟨(back_r rA_right rA_ok).2.2.1, readR_back rA_right rA_ok⟩
theorem rB_rd : rdErr (1, 200, lB) = 0 ∧ readR (1, 200, lB) = rB := by
  have e : chunkR rB = (1, 200, lB) := rfl
  rw [← e]
  exact ⟨(back_r rB_right rB_ok).2.2.1, readR_back rB_right rB_ok⟩
theorem rC_rd : rdErr (0, 9, []) = 5 ∧ readR (0, 9, []) = DR.zero := by
  have h : rdErr (0, 9, []) = 5 := by decide
  exact ⟨h, by rw [readR, if_neg (by rw [h]; decide)]⟩
theorem wA_any (w : World) : Calls Try.prog 7 #[.agg #[.bool false, .int .u32 5, .int .u32 0, .int .u32 0, .int .u32 0, .int .u32 0, .int .u32 0, .slice none 0 0]] w
    fun e w' => ∃ u, e = .returned (.tuple #[.agg #[.int .u8 0, .int .u8 201, u], .int .i64 0]) ∧ BS w' u [0, 0, 0, 5] ∧ Below w.heap.size w w' := by
  have h := rpwrite_v false 5 0 0 0 0 0 [] (.slice none 0 0) w (BlS.nil w) rA_ok
  rw [show (⟨false, 5, 0, 0, 0, 0, 0, []⟩ : DR) = rA from rfl] at h
  unfold WritePost at h
  rw [rA_wr.1, rA_wr.2] at h
  exact h
theorem wB_any (v : Value) (w : World) (hv : BlS w v [bB]) : Calls Try.prog 7 #[.agg #[.bool true, .int .u32 1, .int .u32 2, .int .u32 0, .int .u32 0, .int .u32 0, .int .u32 0, v]] w
    fun e w' => ∃ u, e = .returned (.tuple #[.agg #[.int .u8 1, .int .u8 200, u], .int .i64 0]) ∧ BS w' u lB ∧ Below w.heap.size w w' := by
  have h := rpwrite_v true 1 2 0 0 0 0 [bB] v w hv rB_ok
  rw [show (⟨true, 1, 2, 0, 0, 0, 0, [bB]⟩ : DR) = rB from rfl] at h
  unfold WritePost at h
  rw [rB_wr.1, rB_wr.2] at h
  exact h
theorem rdA_any (v : Value) (w : World) (hv : BS w v [0, 0, 0, 5]) : Calls Try.prog 10 #[.agg #[.int .u8 0, .int .u8 201, v]] w
    fun e w' => ∃ u, e = .returned (.tuple #[.agg #[.bool false, .int .u32 5, .int .u32 0, .int .u32 0, .int .u32 0, .int .u32 0, .int .u32 0, u], .int .i64 0]) ∧ BlS w' u [] ∧ Below w.heap.size w w' := by
  have h := rpread_v 0 201 v [0, 0, 0, 5] w hv (by decide) (by decide) (by decide)
  unfold RdPostR at h
  rw [rA_rd.1, rA_rd.2] at h
  exact h
theorem rdB_any (v : Value) (w : World) (hv : BS w v lB) : Calls Try.prog 10 #[.agg #[.int .u8 1, .int .u8 200, v]] w
    fun e w' => ∃ u, e = .returned (.tuple #[.agg #[.bool true, .int .u32 1, .int .u32 2, .int .u32 0, .int .u32 0, .int .u32 0, .int .u32 0, u], .int .i64 0]) ∧ BlS w' u [bB] ∧ Below w.heap.size w w' := by
  have h := rpread_v 1 200 v lB w hv (by decide) (by decide) (by rw [lB_len]; decide)
  unfold RdPostR at h
  rw [rB_rd.1, rB_rd.2] at h
  exact h
theorem rdC_any (w : World) : Calls Try.prog 10 #[.agg #[.int .u8 0, .int .u8 9, .slice none 0 0]] w
    fun e w' => ∃ u, e = .returned (.tuple #[.agg #[.bool false, .int .u32 0, .int .u32 0, .int .u32 0, .int .u32 0, .int .u32 0, .int .u32 0, u], .int .i64 5]) ∧ BlS w' u [] ∧ Below w.heap.size w w' := by
  have h := rpread_v 0 9 (.slice none 0 0) [] w (BS.nil w) (by decide) (by decide) (by decide)
  unfold RdPostR at h
  rw [rC_rd.1, rC_rd.2] at h
  exact h
/-! ### literals -/
theorem ck_obj {w : World} {k n y : Nat} {v : Value} {B : List UInt8} {t : TypeId} (h : w.heap[k]? = some (.cells #[.int .u8 (n : Nat), .int .u8 (y : Nat), v] t (0, 0))) (hn : n < 256) (hy : y < 256) (hv : BS w v B) :
    CkS w (.slice (some ⟨k, 0, none⟩) 1 1) [⟨n, y, v, B⟩] := by
  have hlt := obj_lt h
  refine ⟨⟨_, 1, rfl, Nat.le_refl _, by unfold maxLen; decide, fun _ => ⟨k, 0, rfl, hlt, fun i hi j u hu => ?_⟩⟩, fun x hx => ?_⟩
  · have : i = 0 := by simp at hi; omega
    subst this
    rw [obj_cell h]
    simpa [Ck.row] using hu
  · obtain rfl := List.mem_singleton.1 hx
    exact ⟨hn, hy, hv⟩
theorem bs_obj {w : World} {k : Nat} {l : List UInt8} {t : TypeId} (h : w.heap[k]? = some (.cells (c8 l).toArray t (0, 0))) (hm : l.length ≤ maxLen) : BS w (.slice (some ⟨k, 0, none⟩) l.length l.length) l := by
  refine ⟨_, _, rfl, Nat.le_refl _, hm, fun hp => ⟨k, 0, rfl, obj_lt h, fun j hj => ?_⟩⟩
  rw [obj_cell h, Nat.zero_add]
  simp [c8, List.getElem?_eq_getElem hj]
theorem bl_obj {w : World} {k : Nat} {b : DB} {t : TypeId} (h : w.heap[k]? = some (.cells b.row.toArray t (0, 0))) (hb : b.Ok) : BlS w (.slice (some ⟨k, 0, none⟩) 1 1) [b] := by
  have hlt := obj_lt h
  refine ⟨⟨_, 1, rfl, Nat.le_refl _, by unfold maxLen; decide, fun _ => ⟨k, 0, rfl, hlt, fun i hi j u hu => ?_⟩⟩, fun x hx => ?_⟩
  · have : i = 0 := by simp at hi; omega
    subst this
    rw [obj_cell h]
    simpa [DB.row] using hu
  · obtain rfl := List.mem_singleton.1 hx
    exact hb
theorem heap3_1 (w : World) (a b c : Obj) : (((w.alloc a).alloc b).alloc c).heap[w.heap.size]? = some a :=
  (Fr.alloc _ c).heap ((Fr.alloc _ b).heap (heap_alloc_new w a) (fun h => h)) (fun h => h)
theorem heap3_2 (w : World) (a b c : Obj) : (((w.alloc a).alloc b).alloc c).heap[w.heap.size + 1]? = some b := by
  have h := heap_alloc_new (w.alloc a) b
  rw [World.size_alloc] at h
  exact (Fr.alloc _ c).heap h (fun h => h)
theorem heap3_3 (w : World) (a b c : Obj) : (((w.alloc a).alloc b).alloc c).heap[w.heap.size + 1 + 1]? = some c := by
  have h := heap_alloc_new ((w.alloc a).alloc b) c
  rw [World.size_alloc, World.size_alloc] at h
  exact h
end Go.Proofs.Ythgajlmhgbhmlaa
