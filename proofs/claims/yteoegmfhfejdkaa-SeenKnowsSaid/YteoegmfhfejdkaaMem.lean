/- Slices of bytes as lists, and what becomes of them when the world grows. -/
import Derived.Test.YteoegmfhfejdkaaBase
import Derived.Below
import Derived.Deep.Draws
namespace Go.Proofs.Yteoegmfhfejdkaa
open Go.RowKit

theorem below_drewN {B : Nat} {a w : World} (h : Below B a w) (n : Nat) : Below B a (w.drewN n) := ⟨h.os, h.tape, h.output, h.size, h.block⟩
/-- the cells from a place on are these bytes -/
def Row8 (w : World) (A : Option Addr) (l : List UInt8) : Prop :=
  0 < l.length → ∃ b o, A = some ⟨b, o, none⟩ ∧ b < w.heap.size ∧ ∀ j (h : j < l.length), w.cell? ⟨b, o + j, none⟩ = some (.int .u8 (l[j].toNat : Nat))
/-- a slice of bytes reads as a list -/
def BS (w : World) (v : Value) (l : List UInt8) : Prop :=
  ∃ A c, v = .slice A l.length c ∧ l.length ≤ c ∧ c ≤ maxLen ∧ Row8 w A l
theorem Row8.below {w w' : World} {A : Option Addr} {l : List UInt8} (h : Row8 w A l) {B : Nat} (hB : w.heap.size ≤ B) (hb : Below B w w') : Row8 w' A l := fun hp => by
  obtain ⟨b, o, rfl, hlt, hc⟩ := h hp
  exact ⟨b, o, rfl, Nat.lt_of_lt_of_le hlt hb.size, fun j hj => (hb.cell (p := ⟨b, o + j, none⟩) (by show b < B; omega)).trans (hc j hj)⟩
theorem BS.below {w w' : World} {v : Value} {l : List UInt8} (h : BS w v l) (hb : Below w.heap.size w w') : BS w' v l := by
  obtain ⟨A, c, rfl, h1, h2, h3⟩ := h
  exact ⟨A, c, rfl, h1, h2, h3.below (Nat.le_refl _) hb⟩
theorem BS.drewN {w : World} {v : Value} {l : List UInt8} (h : BS w v l) (n : Nat) : BS (w.drewN n) v l := h
theorem BS.nil (w : World) : BS w (.slice none 0 0) [] := ⟨none, 0, rfl, Nat.le_refl _, Nat.zero_le _, fun h => absurd h (by simp)⟩
theorem Row8.drop {w : World} {A : Option Addr} {l : List UInt8} (h : Row8 w A l) (k : Nat) : Row8 w (A.map (fun x => x.add k)) (l.drop k) := fun hp => by
  have hlen : (l.drop k).length = l.length - k := by simp
  obtain ⟨b, o, rfl, hlt, hc⟩ := h (by omega)
  refine ⟨b, o + k, ?_, hlt, fun j hj => ?_⟩
  · simp only [Option.map_some, Addr.add]
    by_cases h0 : k = 0
    · simp [h0]
    · simp [h0]
  · rw [List.getElem_drop, Nat.add_assoc]
    exact hc (k + j) (by omega)
theorem BS.len {w : World} {v : Value} {l : List UInt8} (h : BS w v l) : l.length ≤ 9223372036854775807 := by
  obtain ⟨A, c, rfl, h1, h2, h3⟩ := h
  unfold maxLen at h2; omega

theorem run_make1 {P : Program} {t e : TypeId} {z : Value} {bytes : Nat} (ht : P.underlying t = some (.slice e)) (hi : (P.info? e).map (fun i => (i.zero, i.size, i.bytes)) = some (some z, 1, bytes))
    (hz : z.cells = #[z]) (n c : Nat) (hnc : n ≤ c) (hb : bytes * c ≤ 281474976710656) (h63 : c ≤ 9223372036854775807) (w : World) :
    (Instr.makeSlice t (.int .i64 (n : Int)) (.int .i64 (c : Int))).run P w = .ok (.slice (some ⟨w.heap.size, 0, none⟩) n c) (w.alloc (.cells (Array.replicate c z) e)) := by
  obtain ⟨i, hi, hz0, hs, hby⟩ := info_parts hi
  have hb' : (i.bytes : Int) * (c : Int) ≤ 281474976710656 := by
    rw [hby, ← Int.natCast_mul]; omega
  have h := run_make (P := P) w t e i z ht hi hz0 .i64 .i64 n c (by omega) (by omega) hb' (by omega)
  rw [h, hs, hz]
  have e1 : madeCells #[z] (c * 1) = Array.replicate c z := by
    apply Array.ext
    · simp [madeCells]
    · intro k h1 h2
      simp [madeCells]
      have : k % 1 = 0 := Nat.mod_one k
      simp [this]
  simp only [Int.toNat_natCast]
  rw [e1]
/-- a block of bytes just made -/
theorem BS.made (w : World) (cs : Array Value) (l : List UInt8) (t : TypeId) (hm : l.length ≤ maxLen)
    (h : ∀ i (hi : i < l.length), cs[i]? = some (.int .u8 (l[i].toNat : Nat))) : BS (w.alloc (.cells cs t)) (.slice (some ⟨w.heap.size, 0, none⟩) l.length l.length) l := by
  refine ⟨_, _, rfl, Nat.le_refl _, hm, fun hp => ⟨w.heap.size, 0, rfl, by simp, fun j hj => ?_⟩⟩
  rw [cell_of_row _ w.heap.size (0 + j) cs t (0, 0) (heap_alloc_new w _), Nat.zero_add]
  exact h j hj
/-- the number whose bytes these are, the highest first -/
def beN (l : List UInt8) : Nat := l.foldl (fun n x => n * 256 + x.toNat) 0
theorem beN_nil : beN [] = 0 := rfl
theorem beN_snoc (l : List UInt8) (x : UInt8) : beN (l ++ [x]) = beN l * 256 + x.toNat := by simp [beN]
theorem take_snoc8 (l : List UInt8) (k : Nat) (h : k < l.length) : l.take (k + 1) = l.take k ++ [l[k]] := by
  rw [List.take_succ_eq_append_getElem h]
theorem beN_take (l : List UInt8) (k : Nat) (h : k < l.length) : beN (l.take (k + 1)) = beN (l.take k) * 256 + l[k].toNat := by
  rw [take_snoc8 l k h, beN_snoc]
theorem beN_append (a b : List UInt8) : beN (a ++ b) = beN a * 256 ^ b.length + beN b := by
  have h : ∀ (b : List UInt8) (a : List UInt8), beN (a ++ b) = beN a * 256 ^ b.length + beN b := by
    intro b
    induction b with
    | nil => intro a; simp [beN]
    | cons x xs ih =>
      intro a
      have h1 := ih (a ++ [x])
      have h2 := ih [x]
      simp only [List.append_assoc, List.cons_append, List.nil_append] at h1 h2
      rw [h1, h2, beN_snoc, List.length_cons, Nat.pow_succ]
      have h3 : beN [x] = x.toNat := by simp [beN]
      rw [h3, Nat.add_mul, Nat.mul_assoc, Nat.mul_comm 256, Nat.add_assoc]
  exact h b a
theorem beN_lt (l : List UInt8) : beN l < 256 ^ l.length := by
  induction l with
  | nil => decide
  | cons x xs ih =>
    have h := beN_append [x] xs
    simp only [List.cons_append, List.nil_append] at h
    rw [h, List.length_cons, Nat.pow_succ]
    have h3 : beN [x] = x.toNat := by simp [beN]
    have h4 := UInt8.toNat_lt x
    rw [h3]
    have h5 : x.toNat * 256 ^ xs.length ≤ 255 * 256 ^ xs.length := Nat.mul_le_mul_right _ (by omega)
    omega
end Go.Proofs.Yteoegmfhfejdkaa
