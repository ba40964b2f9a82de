/- Slices of one-cell elements as lists of values; slices of numbers that come in. -/
import Derived.Test.YteoegmfhfejdkaaMem
import Derived.ProofKit
import Derived.OpenShut
import Derived.ChangeOld
namespace Go.Proofs.Yteoegmfhfejdkaa
open Go.ChangeShapes Go.WideShapes Go.ChangeAt Go.RowKit

/-- the cells from a place on are these values -/
def RowV (w : World) (A : Option Addr) (l : List Value) : Prop :=
  0 < l.length → ∃ b o, A = some ⟨b, o, none⟩ ∧ b < w.heap.size ∧ ∀ j (h : j < l.length), w.cell? ⟨b, o + j, none⟩ = some l[j]
/-- a slice of one-cell elements reads as a list -/
def SV (w : World) (v : Value) (l : List Value) : Prop :=
  ∃ A c, v = .slice A l.length c ∧ l.length ≤ c ∧ c ≤ maxLen ∧ RowV w A l
theorem RowV.below {w w' : World} {A : Option Addr} {l : List Value} (h : RowV w A l) {B : Nat} (hB : w.heap.size ≤ B) (hb : Below B w w') : RowV w' A l := fun hp => by
  obtain ⟨b, o, rfl, hlt, hc⟩ := h hp
  exact ⟨b, o, rfl, Nat.lt_of_lt_of_le hlt hb.size, fun j hj => (hb.cell (p := ⟨b, o + j, none⟩) (by show b < B; omega)).trans (hc j hj)⟩
theorem SV.below {w w' : World} {v : Value} {l : List Value} (h : SV w v l) (hb : Below w.heap.size w w') : SV w' v l := by
  obtain ⟨A, c, rfl, h1, h2, h3⟩ := h
  exact ⟨A, c, rfl, h1, h2, h3.below (Nat.le_refl _) hb⟩
theorem SV.drewN {w : World} {v : Value} {l : List Value} (h : SV w v l) (n : Nat) : SV (w.drewN n) v l := h
theorem SV.nil (w : World) : SV w (.slice none 0 0) [] := ⟨none, 0, rfl, Nat.le_refl _, Nat.zero_le _, fun h => absurd h (by simp)⟩
theorem SV.len {w : World} {v : Value} {l : List Value} (h : SV w v l) : l.length ≤ 9223372036854775807 := by
  obtain ⟨A, c, rfl, h1, h2, h3⟩ := h
  unfold maxLen at h2; omega
/-- numbers of a kind as values -/
def ints (k : IntKind) (zs : List Int) : List Value := zs.map (.int k)
theorem ints_len (k : IntKind) (zs : List Int) : (ints k zs).length = zs.length := by simp [ints]
theorem RowV.add {x : Addr} {j : Nat} (h : x.spot = none) : x.add j = ⟨x.block, x.off + j, none⟩ := by
  obtain ⟨b, o, sp⟩ := x
  obtain rfl : sp = none := h
  unfold Addr.add; split
  · next h0 => subst h0; rfl
  · rfl
theorem open_intsV {H : Type} {enc : TypeId × Value → H} {P : Program} {t e : TypeId} {k : IntKind} {W : World} {base : Nat} {v : Value} {d : DataW H} {p : List MemPlace}
    (ht : P.underlying t = some (.slice e)) (he : P.underlying e = some (.int k)) (hc : P.cellsOf e = 1) (hval : Value.okWide P W .any base t v)
    (h : DataW.Trod enc P W 0 (fun _ => true) true t v d p) : ∃ zs : List Int, SV W v (ints k zs) ∧ ∀ z ∈ zs, (Lit.int k z).wf = true := by
  obtain ⟨A, len, cap, rfl⟩ := okWide_slice ht hval
  obtain ⟨fuel, hf⟩ := h
  rcases open_ints ht he hc hf with ⟨hcs, _⟩ | ⟨x, n, c, zs, hcs, _, hl, hm, hz, _, hcell, hwz⟩
  · simp [Value.cells] at hcs
    obtain ⟨rfl, rfl, rfl⟩ := hcs
    exact ⟨[], SV.nil W, by simp⟩
  · simp [Value.cells] at hcs
    obtain ⟨rfl, rfl, rfl⟩ := hcs
    have hz' : zs.length = cap := by simpa using hz
    refine ⟨zs.take len, ?_, fun z hz => hwz z (List.mem_of_mem_take hz)⟩
    have hll : (ints k (zs.take len)).length = len := by simp [ints]; omega
    refine ⟨some x, cap, by rw [hll], by rw [hll]; exact hl, hm, fun hp => ?_⟩
    rw [hll] at hp
    have h0 := hcell 0 (by omega)
    have hx0 : x.add 0 = x := by simp [Addr.add]
    rw [hx0] at h0
    have hsp : x.spot = none := World.cell?_spot h0
    have hlt : x.block < W.heap.size := by
      rcases Nat.lt_or_ge x.block W.heap.size with h1 | h1
      · exact h1
      · unfold World.cell? at h0; rw [Array.getElem?_eq_none h1] at h0; cases h0
    refine ⟨x.block, x.off, by obtain ⟨b, o, sp⟩ := x; obtain rfl : sp = none := hsp; rfl, hlt, fun j hj => ?_⟩
    rw [hll] at hj
    have hj' := hcell j (by omega)
    rw [RowV.add hsp] at hj'
    rw [hj']
    have hg : zs.getD j 0 = zs[j]'(by omega) := by simp [List.getD, List.getElem?_eq_getElem (show j < zs.length by omega)]
    rw [hg]
    simp [ints, List.getElem_take]
/-- a number of so many -/
structure Fits (m n : Int) : Prop where
  lo : 0 ≤ n
  hi : n < m
theorem fits_u8 {n : Int} (h : (Lit.int .u8 n).wf = true) : Fits 256 n := by
  simp [Lit.wf, IntKind.min, IntKind.max, IntKind.bits, IntKind.signed] at h; exact ⟨by omega, by omega⟩
theorem fits_u16 {n : Int} (h : (Lit.int .u16 n).wf = true) : Fits 65536 n := by
  simp [Lit.wf, IntKind.min, IntKind.max, IntKind.bits, IntKind.signed] at h; exact ⟨by omega, by omega⟩
theorem fits_u32 {n : Int} (h : (Lit.int .u32 n).wf = true) : Fits 4294967296 n := by
  simp [Lit.wf, IntKind.min, IntKind.max, IntKind.bits, IntKind.signed] at h; exact ⟨by omega, by omega⟩
theorem rng_i16 {n : Int} (h : (Lit.int .i16 n).wf = true) : -32768 ≤ n ∧ n ≤ 32767 := by
  simpa [Lit.wf, IntKind.min, IntKind.max, IntKind.bits, IntKind.signed] using h
theorem rng_i64 {n : Int} (h : (Lit.int .i64 n).wf = true) : -9223372036854775808 ≤ n ∧ n ≤ 9223372036854775807 := by
  simpa [Lit.wf, IntKind.min, IntKind.max, IntKind.bits, IntKind.signed] using h
end Go.Proofs.Yteoegmfhfejdkaa
