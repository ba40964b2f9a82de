/- The walk of the document's nums: numbers of four bytes. -/
import Derived.Test.YthgajlmhgbhmlaaRp
import Derived.Test.YthgajlmhgbhmlaaRowK
import Derived.Test.YthgajlmhgbhmlaaBRBytes
namespace Go.Proofs.Ythgajlmhgbhmlaa
open Go.RowKit

def u32s (l : List Nat) : List Value := l.map fun n => .int .u32 (n : Nat)
theorem u32s_len (l : List Nat) : (u32s l).length = l.length := by simp [u32s]
def numsB (l : List Nat) : List UInt8 := (l.map fun n => bytesL n 4).flatten
theorem numsB_len (l : List Nat) : (numsB l).length = 4 * l.length := by
  induction l with
  | nil => rfl
  | cons x l ih =>
    have h : numsB (x :: l) = bytesL x 4 ++ numsB l := rfl
    rw [h, List.length_append, bytesL_len, ih, List.length_cons]; omega
theorem numsB_take (l : List Nat) (j : Nat) (h : j < l.length) : numsB (l.take (j + 1)) = numsB (l.take j) ++ bytesL l[j] 4 := by
  rw [List.take_succ_eq_append_getElem h]
  simp only [numsB, List.map_append, List.flatten_append, List.map_cons, List.map_nil, List.flatten_cons, List.flatten_nil, List.append_nil]
theorem rbytes_k (x k : Nat) (w : World) (hx : x < 18446744073709551616) (hk : k ≤ 8) :
    Calls Try.prog 23 #[.int .u64 (x : Nat), .int .i64 (k : Nat)] w fun e w' => ∃ v, e = .returned v ∧ BS w' v (bytesL x k) ∧ Below w.heap.size w w' := by
  have hc := rbytes_any x k w ⟨by omega, by omega⟩
  rw [Int.toNat_natCast, bytesI_n x k hk] at hc
  exact hc
set_option maxHeartbeats 1000000 in
theorem rnums_any (v : Value) (zs : List Nat) (w : World) (hv : SV w v (u32s zs)) (hz : ∀ z ∈ zs, z < 4294967296) (hm : zs.length ≤ 1000) :
    Calls Try.prog 22 #[v] w fun e w' => ∃ u, e = .returned u ∧ w'.ownsRow w.heap.size 5 1 u (4 * zs.length) (c8 (numsB zs)) ∧ Below w.heap.size w w' := by
  obtain ⟨A, c, rfl, h1, h2, h3⟩ := hv
  rw [u32s_len] at h1 ⊢
  have HR := Lib.hid h3
  have HZ := Lib.hid hz
  unfold maxLen at h2
  clear h3 hz
  refine calls_q fun Q HQ => ?_
  go_enter Try.func22, Try.ntmps22
  go_wp2_with fail
  go_loopw [3, 4] (fun out i wr => ∃ j : Nat, j ≤ zs.length ∧ i = .int .i64 j ∧ Below w.heap.size w wr ∧ wr.ownsRow w.heap.size 5 1 out (4 * j) (c8 (numsB (zs.take j)))) (fun _ i _ => zs.length - (intOf i).toNat)
  case atStart => exact ⟨0, Nat.zero_le _, rfl, below_alloc _, own_empty _ _ _ (Nat.le_refl _)⟩
  case round =>
    obtain ⟨j, hj, rfl, hb, ho⟩ := hrel
    obtain ⟨A5, c5, rfl⟩ := own_slice ho
    have HB := Lib.hid hb
    have HO := Lib.hid ho
    clear hb ho
    by_cases hlt : j < zs.length
    · obtain ⟨b, o, rfl, hbl, hc⟩ := HR.out (by rw [u32s_len]; omega)
      have hc0 := hc j (by rw [u32s_len]; omega)
      have hx := HZ.out _ (List.getElem_mem hlt)
      have HT := Lib.hid (numsB_take zs j hlt)
      rw [show (u32s zs)[j]'(by rw [u32s_len]; omega) = .int .u32 ((zs[j] : Nat) : Int) by simp [u32s]] at hc0
      have hc1 := (HB.out.cell (p := ⟨b, o + j, none⟩) (by show b < w.heap.size; omega)).trans hc0
      have hbl2 := Nat.lt_of_lt_of_le hbl HB.out.size
      have h0 : (0 : Int) ≤ (j : Int) := by omega
      have h10 : (j : Int) < (zs.length : Int) := by omega
      generalize zs[j] = x at *
      have hu := u64_id (n := (x : Int)) ⟨by omega, by omega⟩
      clear hc hc0
      go_wp2_with fail
      refine (rbytes_k x 4 wr (by omega) (by decide)).mono ?_
      rintro e w1 ⟨u, rfl, hu1, hb1⟩
      obtain ⟨Au, cu, hue, _, _, hru⟩ := bs_parts hu1
      rw [bytesL_len] at hue
      subst hue
      have HO1 := Lib.hid ((Fr.of hb1).own HO.out (fun _ _ h => h))
      have HB1 := Lib.hid (HB.out.trans (hb1.mono HB.out.size))
      have HU1 := Lib.hid hru
      clear hu1 hb1 hru HO HB
      go_wp2_with (at_builtin; refine wpl_app rfl _ _ 28 rfl w.heap.size 5 (.int .u8 0) 1 Try.underlying28 (by kernel_rfl) rfl _ _ _ rfl HO1.out _ _ _ (c8 (bytesL x 4)) rfl ?p1 (c8_one _) ?p2 ?p3 ?p4 ?p5)
      case p1 => exact src_of (bytesL_len _ _) HU1.out
      case p2 => unfold maxLen; omega
      case p3 => omega
      case p4 => exact HB1.out.size
      case p5 =>
        intro v2 w2 hown hg _
        obtain ⟨A6, c6, rfl⟩ := own_slice hown
        rw [← c8_app, ← HT.out, show 4 * j + 4 = 4 * (j + 1) by omega] at hown
        have HO2 := Lib.hid hown
        have HB2 := Lib.hid (HB1.out.grown hg HB1.out.size (fun k hk => (HO1.out.lt k hk).1))
        clear hown hg
        rw [show 4 * j + 4 = 4 * (j + 1) by omega] at *
        go_wp2_with fail
        go_roundw
        case rel => exact ⟨j + 1, by omega, by go_num, HB2.out, HO2.out⟩
        case measure => simp [intOf]; omega
    · have : j = zs.length := by omega
      subst this
      rw [List.take_length] at HO
      go_wp2_with fail
      exact HQ.out _ _ ⟨_, rfl, HO.out, HB.out⟩
end Go.Proofs.Ythgajlmhgbhmlaa
