/- Windows as data: a greatest number and 64 bits; what they know; what marking does. -/
import Derived.Test.YteoegmfhfejdkaaBNums
namespace Go.Proofs.Yteoegmfhfejdkaa
open Go.RowKit

/-! ### bits (as in BitsRef: never import it beside) -/
theorem bit_div (n i : Nat) : n / 2 ^ i % 2 = (n.testBit i).toNat := by
  rw [Nat.testBit_eq_decide_div_mod_eq]
  have := Nat.mod_lt (n / 2 ^ i) (show 0 < 2 by decide)
  by_cases h : n / 2 ^ i % 2 = 1
  · simp [h]
  · simp [h]; omega
theorem place_bit (a s : Int) (i : Nat) : (placeN a s).testBit i = decide (a.toNat ≤ i ∧ i < a.toNat + s.toNat) := by
  unfold placeN
  rw [Nat.testBit_mul_two_pow, Nat.testBit_two_pow_sub_one]
  rw [Bool.eq_iff_iff]; simp; omega
theorem lay_bit {n v : Nat} {a s : Int} (h : mayB a s = true) {i : Nat} (hi : i < 64) :
    (layN n a s v).testBit i = if a.toNat ≤ i ∧ i < a.toNat + s.toNat then v.testBit (i - a.toNat) else n.testBit i := by
  rw [layN, if_pos h, Nat.testBit_or, andNotN_bit, Nat.testBit_and, place_bit]
  have e : (18446744073709551616 : Nat) = 2 ^ 64 := by decide
  rw [e, Nat.testBit_mod_two_pow, Nat.testBit_mul_two_pow]
  by_cases hc : a.toNat ≤ i ∧ i < a.toNat + s.toNat
  · simp [hc, hi]
  · rw [if_neg hc]; simp only [hi, decide_true, Bool.true_and, hc, decide_false, Bool.not_false, Bool.and_true, Bool.and_false, Bool.or_false]
theorem layN_lt {n v : Nat} {a s : Int} (hn : n < 18446744073709551616) : layN n a s v < 18446744073709551616 := by
  by_cases h : mayB a s = true
  · rw [layN, if_pos h]
    have h1 := andNotN_lt n (placeN a s)
    have h2 : ((v * 2 ^ a.toNat % 18446744073709551616) &&& placeN a s) < 18446744073709551616 := Nat.lt_of_le_of_lt Nat.and_le_left (Nat.mod_lt _ (by decide))
    exact Nat.or_lt_two_pow (n := 64) (by omega) (by omega)
  · rw [layN, if_neg h]; exact hn
theorem bits_ext {a b : Nat} (ha : a < 18446744073709551616) (hb : b < 18446744073709551616) (h : ∀ i, i < 64 → a.testBit i = b.testBit i) : a = b := by
  apply Nat.eq_of_testBit_eq
  intro i
  by_cases hi : i < 64
  · exact h i hi
  · rw [bit_hi ha (by omega), bit_hi hb (by omega)]

/-! ### windows -/
/-- how far a number is below another: 64 for all that is too far -/
def belN (h n : Int) : Int := if n ≤ h ∧ h - n < 64 then h - n else 64
/-- does a window know a number? -/
def knowB (h : Int) (b : Nat) (m : Int) : Bool := decide (m ≤ h ∧ h - m < 64) && b.testBit (h - m).toNat
/-- the bits of the window that knows a number, too -/
def markB (h : Int) (b : Nat) (n : Int) : Nat :=
  if h < n then layN 1 (belN n h) (64 - belN n h) b else layN b (belN h n) 1 1
theorem markB_lt {h n : Int} {b : Nat} (hb : b < 18446744073709551616) : markB h b n < 18446744073709551616 := by
  unfold markB; split
  · exact layN_lt (by decide)
  · exact layN_lt hb
theorem one_bit (i : Nat) : (1 : Nat).testBit i = decide (i = 0) := by
  rw [Bool.eq_iff_iff]; simp [Nat.testBit_one_eq_true_iff_self_eq_zero]
theorem mark_know {h n : Int} {b : Nat} (m : Int) :
    knowB (max h n) (markB h b n) m = (decide (max h n - m < 64) && (decide (m = n) || knowB h b m)) := by
  unfold markB belN
  by_cases hn : h < n
  · rw [if_pos hn, Int.max_eq_right (by omega)]
    unfold knowB
    by_cases c : m ≤ n ∧ n - m < 64
    · rw [decide_eq_true c, Bool.true_and, decide_eq_true c.2, Bool.true_and]
      by_cases c2 : h ≤ n ∧ n - h < 64
      · rw [if_pos c2, lay_bit (by rw [may_iff]; omega) (by omega)]
        by_cases c3 : m = n
        · subst c3
          rw [if_neg (by omega)]
          simp
        · by_cases c4 : m ≤ h
          · rw [if_pos (by omega), decide_eq_false c3, Bool.false_or, decide_eq_true (by omega), Bool.true_and]
            congr 1; omega
          · rw [if_neg (by omega), one_bit, decide_eq_false (by omega), decide_eq_false c3, decide_eq_false (by omega)]; rfl
      · rw [if_neg c2, layN, if_neg (by rw [may_iff]; omega), one_bit]
        rw [decide_eq_false (p := m ≤ h ∧ h - m < 64) (by omega), Bool.false_and, Bool.or_false]
        rw [Bool.eq_iff_iff]; simp; omega
    · rw [decide_eq_false c, Bool.false_and]
      by_cases c3 : n - m < 64
      · rw [decide_eq_false (p := m = n) (by omega), decide_eq_false (p := m ≤ h ∧ h - m < 64) (by omega)]; simp
      · rw [decide_eq_false c3]; rfl
  · rw [if_neg hn, Int.max_eq_left (by omega)]
    unfold knowB
    by_cases c : m ≤ h ∧ h - m < 64
    · rw [decide_eq_true c, Bool.true_and, decide_eq_true c.2, Bool.true_and, Bool.true_and]
      by_cases c2 : n ≤ h ∧ h - n < 64
      · rw [if_pos c2, lay_bit (by rw [may_iff]; omega) (by omega)]
        by_cases c3 : m = n
        · subst c3
          rw [if_pos (by omega)]
          simp
        · rw [if_neg (by omega), decide_eq_false c3, Bool.false_or]
      · rw [if_neg c2, layN, if_neg (by rw [may_iff]; omega), decide_eq_false (p := m = n) (by omega), Bool.false_or]
    · rw [decide_eq_false c, Bool.false_and, Bool.false_and]
      by_cases c3 : h - m < 64
      · rw [decide_eq_false (p := m = n) (by omega)]; simp
      · rw [decide_eq_false c3]; rfl
theorem know_ext {h : Int} {a b : Nat} (ha : a < 18446744073709551616) (hb : b < 18446744073709551616) (hk : ∀ m, knowB h a m = knowB h b m) : a = b := by
  refine bits_ext ha hb fun i hi => ?_
  have h1 := hk (h - i)
  unfold knowB at h1
  have e : (h - (h - (i : Int))).toNat = i := by omega
  rwa [decide_eq_true (by omega), Bool.true_and, Bool.true_and, e] at h1
theorem know_high {h : Int} {b : Nat} (hb : b % 2 = 1) : knowB h b h = true := by
  unfold knowB
  rw [decide_eq_true (by omega), Bool.true_and, show (h - h).toNat = 0 by omega]
  simp [Nat.testBit_zero, hb]
theorem high_know {h : Int} {b : Nat} (hb : knowB h b h = true) : b % 2 = 1 := by
  unfold knowB at hb
  rw [decide_eq_true (by omega), Bool.true_and, show (h - h).toNat = 0 by omega] at hb
  simpa [Nat.testBit_zero] using hb
theorem mark_odd {h n : Int} {b : Nat} (hb : b % 2 = 1) : markB h b n % 2 = 1 := by
  refine high_know (h := max h n) ?_
  rw [mark_know, decide_eq_true (by omega), Bool.true_and]
  by_cases c : n ≤ h
  · rw [show max h n = h by omega, know_high hb, Bool.or_true]
  · rw [decide_eq_true (by omega), Bool.true_or]
/-- to mark what is known changes nothing, and only that, of all that is near -/
theorem mark_same {h n : Int} {b : Nat} (hb : b < 18446744073709551616) (hn : n ≤ h) (hf : h - n < 64) : decide (markB h b n = b) = knowB h b n := by
  have hm := mark_know (h := h) (n := n) (b := b)
  rw [show max h n = h by omega] at hm
  by_cases hk : knowB h b n = true
  · rw [hk, decide_eq_true_eq]
    refine know_ext (h := h) (markB_lt hb) hb fun m => ?_
    rw [hm]
    by_cases c : m = n
    · subst c; rw [hk, Bool.or_true, Bool.and_true, decide_eq_true hf]
    · rw [decide_eq_false c, Bool.false_or]
      unfold knowB
      by_cases c2 : h - m < 64
      · rw [decide_eq_true c2, Bool.true_and]
      · rw [decide_eq_false c2, decide_eq_false (by omega)]; rfl
  · have hk : knowB h b n = false := by simpa using hk
    rw [hk, decide_eq_false_iff_not]
    intro e
    have := hm n
    rw [e, hk, decide_eq_true hf, decide_eq_true rfl] at this
    cases this
/-- how many numbers a window knows -/
def manyB (b : Nat) : Nat := (List.range 64).countP fun k => b.testBit k
theorem many_step (b k : Nat) : (List.range (k + 1)).countP (fun k => b.testBit k) = (List.range k).countP (fun k => b.testBit k) + b / 2 ^ k % 2 := by
  rw [List.range_succ, List.countP_append, bit_div]
  cases h : b.testBit k <;> simp [h]
theorem many_le (b k : Nat) : (List.range k).countP (fun k => b.testBit k) ≤ k := by
  have := List.countP_le_length (p := fun k => b.testBit k) (l := List.range k)
  simpa using this
theorem many_pos {b : Nat} (hb : b % 2 = 1) : 1 ≤ manyB b := by
  refine List.countP_pos_iff.2 ⟨0, by simp, ?_⟩
  simp [Nat.testBit_zero, hb]
theorem mark_mod {h n : Int} {b j : Nat} (hj : j < 64) :
    markB h b n / 2 ^ j % 2 = if max h n - j = n ∨ knowB h b (max h n - j) = true then 1 else 0 := by
  rw [bit_div]
  have hm := mark_know (h := h) (n := n) (b := b) (max h n - j)
  have e : (max h n - (max h n - (j : Int))).toNat = j := by omega
  rw [decide_eq_true (by omega), Bool.true_and] at hm
  unfold knowB at hm
  rw [decide_eq_true (by omega), Bool.true_and, e] at hm
  rw [hm]
  unfold knowB
  split <;> next h => simp_all
end Go.Proofs.Yteoegmfhfejdkaa
