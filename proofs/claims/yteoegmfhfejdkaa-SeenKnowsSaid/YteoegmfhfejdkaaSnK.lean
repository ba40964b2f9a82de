/- Windows after some numbers were marked; how many of these are near. -/
import Derived.Test.YteoegmfhfejdkaaSnC
namespace Go.Proofs.Yteoegmfhfejdkaa
open Go.RowKit
/-- the window of these numbers -/
structure Wk (l : List Int) (H : Int) (B : Nat) : Prop where
  lt : B < 18446744073709551616
  mem : H ∈ l
  top : ∀ x ∈ l, x ≤ H
  rng : ∀ x ∈ l, Nr x
  know : ∀ x, knowB H B x = (decide (H - x < 64) && decide (x ∈ l))
theorem Wk.one {m : Int} (hm : Nr m) : Wk [m] m 1 := by
  refine ⟨by decide, by simp, fun x hx => ?_, fun x hx => ?_, fun x => ?_⟩
  · simp only [List.mem_singleton] at hx; omega
  · simp only [List.mem_singleton] at hx; subst hx; exact hm
  · unfold knowB
    rw [one_bit, Bool.eq_iff_iff]
    simp
    omega
theorem Wk.mark {l : List Int} {H : Int} {B : Nat} (S : Wk l H B) {m : Int} (hm : Nr m) : Wk (l ++ [m]) (max H m) (markB H B m) := by
  refine ⟨markB_lt S.lt, ?_, fun x hx => ?_, fun x hx => ?_, fun x => ?_⟩
  · by_cases c : m ≤ H
    · rw [Int.max_eq_left c]; exact List.mem_append_left _ S.mem
    · rw [Int.max_eq_right (by omega)]; simp
  · rcases List.mem_append.1 hx with h | h
    · have := S.top x h; omega
    · simp only [List.mem_singleton] at h; omega
  · rcases List.mem_append.1 hx with h | h
    · exact S.rng x h
    · simp only [List.mem_singleton] at h; subst h; exact hm
  · rw [mark_know, S.know, Bool.eq_iff_iff]
    simp
    intro h1
    constructor
    · rintro (h | ⟨_, h⟩)
      · exact Or.inr h
      · exact Or.inl h
    · rintro (h | h)
      · exact Or.inr ⟨by omega, h⟩
      · exact Or.inl h
theorem Wk.odd {l : List Int} {H : Int} {B : Nat} (S : Wk l H B) : B % 2 = 1 := by
  refine high_know (h := H) ?_
  rw [S.know, decide_eq_true S.mem, decide_eq_true (by omega)]; rfl
/-- how many places of a window these numbers take -/
def cntK (l : List Int) (H : Int) : Nat := (List.range 64).countP fun (k : Nat) => decide (H - (k : Int) ∈ l)
theorem countP_add (p : Nat → Bool) (k0 : Nat) (hp : p k0 = false) (N : Nat) :
    (List.range N).countP (fun k => p k || decide (k = k0)) = (List.range N).countP p + (if k0 < N then 1 else 0) := by
  induction N with
  | zero => simp
  | succ N ih =>
    rw [List.range_succ, List.countP_append, List.countP_append, ih]
    by_cases c : N = k0
    · subst c
      rw [if_neg (by omega), if_pos (by omega)]
      simp [hp]
    · have e : (p N || decide (N = k0)) = p N := by rw [decide_eq_false c, Bool.or_false]
      have e2 : (if k0 < N + 1 then 1 else 0) = (if k0 < N then 1 else 0) := by
        by_cases c2 : k0 < N
        · rw [if_pos c2, if_pos (by omega)]
        · rw [if_neg c2, if_neg (by omega)]
      rw [e2]
      have e3 : List.countP (fun k => p k || decide (k = k0)) [N] = List.countP p [N] := by simp [List.countP_cons, e]
      rw [e3]; omega
theorem cntK_nil (H : Int) : cntK [] H = 0 := by
  unfold cntK
  rw [List.countP_eq_zero]
  simp
theorem cntK_far {l : List Int} {H m : Int} (h : ¬ H - 64 < m) : cntK (l ++ [m]) H = cntK l H := by
  unfold cntK
  refine List.countP_congr fun k hk => ?_
  have := List.mem_range.1 hk
  simp
  omega
theorem cntK_again {l : List Int} {H m : Int} (h : m ∈ l) : cntK (l ++ [m]) H = cntK l H := by
  unfold cntK
  refine List.countP_congr fun k hk => ?_
  simp
  intro e; rw [e]; exact h
theorem cntK_new {l : List Int} {H m : Int} (hm : m ≤ H) (h1 : H - 64 < m) (h2 : ¬ m ∈ l) : cntK (l ++ [m]) H = cntK l H + 1 := by
  unfold cntK
  have e : ∀ k : Nat, H - (k : Int) = m ↔ k = (H - m).toNat := fun k => by omega
  have h := countP_add (fun (k : Nat) => decide (H - (k : Int) ∈ l)) (H - m).toNat (by
    have : H - ((H - m).toNat : Int) = m := by omega
    simp only [this]; simpa using h2) 64
  rw [if_pos (by omega)] at h
  rw [← h]
  refine List.countP_congr fun k hk => ?_
  have := e k
  simp only [List.mem_append, List.mem_singleton, decide_eq_true_eq, Bool.or_eq_true]
  rw [this]
theorem cntK_snoc {l : List Int} {H m : Int} (hm : m ≤ H) : cntK (l ++ [m]) H = cntK l H + (if H - 64 < m ∧ ¬ m ∈ l then 1 else 0) := by
  by_cases c1 : H - 64 < m
  · by_cases c2 : m ∈ l
    · rw [cntK_again c2, if_neg (by simp [c2]), Nat.add_zero]
    · rw [cntK_new hm c1 c2, if_pos ⟨c1, c2⟩]
  · rw [cntK_far c1, if_neg (by simp [c1]), Nat.add_zero]
theorem came_snoc {l : List Int} {H n m : Int} : (decide (H - n < 64) && decide (n ∈ l ++ [m])) = ((decide (H - n < 64) && decide (n ∈ l)) || (decide (m = n) && decide (H - 64 < m))) := by
  rw [Bool.eq_iff_iff]
  simp
  constructor
  · rintro ⟨h1, h2 | h2⟩
    · exact Or.inl ⟨h1, h2⟩
    · subst h2; exact Or.inr ⟨rfl, by omega⟩
  · rintro (⟨h1, h2⟩ | ⟨h1, h2⟩)
    · exact ⟨h1, Or.inl h2⟩
    · subst h1; exact ⟨by omega, Or.inr rfl⟩
theorem mem_snoc {l : List Int} {m k : Int} : decide (m ∈ l ++ [k]) = (decide (m ∈ l) || decide (k = m)) := by
  rw [Bool.eq_iff_iff, Bool.or_eq_true, decide_eq_true_eq, decide_eq_true_eq, decide_eq_true_eq, List.mem_append, List.mem_singleton]
  constructor
  · rintro (h | h)
    · exact Or.inl h
    · exact Or.inr h.symm
  · rintro (h | h)
    · exact Or.inl h
    · exact Or.inr h.symm
theorem Wk.many {l : List Int} {H : Int} {B : Nat} (S : Wk l H B) : manyB B = cntK l H := by
  unfold manyB cntK
  refine List.countP_congr fun k hk => ?_
  have hk := List.mem_range.1 hk
  have h := S.know (H - k)
  unfold knowB at h
  rw [decide_eq_true (by omega), Bool.true_and, decide_eq_true (by omega), Bool.true_and, show (H - (H - (k : Int))).toNat = k by omega] at h
  rw [h]
theorem cntK_le (l : List Int) (H : Int) : cntK l H ≤ 64 := by
  have := List.countP_le_length (p := fun k : Nat => decide (H - (k : Int) ∈ l)) (l := List.range 64)
  simpa [cntK] using this
end Go.Proofs.Yteoegmfhfejdkaa
