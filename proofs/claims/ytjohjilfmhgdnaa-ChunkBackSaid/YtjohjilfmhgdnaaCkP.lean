/- What reading a chunk tells. -/
import Derived.Test.YtjohjilfmhgdnaaCk
import Derived.Test.YtjohjilfmhgdnaaWireR
namespace Go.Proofs.Ytjohjilfmhgdnaa
open Go.RowKit

/-! ### what reading tells -/
def stL (L : List UInt8) : List UInt8 := rawR 2 (rawR 1 (rawR 1 L))
def stE (L : List UInt8) : Int := rawE 2 (rawR 1 (rawR 1 L)) (rawE 1 (rawR 1 L) (rawE 1 L 0))
def fstN (L : List UInt8) : Nat := rdN 1 L
def typN (L : List UInt8) : Nat := rdN 1 (rawR 1 L)
def lenN (L : List UInt8) : Nat := 4 * rdN 2 (rawR 1 (rawR 1 L))
def fmL (f : Nat) (L : List UInt8) : List UInt8 := if f / 64 % 4 = 2 then L else []
def fmE (f : Nat) (e : Int) : Int := if f / 64 % 4 = 2 then e else wrongE e 2
def lastB (B : List UInt8) : Nat := (B.getD (B.length - 1) 0).toNat
def padBad (B L : List UInt8) : Bool := decide (0 < L.length) || decide (lastB B = 0) || decide (lastB B % 4 ≠ 0) || decide (B.length < lastB B)
def upB (B L : List UInt8) : List UInt8 := if padBad B L then [] else B.take (B.length - lastB B)
def upL (B L : List UInt8) : List UInt8 := if padBad B L then [] else L
def upE (B L : List UInt8) (e : Int) : Int := if padBad B L then wrongE e 2 else e
/-- behind the form -/
def bdB (L : List UInt8) : List UInt8 := rawL (lenN L) (fmL (fstN L) (stL L))
def bdL (L : List UInt8) : List UInt8 := rawR (lenN L) (fmL (fstN L) (stL L))
def bdE (L : List UInt8) : Int := rawE (lenN L) (fmL (fstN L) (stL L)) (fmE (fstN L) (stE L))
def isPad (L : List UInt8) : Bool := decide (fstN L / 32 % 2 = 1)
def rdB (L : List UInt8) : List UInt8 := if isPad L then upB (bdB L) (bdL L) else bdB L
def rdL (L : List UInt8) : List UInt8 := if isPad L then upL (bdB L) (bdL L) else bdL L
def rdE (L : List UInt8) : Int := if isPad L then upE (bdB L) (bdL L) (bdE L) else bdE L
def rdD (L : List UInt8) : DC := (fstN L % 32, typN L, rdB L)
/-! ### of few bytes -/
theorem raw_nil (n : Nat) : rawR n [] = [] ∧ rawL n [] = [] := by
  constructor <;> simp [rawR, rawL]
theorem rawE_three (n : Nat) (l : List UInt8) : rawE n l 3 = 3 := by simp [rawE]
theorem rawE_nz (n : Nat) (l : List UInt8) (e : Int) (h : e ≠ 0) : rawE n l e = e := by simp [rawE, h]
theorem st_short (L : List UInt8) (h : L.length < 4) : stE L = 3 ∧ stL L = [] := by
  match L, h with
  | [], _ => simp [stE, stL, rawE, rawR]
  | [a], _ => simp [stE, stL, rawE, rawR]
  | [a, b], _ => simp [stE, stL, rawE, rawR]
  | [a, b, c], _ => simp [stE, stL, rawE, rawR]
theorem fmL_nil (f : Nat) : fmL f [] = [] := by simp [fmL]
theorem up_nz (B L : List UInt8) (e : Int) (he : e ≠ 0) : upE B L e = e := by
  unfold upE wrongE; simp [he]
theorem rd_short (L : List UInt8) (h : L.length < 4) : rdE L = 3 ∧ rdL L = [] := by
  obtain ⟨h1, h2⟩ := st_short L h
  have e1 : fmE (fstN L) (stE L) = 3 := by rw [h1, fmE]; split <;> rfl
  have e2 : bdE L = 3 := by rw [bdE, e1, rawE_three]
  have e3 : bdL L = [] := by rw [bdL, h2, fmL_nil, (raw_nil _).1]
  refine ⟨?_, ?_⟩
  · rw [rdE]; split
    · rw [e2, up_nz _ _ _ (by decide)]
    · exact e2
  · rw [rdL]; split
    · rw [e3, upL]; split <;> rfl
    · exact e3
theorem rd_four (a b c d : UInt8) (M : List UInt8) : fstN (a :: b :: c :: d :: M) = a.toNat ∧ typN (a :: b :: c :: d :: M) = b.toNat ∧ lenN (a :: b :: c :: d :: M) = 4 * (256 * c.toNat + d.toNat) ∧ stL (a :: b :: c :: d :: M) = M ∧ stE (a :: b :: c :: d :: M) = 0 := by
  refine ⟨?_, ?_, ?_, ?_, ?_⟩
  · simp [fstN, rdN, rawL, beN]
  · simp [typN, rdN, rawL, rawR, beN]
  · simp [lenN, rdN, rawL, rawR, beN]; omega
  · simp [stL, rawR]
  · simp [stE, rawR, rawE]
theorem four_of (L : List UInt8) (h : ¬ L.length < 4) : ∃ a b c d M, L = a :: b :: c :: d :: M := by
  match L with
  | [] => exact absurd (by decide) h
  | [_] => exact absurd (by simp) h
  | [_, _] => exact absurd (by simp) h
  | [_, _, _] => exact absurd (by simp) h
  | a :: b :: c :: d :: M => exact ⟨a, b, c, d, M, rfl⟩
/-- what is left is nothing, where anything went wrong -/
theorem rd_wrong (L : List UInt8) (h : rdE L ≠ 0) : rdL L = [] := by
  by_cases h4 : L.length < 4
  · exact (rd_short L h4).2
  · obtain ⟨a, b, c, d, M, rfl⟩ := four_of L h4
    obtain ⟨f1, f2, f3, f4, f5⟩ := rd_four a b c d M
    have key : bdE (a :: b :: c :: d :: M) ≠ 0 → bdL (a :: b :: c :: d :: M) = [] := by
      intro hb
      rw [bdE, f1, f3, f4, f5] at hb
      rw [bdL, f1, f3, f4]
      unfold fmL fmE at *
      by_cases hf : a.toNat / 64 % 4 = 2
      · rw [if_pos hf, if_pos hf] at hb
        rw [if_pos hf]
        unfold rawE at hb
        unfold rawR
        split
        · next hx => rw [if_pos hx] at hb; exact absurd rfl hb
        · rfl
      · rw [if_neg hf, (raw_nil _).1]
    rw [rdE] at h
    rw [rdL]
    cases hp : isPad (a :: b :: c :: d :: M)
    · rw [hp] at h
      exact key (by simpa using h)
    · rw [hp] at h
      simp only [if_true] at h ⊢
      unfold upE at h
      unfold upL
      cases hq : padBad (bdB (a :: b :: c :: d :: M)) (bdL (a :: b :: c :: d :: M))
      · rw [hq] at h
        exact key (by simpa using h)
      · rfl
/-- where nothing went wrong: the chunk may be, and what its bytes are -/
theorem rd_fine (L : List UInt8) (h : rdE L = 0) (h200 : L.length ≤ 200) :
    rightC (rdD L) = true ∧ okC (rdD L) ∧ (encC (rdD L)).length + (rdL L).length ≤ L.length ∧ ((encC (rdD L)).length + (rdL L).length = L.length → encC (rdD L) ++ rdL L = L) := by
  by_cases h4 : L.length < 4
  · rw [(rd_short L h4).1] at h; exact absurd h (by decide)
  · obtain ⟨a, b, c, d, M, rfl⟩ := four_of L h4
    obtain ⟨f1, f2, f3, f4, f5⟩ := rd_four a b c d M
    have ha := UInt8.toNat_lt a
    have hb := UInt8.toNat_lt b
    have hc := UInt8.toNat_lt c
    have hd := UInt8.toNat_lt d
    simp only [List.length_cons] at h200
    generalize hL : a :: b :: c :: d :: M = L at *
    have hbe : bdE L = 0 := by
      rw [rdE] at h
      split at h
      · unfold upE at h
        split at h
        · unfold wrongE at h; split at h
          · exact absurd h (by decide)
          · exact h
        · exact h
      · exact h
    have hf : a.toNat / 64 % 4 = 2 := by
      rw [bdE, f1, f4, f5, fmE] at hbe
      by_cases hf : a.toNat / 64 % 4 = 2
      · exact hf
      · rw [if_neg hf, rawE_nz _ _ _ (by decide)] at hbe
        exact absurd hbe (by decide)
    have hbL : lenN L ≤ M.length ∧ bdB L = M.take (lenN L) ∧ bdL L = M.drop (lenN L) := by
      rw [bdE, f1, f4, f5, fmE, fmL, if_pos hf, if_pos hf] at hbe
      rw [bdB, bdL, f1, f4, fmL, if_pos hf]
      unfold rawE at hbe
      unfold rawL rawR
      by_cases hx : lenN L ≤ M.length
      · rw [if_pos hx, if_pos hx]; exact ⟨hx, rfl, rfl⟩
      · rw [if_neg hx] at hbe; exact absurd hbe (by decide)
    obtain ⟨b1, b2, b3⟩ := hbL
    have hbl : (bdB L).length = lenN L := by rw [b2]; simp; omega
    have hM4 : lenN L % 4 = 0 := by rw [f3]; omega
    have hlen : L.length = M.length + 4 := by rw [← hL]; simp
    cases hp : isPad L
    · have hnp : a.toNat / 32 % 2 = 0 := by
        unfold isPad at hp; rw [f1] at hp; simp at hp; omega
      have e1 : rdB L = bdB L := by rw [rdB, hp]; rfl
      have e2 : rdL L = bdL L := by rw [rdL, hp]; rfl
      refine ⟨?_, ?_, ?_, ?_⟩
      · rw [right_iffC, rdD]
        simp only [e1, hbl]
        omega
      · show (rdD L).2.1 < 256
        simp only [rdD, f2]; exact hb
      · rw [encC_len, rdD, e2, b3]
        simp only [e1, hbl, List.length_drop]; omega
      · intro _
        rw [encC, rdD, e2, b3]
        simp only [e1, hbl]
        rw [b2, List.append_assoc, List.take_append_drop, headC_eq, f1, f2, f3, ← hL]
        have x1 : UInt8.ofNat (128 + a.toNat % 32) = a := by apply UInt8.toNat_inj.1; rw [UInt8.toNat_ofNat']; omega
        have x2 : UInt8.ofNat b.toNat = b := UInt8.ofNat_toNat
        have x3 : UInt8.ofNat (4 * (256 * c.toNat + d.toNat) / 4 / 256) = c := by apply UInt8.toNat_inj.1; rw [UInt8.toNat_ofNat']; omega
        have x4 : UInt8.ofNat (4 * (256 * c.toNat + d.toNat) / 4) = d := by apply UInt8.toNat_inj.1; rw [UInt8.toNat_ofNat']; omega
        rw [x1, x2, x3, x4]; rfl
    · have hpb : padBad (bdB L) (bdL L) = false := by
        rw [rdE, hp] at h
        simp only [if_true] at h
        unfold upE at h
        cases hq : padBad (bdB L) (bdL L)
        · rfl
        · rw [hq, hbe] at h; exact absurd h (by decide)
      have e1 : rdB L = (bdB L).take ((bdB L).length - lastB (bdB L)) := by rw [rdB, hp, if_pos rfl, upB, hpb]; rfl
      have e2 : rdL L = bdL L := by rw [rdL, hp, if_pos rfl, upL, hpb]; rfl
      simp only [padBad, Bool.or_eq_false_iff, decide_eq_false_iff_not] at hpb
      obtain ⟨⟨⟨p1, p2⟩, p3⟩, p4⟩ := hpb
      have e3 : (rdB L).length = lenN L - lastB (bdB L) := by rw [e1, List.length_take, hbl]; omega
      generalize lastB (bdB L) = k at *
      have e4 : (bdL L).length = 0 := by omega
      refine ⟨?_, ?_, ?_, ?_⟩
      · rw [right_iffC, rdD]
        simp only [e3]
        omega
      · show (rdD L).2.1 < 256
        simp only [rdD, f2]; exact hb
      · rw [encC_len, rdD, e2, e4]
        simp only [e3]; omega
      · intro hx
        rw [encC_len, rdD, e2, e4] at hx
        simp only [e3] at hx; omega
/-- a chunk's bytes, whatever stands behind -/
theorem rd_back (d : DC) (R : List UInt8) (h : rightC d = true) (hk : okC d) : rdD (encC d ++ R) = d ∧ rdL (encC d ++ R) = R ∧ rdE (encC d ++ R) = 0 := by
  obtain ⟨n, y, b⟩ := d
  have hr := right_iffC.1 h
  simp only at hr
  have hy : y < 256 := hk
  obtain ⟨r1, r2, r3⟩ := hr
  have hL : encC (n, y, b) ++ R = UInt8.ofNat (128 + n) :: UInt8.ofNat y :: UInt8.ofNat (b.length / 4 / 256) :: UInt8.ofNat (b.length / 4) :: (b ++ R) := by
    rw [encC, headC_eq]; rfl
  obtain ⟨f1, f2, f3, f4, f5⟩ := rd_four (UInt8.ofNat (128 + n)) (UInt8.ofNat y) (UInt8.ofNat (b.length / 4 / 256)) (UInt8.ofNat (b.length / 4)) (b ++ R)
  rw [← hL] at f1 f2 f3 f4 f5
  rw [UInt8.toNat_ofNat'] at f1 f2
  rw [UInt8.toNat_ofNat', UInt8.toNat_ofNat'] at f3
  generalize encC (n, y, b) ++ R = L at *
  have g3 : lenN L = b.length := by omega
  have hf : fstN L / 64 % 4 = 2 := by omega
  have hp : isPad L = false := by unfold isPad; simp; omega
  have hle : b.length ≤ (b ++ R).length := by simp
  have b1 : bdB L = b := by rw [bdB, f4, fmL, if_pos hf, g3, rawL, if_pos hle]; simp
  have b2 : bdL L = R := by rw [bdL, f4, fmL, if_pos hf, g3, rawR, if_pos hle]; simp
  have b3 : bdE L = 0 := by rw [bdE, f4, f5, fmL, if_pos hf, fmE, if_pos hf, g3, rawE, if_pos hle]
  refine ⟨?_, ?_, ?_⟩
  · rw [rdD, rdB, hp, f2]
    simp only [Bool.false_eq_true, if_false, b1]
    rw [show fstN L % 32 = n by omega, show y % 256 = y by omega]
  · rw [rdL, hp]; exact b2
  · rw [rdE, hp]; exact b3
end Go.Proofs.Ytjohjilfmhgdnaa
