/- Reports as data: their bytes, what may be, what reading tells. -/
import Derived.Test.YthgajlmhgbhmlaaCk
import Derived.Test.YthgajlmhgbhmlaaWireR
import Derived.Test.YthgajlmhgbhmlaaBSg
namespace Go.Proofs.Ythgajlmhgbhmlaa
open Go.RowKit

/-! ### numbers that were written, and that are read -/
theorem bytesL_snoc2 (x n : Nat) : bytesL x (n + 1) = UInt8.ofNat (x / 256 ^ n) :: bytesL x n := by
  unfold bytesL
  rw [List.range_succ_eq_map]
  simp only [List.map_cons, List.map_map]
  congr 1
  refine List.map_congr_left fun i hi => ?_
  simp only [Function.comp]
  congr 3
  omega
theorem beN_cons (x : UInt8) (l : List UInt8) : beN (x :: l) = x.toNat * 256 ^ l.length + beN l := by
  have h := beN_append [x] l
  have h3 : beN [x] = x.toNat := by simp [beN]
  rw [h3] at h
  exact h
theorem beN_bytesL (x n : Nat) : beN (bytesL x n) = x % 256 ^ n := by
  induction n with
  | zero => simp [bytesL, beN, Nat.mod_one]
  | succ n ih =>
    have e : (UInt8.ofNat (x / 256 ^ n)).toNat = x / 256 ^ n % 256 := UInt8.toNat_ofNat'
    rw [bytesL_snoc2, beN_cons, bytesL_len, ih, e, Nat.pow_succ, Nat.mod_mul, Nat.mul_comm, Nat.add_comm]
theorem bytesL_add (x y n : Nat) : bytesL (x * 256 ^ n + y) n = bytesL y n := by
  unfold bytesL
  apply List.map_congr_left
  intro i hi
  have hi := List.mem_range.1 hi
  have e : (256 : Nat) ^ n = 256 ^ (i + 1) * 256 ^ (n - 1 - i) := by rw [← Nat.pow_add]; congr 1; omega
  rw [e, ← Nat.mul_assoc, Nat.add_comm, Nat.add_mul_div_right _ _ (Nat.pow_pos (by decide)), Nat.pow_succ, ← Nat.mul_assoc]
  generalize y / 256 ^ (n - 1 - i) = p
  generalize x * 256 ^ i = q
  apply UInt8.toNat_inj.1
  rw [UInt8.toNat_ofNat', UInt8.toNat_ofNat']
  omega
theorem bytesL_mod (x n : Nat) : bytesL (x % 256 ^ n) n = bytesL x n := by
  have h := bytesL_add (x / 256 ^ n) (x % 256 ^ n) n
  rw [Nat.mul_comm, Nat.div_add_mod] at h
  exact h.symm
theorem bytesL_beN (l : List UInt8) : bytesL (beN l) l.length = l := by
  induction l with
  | nil => rfl
  | cons x l ih =>
    have h1 := beN_lt l
    rw [List.length_cons, bytesL_snoc2, beN_cons, bytesL_add, ih, Nat.add_comm, Nat.add_mul_div_right _ _ (Nat.pow_pos (by decide)), Nat.div_eq_of_lt h1, Nat.zero_add]
    congr 1
    apply UInt8.toNat_inj.1
    have := UInt8.toNat_lt x
    rw [UInt8.toNat_ofNat']
    omega
theorem bytesI_n (x n : Nat) (h : n ≤ 8) : bytesI x n = bytesL x n := by rw [bytesI, if_pos (by omega)]; rfl
theorem rawL_app (xs rest : List UInt8) (n : Nat) (h : n = xs.length) : rawL n (xs ++ rest) = xs := by
  subst h
  rw [rawL, if_pos (by simp)]; simp
theorem rawR_app (xs rest : List UInt8) (n : Nat) (h : n = xs.length) : rawR n (xs ++ rest) = rest := by
  subst h
  rw [rawR, if_pos (by simp)]; simp
theorem rdN_app (x n : Nat) (rest : List UInt8) (h : x < 256 ^ n) : rdN n (bytesL x n ++ rest) = x := by
  unfold rdN
  rw [rawL_app _ _ _ (bytesL_len x n).symm, beN_bytesL, Nat.mod_eq_of_lt h]
theorem rawR_num (x n : Nat) (rest : List UInt8) : rawR n (bytesL x n ++ rest) = rest := rawR_app _ _ _ (bytesL_len x n).symm
/-- reading goes on -/
theorem rawR_0 (l : List UInt8) : rawR 0 l = l := by simp [rawR]
theorem rawR_add (a b : Nat) (l : List UInt8) (hb : 0 < b) : rawR b (rawR a l) = rawR (a + b) l := by
  unfold rawR
  by_cases h1 : a ≤ l.length
  · rw [if_pos h1]
    by_cases h2 : a + b ≤ l.length
    · rw [if_pos h2, if_pos (by simp; omega), List.drop_drop]
    · rw [if_neg h2, if_neg (by simp; omega)]
  · rw [if_neg h1, if_neg (show ¬ a + b ≤ l.length by omega), if_neg (show ¬ b ≤ ([] : List UInt8).length by simp; omega)]
theorem rawE_add (a b : Nat) (l : List UInt8) (e : Int) (hb : 0 < b) : rawE b (rawR a l) (rawE a l e) = rawE (a + b) l e := by
  unfold rawE rawR
  by_cases h1 : a ≤ l.length
  · rw [if_pos h1, if_pos h1]
    by_cases h2 : a + b ≤ l.length
    · rw [if_pos h2, if_pos (by simp; omega)]
    · rw [if_neg h2, if_neg (by simp; omega)]
  · rw [if_neg h1, if_neg h1, if_neg (show ¬ a + b ≤ l.length by omega), if_neg (show ¬ b ≤ ([] : List UInt8).length by simp; omega)]
    by_cases he : e = 0
    · rw [if_pos he]; rfl
    · rw [if_neg he, if_neg he]
/-- what is read is written again -/
theorem rd_wr (n : Nat) (l : List UInt8) (h : n ≤ l.length) : bytesL (rdN n l) n ++ rawR n l = l := by
  have h1 : rawL n l = l.take n := by rw [rawL, if_pos h]
  have h2 : (l.take n).length = n := by simp; omega
  have h3 := bytesL_beN (l.take n)
  rw [h2] at h3
  rw [rdN, h1, h3, rawR, if_pos h, List.take_append_drop]
theorem rawR_len (n : Nat) (l : List UInt8) (h : n ≤ l.length) : (rawR n l).length = l.length - n := by rw [rawR, if_pos h]; simp
/-! ### a block -/
structure DB where
  s : Nat
  p : Nat
  m : Int
  h : Nat
  j : Nat
  l : Nat
  d : Nat
structure DB.Ok (b : DB) : Prop where
  s : b.s < 4294967296
  p : b.p < 256
  m0 : -2147483648 ≤ b.m
  m1 : b.m ≤ 2147483647
  h : b.h < 4294967296
  j : b.j < 4294967296
  l : b.l < 4294967296
  d : b.d < 4294967296
def DB.row (b : DB) : List Value := [.int .u32 (b.s : Nat), .int .u8 (b.p : Nat), .int .i32 b.m, .int .u32 (b.h : Nat), .int .u32 (b.j : Nat), .int .u32 (b.l : Nat), .int .u32 (b.d : Nat)]
def m24 (m : Int) : Nat := (m % 16777216).toNat
def encB (b : DB) : List UInt8 := bytesL b.s 4 ++ (bytesL b.p 1 ++ (bytesL (m24 b.m) 3 ++ (bytesL b.h 4 ++ (bytesL b.j 4 ++ (bytesL b.l 4 ++ bytesL b.d 4)))))
theorem encB_len (b : DB) : (encB b).length = 24 := by simp [encB, bytesL_len]
def missB (b : DB) : Bool := decide (-8388608 ≤ b.m ∧ b.m ≤ 8388607)
def decB (l : List UInt8) : DB := ⟨rdN 4 l, rdN 1 (rawR 4 l), signedN (rdN 3 (rawR 5 l)) 24, rdN 4 (rawR 8 l), rdN 4 (rawR 12 l), rdN 4 (rawR 16 l), rdN 4 (rawR 20 l)⟩
theorem signed24 (n : Nat) (h : n < 16777216) : signedN n 24 = if n < 8388608 then (n : Int) else (n : Int) - 16777216 := by
  unfold signedN
  rw [if_pos (by omega), show (24 : Int).toNat = 24 by decide, show (2 : Nat) ^ 24 = 16777216 by decide, show (2 : Nat) ^ (24 - 1) = 8388608 by decide, Nat.mod_eq_of_lt h]
  rfl
theorem sig_m24 (m : Int) (h0 : -8388608 ≤ m) (h1 : m ≤ 8388607) : signedN (m24 m) 24 = m := by
  have hlt : m24 m < 16777216 := by unfold m24; omega
  rw [signed24 _ hlt]
  unfold m24
  split <;> omega
theorem m24_lt (m : Int) : m24 m < 16777216 := by unfold m24; omega
theorem m24_sig (n : Nat) (h : n < 16777216) : m24 (signedN n 24) = n := by
  rw [signed24 n h]
  unfold m24
  split <;> omega
theorem decB_ok (l : List UInt8) : (decB l).Ok ∧ missB (decB l) = true := by
  have a0 := rdN_lt 4 l
  have a1 := rdN_lt 1 (rawR 4 l)
  have a2 := rdN_lt 3 (rawR 5 l)
  have a3 := rdN_lt 4 (rawR 8 l)
  have a4 := rdN_lt 4 (rawR 12 l)
  have a5 := rdN_lt 4 (rawR 16 l)
  have a6 := rdN_lt 4 (rawR 20 l)
  have hs := signed24 (rdN 3 (rawR 5 l)) (by simpa using a2)
  have hm : -8388608 ≤ (decB l).m ∧ (decB l).m ≤ 8388607 := by
    show -8388608 ≤ signedN (rdN 3 (rawR 5 l)) 24 ∧ signedN (rdN 3 (rawR 5 l)) 24 ≤ 8388607
    rw [hs]
    split <;> omega
  exact ⟨⟨a0, a1, by omega, by omega, a3, a4, a5, a6⟩, decide_eq_true hm⟩
/-- a block comes back, whatever stands behind -/
theorem decB_enc (b : DB) (R : List UInt8) (hb : b.Ok) (hm : missB b = true) : decB (encB b ++ R) = b ∧ rawR 24 (encB b ++ R) = R := by
  have hm := of_decide_eq_true hm
  refine ⟨?_, rawR_app _ _ _ (encB_len b).symm⟩
  have e : encB b ++ R = bytesL b.s 4 ++ (bytesL b.p 1 ++ (bytesL (m24 b.m) 3 ++ (bytesL b.h 4 ++ (bytesL b.j 4 ++ (bytesL b.l 4 ++ (bytesL b.d 4 ++ R)))))) := by simp [encB]
  unfold decB
  rw [e]
  have r4 := rawR_num b.s 4 (bytesL b.p 1 ++ (bytesL (m24 b.m) 3 ++ (bytesL b.h 4 ++ (bytesL b.j 4 ++ (bytesL b.l 4 ++ (bytesL b.d 4 ++ R))))))
  generalize hL : bytesL b.s 4 ++ (bytesL b.p 1 ++ (bytesL (m24 b.m) 3 ++ (bytesL b.h 4 ++ (bytesL b.j 4 ++ (bytesL b.l 4 ++ (bytesL b.d 4 ++ R)))))) = L at *
  have r5 : rawR 5 L = bytesL (m24 b.m) 3 ++ (bytesL b.h 4 ++ (bytesL b.j 4 ++ (bytesL b.l 4 ++ (bytesL b.d 4 ++ R)))) := by
    rw [← rawR_add 4 1 L (by decide), r4, rawR_num]
  have r8 : rawR 8 L = bytesL b.h 4 ++ (bytesL b.j 4 ++ (bytesL b.l 4 ++ (bytesL b.d 4 ++ R))) := by
    rw [← rawR_add 5 3 L (by decide), r5, rawR_num]
  have r12 : rawR 12 L = bytesL b.j 4 ++ (bytesL b.l 4 ++ (bytesL b.d 4 ++ R)) := by
    rw [← rawR_add 8 4 L (by decide), r8, rawR_num]
  have r16 : rawR 16 L = bytesL b.l 4 ++ (bytesL b.d 4 ++ R) := by
    rw [← rawR_add 12 4 L (by decide), r12, rawR_num]
  have r20 : rawR 20 L = bytesL b.d 4 ++ R := by
    rw [← rawR_add 16 4 L (by decide), r16, rawR_num]
  have h0 := hb.s; have h1 := hb.p; have h3 := hb.h; have h4 := hb.j; have h5 := hb.l; have h6 := hb.d
  have h2 := m24_lt b.m
  rw [r4, r5, r8, r12, r16, r20, ← hL, rdN_app _ 4 _ (by simpa using h0), rdN_app _ 1 _ (by simpa using h1), rdN_app _ 3 _ (by simpa using h2), rdN_app _ 4 _ (by simpa using h3), rdN_app _ 4 _ (by simpa using h4), rdN_app _ 4 _ (by simpa using h5), rdN_app _ 4 _ (by simpa using h6), sig_m24 _ hm.1 hm.2]
/-- .. and bytes, from the block that they are -/
theorem encB_dec (l : List UInt8) (h : 24 ≤ l.length) : encB (decB l) ++ rawR 24 l = l := by
  have h2 := rdN_lt 3 (rawR 5 l)
  have a1 := rawR_add 4 1 l (by decide)
  have a2 := rawR_add 5 3 l (by decide)
  have a3 := rawR_add 8 4 l (by decide)
  have a4 := rawR_add 12 4 l (by decide)
  have a5 := rawR_add 16 4 l (by decide)
  have a6 := rawR_add 20 4 l (by decide)
  have w0 := rd_wr 4 l (by omega)
  have w1 := rd_wr 1 (rawR 4 l) (by rw [rawR_len 4 l (by omega)]; omega)
  have w2 := rd_wr 3 (rawR 5 l) (by rw [rawR_len 5 l (by omega)]; omega)
  have w3 := rd_wr 4 (rawR 8 l) (by rw [rawR_len 8 l (by omega)]; omega)
  have w4 := rd_wr 4 (rawR 12 l) (by rw [rawR_len 12 l (by omega)]; omega)
  have w5 := rd_wr 4 (rawR 16 l) (by rw [rawR_len 16 l (by omega)]; omega)
  have w6 := rd_wr 4 (rawR 20 l) (by rw [rawR_len 20 l (by omega)]; omega)
  rw [a1] at w1
  rw [a2] at w2
  rw [a3] at w3
  rw [a4] at w4
  rw [a5] at w5
  rw [a6] at w6
  simp only [Nat.reduceAdd] at w1 w2 w3 w4 w5 w6
  simp only [encB, decB, List.append_assoc]
  rw [m24_sig _ (by simpa using h2), w6, w5, w4, w3, w2, w1, w0]
/-! ### blocks -/
def encBs (bs : List DB) : List UInt8 := (bs.map encB).flatten
theorem encBs_cons (b : DB) (bs : List DB) : encBs (b :: bs) = encB b ++ encBs bs := rfl
theorem encBs_snoc (bs : List DB) (b : DB) : encBs (bs ++ [b]) = encBs bs ++ encB b := by simp [encBs]
theorem encBs_len (bs : List DB) : (encBs bs).length = 24 * bs.length := by
  induction bs with
  | nil => rfl
  | cons b bs ih => rw [encBs_cons, List.length_append, encB_len, ih, List.length_cons]; omega
def decBs : Nat → List UInt8 → List DB
  | 0, _ => []
  | n + 1, l => decB l :: decBs n (rawR 24 l)
theorem decBs_len (n : Nat) (l : List UInt8) : (decBs n l).length = n := by
  induction n generalizing l with
  | zero => rfl
  | succ n ih => simp [decBs, ih]
theorem decBs_snoc (n : Nat) (l : List UInt8) : decBs (n + 1) l = decBs n l ++ [decB (rawR (24 * n) l)] := by
  induction n generalizing l with
  | zero => simp [decBs, rawR_0]
  | succ n ih =>
    rw [decBs, ih, decBs, List.cons_append]
    cases n with
    | zero => simp [rawR_0]
    | succ n =>
      rw [rawR_add 24 (24 * (n + 1)) l (by omega), show 24 + 24 * (n + 1) = 24 * (n + 1 + 1) by omega]
theorem decBs_ok (n : Nat) (l : List UInt8) : ∀ b ∈ decBs n l, b.Ok ∧ missB b = true := by
  induction n generalizing l with
  | zero => simp [decBs]
  | succ n ih =>
    intro b hb
    rcases List.mem_cons.1 hb with rfl | hb
    · exact decB_ok l
    · exact ih _ b hb
theorem decBs_enc (bs : List DB) (h : ∀ b ∈ bs, b.Ok) (hm : bs.all missB = true) : decBs bs.length (encBs bs) = bs := by
  induction bs with
  | nil => rfl
  | cons b bs ih =>
    rw [List.all_cons, Bool.and_eq_true] at hm
    obtain ⟨h1, h2⟩ := decB_enc b (encBs bs) (h b (List.mem_cons_self ..)) hm.1
    rw [encBs_cons, List.length_cons, decBs, h1, h2, ih (fun b hb => h b (List.mem_cons_of_mem _ hb)) hm.2]
theorem encBs_dec (n : Nat) (l : List UInt8) (h : l.length = 24 * n) : encBs (decBs n l) = l := by
  induction n generalizing l with
  | zero =>
    obtain rfl := List.eq_nil_of_length_eq_zero (show l.length = 0 by omega)
    rfl
  | succ n ih =>
    rw [decBs, encBs_cons, ih _ (by rw [rawR_len 24 l (by omega)]; omega), encB_dec l (by omega)]
/-! ### a report -/
structure DR where
  sd : Bool
  so : Nat
  i0 : Nat
  i1 : Nat
  i2 : Nat
  i3 : Nat
  i4 : Nat
  bl : List DB
def DR.zero : DR := ⟨false, 0, 0, 0, 0, 0, 0, []⟩
structure DR.Ok (r : DR) : Prop where
  so : r.so < 4294967296
  i0 : r.i0 < 4294967296
  i1 : r.i1 < 4294967296
  i2 : r.i2 < 4294967296
  i3 : r.i3 < 4294967296
  i4 : r.i4 < 4294967296
  bl : ∀ b ∈ r.bl, b.Ok
def noInfo (r : DR) : Bool := decide (r.i0 = 0 ∧ r.i1 = 0 ∧ r.i2 = 0 ∧ r.i3 = 0 ∧ r.i4 = 0)
def mostN (sd : Bool) : Nat := if sd then 7 else 8
def rightR (r : DR) : Bool := (r.sd || noInfo r) && (decide (r.bl.length ≤ mostN r.sd) && r.bl.all missB)
def encI (r : DR) : List UInt8 := bytesL r.i0 4 ++ (bytesL r.i1 4 ++ (bytesL r.i2 4 ++ (bytesL r.i3 4 ++ bytesL r.i4 4)))
theorem encI_len (r : DR) : (encI r).length = 20 := by simp [encI, bytesL_len]
def typR (sd : Bool) : Nat := if sd then 200 else 201
def headR (r : DR) : List UInt8 := bytesL r.so 4 ++ (if r.sd then encI r else [])
def encR (r : DR) : List UInt8 := headR r ++ encBs r.bl
def aheadN (sd : Bool) : Nat := if sd then 24 else 4
theorem headR_len (r : DR) : (headR r).length = aheadN r.sd := by
  unfold headR aheadN
  cases r.sd <;> simp [bytesL_len, encI_len]
theorem encR_len (r : DR) : (encR r).length = aheadN r.sd + 24 * r.bl.length := by rw [encR, List.length_append, headR_len, encBs_len]
def chunkR (r : DR) : DC := (r.bl.length, typR r.sd, encR r)
/-- what reading a chunk tells -/
def isR (y : Nat) : Bool := decide (y = 200) || decide (y = 201)
def wantN (d : DC) : Nat := aheadN (decide (d.2.1 = 200)) + 24 * d.1
def rdErr (d : DC) : Int := if rightC d then (if isR d.2.1 then endE (rawR (wantN d) d.2.2) (rawE (wantN d) d.2.2 0) else 5) else 1
def decR (d : DC) : DR :=
  if d.2.1 = 200 then ⟨true, rdN 4 d.2.2, rdN 4 (rawR 4 d.2.2), rdN 4 (rawR 8 d.2.2), rdN 4 (rawR 12 d.2.2), rdN 4 (rawR 16 d.2.2), rdN 4 (rawR 20 d.2.2), decBs d.1 (rawR 24 d.2.2)⟩
  else ⟨false, rdN 4 d.2.2, 0, 0, 0, 0, 0, decBs d.1 (rawR 4 d.2.2)⟩
def readR (d : DC) : DR := if rdErr d = 0 then decR d else DR.zero
theorem rdErr_eq (d : DC) : rdErr d = if rightC d then (if isR d.2.1 then (if d.2.2.length < wantN d then 3 else if wantN d < d.2.2.length then 4 else 0) else 5) else 1 := by
  unfold rdErr
  congr 2
  unfold endE rawR rawE
  by_cases h1 : d.2.2.length < wantN d
  · have h2 : ¬ wantN d ≤ d.2.2.length := by omega
    simp only [if_pos h1, if_neg h2, if_pos]
  · have h2 : wantN d ≤ d.2.2.length := by omega
    simp only [if_neg h1, if_pos h2]
    by_cases h3 : wantN d < d.2.2.length
    · rw [if_pos h3, if_neg]
      intro h
      have := congrArg List.length h
      simp at this; omega
    · rw [if_neg h3, if_pos (List.eq_nil_of_length_eq_zero (by simp; omega))]
theorem rdErr_0 {d : DC} (h : rdErr d = 0) : rightC d = true ∧ isR d.2.1 = true ∧ d.2.2.length = wantN d := by
  rw [rdErr_eq] at h
  split at h
  · split at h
    · split at h
      · exact absurd h (by decide)
      · split at h
        · exact absurd h (by decide)
        · exact ⟨by assumption, by assumption, by omega⟩
    · exact absurd h (by decide)
  · exact absurd h (by decide)
theorem decR_ok (d : DC) : (decR d).Ok := by
  have a0 := rdN_lt 4 d.2.2
  have a1 := rdN_lt 4 (rawR 4 d.2.2)
  have a3 := rdN_lt 4 (rawR 8 d.2.2)
  have a4 := rdN_lt 4 (rawR 12 d.2.2)
  have a5 := rdN_lt 4 (rawR 16 d.2.2)
  have a6 := rdN_lt 4 (rawR 20 d.2.2)
  unfold decR
  split
  · exact ⟨a0, a1, a3, a4, a5, a6, fun b hb => (decBs_ok _ _ b hb).1⟩
  · exact ⟨a0, Nat.zero_lt_succ _, Nat.zero_lt_succ _, Nat.zero_lt_succ _, Nat.zero_lt_succ _, Nat.zero_lt_succ _, fun b hb => (decBs_ok _ _ b hb).1⟩
/-- chunks come back from their reports -/
theorem back_c {d : DC} (h : rdErr d = 0) : rightR (decR d) = true ∧ chunkR (decR d) = d := by
  obtain ⟨h1, h2, h3⟩ := rdErr_0 h
  obtain ⟨n, y, l⟩ := d
  obtain ⟨r1, r2, r3⟩ := right_iffC.1 h1
  simp only [isR, Bool.or_eq_true, decide_eq_true_eq] at h2
  simp only [wantN, aheadN] at h3
  simp only at r1 r2 r3
  unfold decR
  simp only
  have w0 := rd_wr 4 l (by rw [h3]; split <;> omega)
  by_cases hy : y = 200
  · subst hy
    simp only [decide_true, if_true] at h3 ⊢
    have w1 := rd_wr 4 (rawR 4 l) (by rw [rawR_len 4 l (by omega)]; omega)
    have w2 := rd_wr 4 (rawR 8 l) (by rw [rawR_len 8 l (by omega)]; omega)
    have w3 := rd_wr 4 (rawR 12 l) (by rw [rawR_len 12 l (by omega)]; omega)
    have w4 := rd_wr 4 (rawR 16 l) (by rw [rawR_len 16 l (by omega)]; omega)
    have w5 := rd_wr 4 (rawR 20 l) (by rw [rawR_len 20 l (by omega)]; omega)
    rw [rawR_add 4 4 l (by decide)] at w1
    rw [rawR_add 8 4 l (by decide)] at w2
    rw [rawR_add 12 4 l (by decide)] at w3
    rw [rawR_add 16 4 l (by decide)] at w4
    rw [rawR_add 20 4 l (by decide)] at w5
    simp only [Nat.reduceAdd] at w1 w2 w3 w4 w5
    refine ⟨?_, ?_⟩
    · simp only [rightR, Bool.true_or, Bool.true_and, Bool.and_eq_true, decide_eq_true_eq, mostN, if_true, decBs_len, List.all_eq_true]
      exact ⟨by omega, fun b hb => (decBs_ok _ _ b hb).2⟩
    · simp only [chunkR, decBs_len, typR, if_true, encR, headR, encI, List.append_assoc]
      rw [encBs_dec n _ (by rw [rawR_len 24 l (by omega)]; omega), w5, w4, w3, w2, w1, w0]
  · have hy2 : y = 201 := by omega
    subst hy2
    simp only [show decide ((201 : Nat) = 200) = false from rfl, Bool.false_eq_true, if_false] at h3
    rw [if_neg (by decide)]
    refine ⟨?_, ?_⟩
    · simp only [rightR, noInfo, and_self, decide_true, Bool.or_true, Bool.true_and, Bool.and_eq_true, decide_eq_true_eq, mostN, Bool.false_eq_true, if_false, decBs_len, List.all_eq_true]
      exact ⟨by omega, fun b hb => (decBs_ok _ _ b hb).2⟩
    · simp only [chunkR, decBs_len, typR, Bool.false_eq_true, if_false, encR, headR, List.append_nil]
      rw [encBs_dec n _ (by rw [rawR_len 4 l (by omega)]; omega), w0]
theorem rightR_iff {r : DR} : rightR r = true ↔ (r.sd = true ∨ noInfo r = true) ∧ r.bl.length ≤ mostN r.sd ∧ r.bl.all missB = true := by
  simp only [rightR, Bool.and_eq_true, Bool.or_eq_true, decide_eq_true_eq]
/-- reports come back from their chunks -/
theorem back_r {r : DR} (h : rightR r = true) (ho : r.Ok) : rightC (chunkR r) = true ∧ okC (chunkR r) ∧ rdErr (chunkR r) = 0 ∧ decR (chunkR r) = r := by
  obtain ⟨h1, h2, h3⟩ := rightR_iff.1 h
  have hl := encR_len r
  have hc : rightC (chunkR r) = true := by
    rw [right_iffC, chunkR]
    simp only [hl]
    unfold aheadN mostN at *
    cases hs : r.sd
    · rw [hs] at h2
      simp only [Bool.false_eq_true, if_false] at h2 ⊢
      omega
    · rw [hs] at h2
      simp only [if_true] at h2 ⊢
      omega
  have hk : okC (chunkR r) := by
    show typR r.sd < 256
    unfold typR; cases r.sd <;> decide
  have hi : isR (typR r.sd) = true := by unfold typR isR; cases r.sd <;> decide
  have hd : decide (typR r.sd = 200) = r.sd := by unfold typR; cases r.sd <;> decide
  have hw : (encR r).length = wantN (chunkR r) := by
    rw [hl]
    show _ = aheadN (decide (typR r.sd = 200)) + 24 * r.bl.length
    rw [hd]
  refine ⟨hc, hk, ?_, ?_⟩
  · rw [rdErr_eq, if_pos hc]
    show (if isR (typR r.sd) = true then (if (encR r).length < wantN (chunkR r) then (3 : Int) else if wantN (chunkR r) < (encR r).length then 4 else 0) else 5) = 0
    rw [if_pos hi, hw, if_neg (by omega), if_neg (by omega)]
  · have e1 : rawR (aheadN r.sd) (encR r) = encBs r.bl := rawR_app _ _ _ (headR_len r).symm
    have e2 := decBs_enc r.bl ho.bl h3
    have k0 := ho.so; have k1 := ho.i0; have k2 := ho.i1; have k3 := ho.i2; have k4 := ho.i3; have k5 := ho.i4
    obtain ⟨sd, so, i0, i1, i2, i3, i4, bl⟩ := r
    simp only at *
    unfold decR chunkR
    simp only
    cases sd
    · rw [if_neg (by simp [typR])]
      simp only [aheadN, Bool.false_eq_true, if_false] at e1
      rw [e1, e2]
      have hn : noInfo ⟨false, so, i0, i1, i2, i3, i4, bl⟩ = true := by simpa using h1
      simp only [noInfo, decide_eq_true_eq] at hn
      obtain ⟨rfl, rfl, rfl, rfl, rfl⟩ := hn
      have e0 : encR ⟨false, so, 0, 0, 0, 0, 0, bl⟩ = bytesL so 4 ++ encBs bl := by simp [encR, headR]
      rw [e0, rdN_app _ 4 _ (by simpa using k0)]
    · rw [if_pos (by simp [typR])]
      simp only [aheadN, if_true] at e1
      rw [e1, e2]
      have e0 : encR ⟨true, so, i0, i1, i2, i3, i4, bl⟩ = bytesL so 4 ++ (bytesL i0 4 ++ (bytesL i1 4 ++ (bytesL i2 4 ++ (bytesL i3 4 ++ (bytesL i4 4 ++ encBs bl))))) := by simp [encR, headR, encI]
      generalize encR ⟨true, so, i0, i1, i2, i3, i4, bl⟩ = L at *
      have r4 : rawR 4 L = bytesL i0 4 ++ (bytesL i1 4 ++ (bytesL i2 4 ++ (bytesL i3 4 ++ (bytesL i4 4 ++ encBs bl)))) := by rw [e0, rawR_num]
      have r8 : rawR 8 L = bytesL i1 4 ++ (bytesL i2 4 ++ (bytesL i3 4 ++ (bytesL i4 4 ++ encBs bl))) := by rw [← rawR_add 4 4 L (by decide), r4, rawR_num]
      have r12 : rawR 12 L = bytesL i2 4 ++ (bytesL i3 4 ++ (bytesL i4 4 ++ encBs bl)) := by rw [← rawR_add 8 4 L (by decide), r8, rawR_num]
      have r16 : rawR 16 L = bytesL i3 4 ++ (bytesL i4 4 ++ encBs bl) := by rw [← rawR_add 12 4 L (by decide), r12, rawR_num]
      have r20 : rawR 20 L = bytesL i4 4 ++ encBs bl := by rw [← rawR_add 16 4 L (by decide), r16, rawR_num]
      rw [r4, r8, r12, r16, r20, e0, rdN_app _ 4 _ (by simpa using k0), rdN_app _ 4 _ (by simpa using k1), rdN_app _ 4 _ (by simpa using k2), rdN_app _ 4 _ (by simpa using k3), rdN_app _ 4 _ (by simpa using k4), rdN_app _ 4 _ (by simpa using k5)]
theorem readR_back {r : DR} (h : rightR r = true) (ho : r.Ok) : readR (chunkR r) = r := by
  rw [readR, if_pos (back_r h ho).2.2.1, (back_r h ho).2.2.2]
theorem chunkR_inj {r s : DR} (h : rightR r = true) (ho : r.Ok) (k : rightR s = true) (ko : s.Ok) (e : chunkR r = chunkR s) : r = s := by
  rw [← (back_r h ho).2.2.2, e, (back_r k ko).2.2.2]
end Go.Proofs.Ythgajlmhgbhmlaa
