/- Descriptions: their data, their values, their bytes; what reading tells. -/
import Derived.Test.YthomlikmjgeccaaWireR
import Derived.Test.YthomlikmjgeccaaWireW
import Derived.Test.YthomlikmjgeccaaBField
import Derived.Test.YthomlikmjgeccaaBLay
namespace Go.Proofs.Ythomlikmjgeccaa
open Go.RowKit

structure DD where
  lo : Bool
  st : Bool
  pt : Nat
  pic : Int
  wi : Bool
  ba : Int
  ti : Int
  sy : Bool
  ke : Int
def DD.zero : DD := ⟨false, false, 0, 0, false, 0, 0, false, 0⟩
def DD.none (lo st : Bool) (pt : Nat) : DD := ⟨lo, st, pt, -1, false, -1, -1, false, -1⟩
/-- a description's cells -/
def DD.cs (d : DD) : Array Value := #[.bool d.lo, .bool d.st, .int .u8 (d.pt : Nat), .int .i64 d.pic, .bool d.wi, .int .i64 d.ba, .int .i64 d.ti, .bool d.sy, .int .i64 d.ke]
def DD.val (d : DD) : Value := .agg d.cs

/-! ### whether a description may be -/
def mayN (n m : Int) : Bool := decide (-1 ≤ n) && decide (n ≤ m)
def rightD (d : DD) : Bool := !((d.wi && d.pic == -1) || (d.sy && d.ti == -1)) && ((((decide ((d.pt : Int) ≤ 7) && mayN d.pic (if d.wi then 32767 else 127)) && mayN d.ba 255) && mayN d.ti 3) && mayN d.ke 31)
structure RightP (d : DD) : Prop where
  wi : d.wi = true → d.pic ≠ -1
  sy : d.sy = true → d.ti ≠ -1
  pt : d.pt ≤ 7
  pic0 : -1 ≤ d.pic
  pic1 : d.pic ≤ 32767
  pic2 : d.wi = false → d.pic ≤ 127
  ba0 : -1 ≤ d.ba
  ba1 : d.ba ≤ 255
  ti0 : -1 ≤ d.ti
  ti1 : d.ti ≤ 3
  ke0 : -1 ≤ d.ke
  ke1 : d.ke ≤ 31
theorem right_p {d : DD} (h : rightD d = true) : RightP d := by
  simp [rightD, mayN] at h
  obtain ⟨⟨h1, h2⟩, ⟨⟨⟨h3, h4, h5⟩, h6, h7⟩, h8, h9⟩, h10, h11⟩ := h
  refine ⟨fun hw => h1.resolve_left (by simp [hw]), fun hw => h2.resolve_left (by simp [hw]), by omega, h4, ?_, fun hw => by rw [hw] at h5; simpa using h5, h6, h7, h8, h9, h10, h11⟩
  split at h5 <;> omega

/-! ### its bytes -/
def markN (n k : Nat) (b : Bool) : Nat := if b then layN n k 1 1 else n
def told (n : Int) : Bool := n != -1
theorem told_t {n : Int} (h : n ≠ -1) : told n = true := by simp [told, h]
def f2 (d : DD) : Nat := 128 * (told d.pic).toNat + 64 * (told d.ba).toNat + 32 * (told d.ti).toNat + 16 * (told d.ke).toNat
def anyD (d : DD) : Bool := decide (0 < f2 d)
def f1 (d : DD) : Nat := 128 * (anyD d).toNat + 32 * d.lo.toNat + 16 * d.st.toNat + d.pt
def f3 (d : DD) : Nat := 64 * d.ti.toNat + 32 * d.sy.toNat + d.ke.toNat
def encPic (d : DD) : List UInt8 := if d.wi then bytesL (32768 + d.pic.toNat) 2 else if told d.pic then bytesL d.pic.toNat 1 else []
def encB (d : DD) : List UInt8 := if told d.ba then bytesL d.ba.toNat 1 else []
def encL (d : DD) : List UInt8 := if told d.ti || told d.ke then bytesL (f3 d) 1 else []
def encS (d : DD) : List UInt8 := if anyD d then bytesL (f2 d) 1 else []
def encD (d : DD) : List UInt8 := ((((bytesL (f1 d) 1 ++ encS d) ++ encPic d) ++ encB d) ++ encL d)
theorem mark2 : ∀ a b c d : Bool, markN (markN (markN (markN 0 7 a) 6 b) 5 c) 4 d = 128 * a.toNat + 64 * b.toNat + 32 * c.toNat + 16 * d.toNat := by decide
theorem mark1 : ∀ n : Fin 8, ∀ a b c : Bool, markN (markN (markN n.val 7 a) 5 b) 4 c = 128 * a.toNat + 32 * b.toNat + 16 * c.toNat + n.val := by decide
set_option maxRecDepth 10000 in
theorem mark3 : ∀ k : Fin 32, ∀ t : Fin 4, ∀ s : Bool, markN (layN k.val 6 2 t.val) 5 s = 64 * t.val + 32 * s.toNat + k.val := by decide
theorem f2_lt (d : DD) : f2 d < 256 := by
  have h := fun b : Bool => Bool.toNat_le b
  have h1 := h (told d.pic); have h2 := h (told d.ba); have h3 := h (told d.ti); have h4 := h (told d.ke)
  unfold f2; omega
theorem f1_lt {d : DD} (h : RightP d) : f1 d < 256 := by
  have := fun b : Bool => Bool.toNat_le b
  have h1 := this (anyD d); have h2 := this d.lo; have h3 := this d.st; have h4 := h.pt
  unfold f1; omega
theorem f3_lt {d : DD} (h : RightP d) : f3 d < 256 := by
  have h3 := Bool.toNat_le d.sy
  have h1 := h.ti1; have h2 := h.ke1
  unfold f3; omega

/-! ### what reading tells -/
def bitN (n k : Nat) : Bool := decide (n / 2 ^ k % 2 = 1)
structure RS where
  l : List UInt8
  e : Int
  d : DD
def RS.next (s : RS) : RS := ⟨rawR 1 s.l, rawE 1 s.l s.e, s.d⟩
def RS.byte (s : RS) : Nat := rdN 1 s.l
def RS.with (s : RS) (d : DD) : RS := ⟨s.l, s.e, d⟩
def rdPicB (s : RS) : RS := if bitN s.byte 7 then s.next.next.with { s.d with wi := true, pic := layN s.next.byte 8 7 s.byte } else s.next.with { s.d with wi := false, pic := s.byte }
def rdPic (b : Bool) (s : RS) : RS := if b then rdPicB s else s.with { s.d with pic := -1 }
def rdBa (b : Bool) (s : RS) : RS := if b then s.next.with { s.d with ba := s.byte } else s.with { s.d with ba := -1 }
def lastN8 (b : Bool) (s : RS) : Nat := if b then s.byte else 0
def rdLast (b : Bool) (s : RS) : RS := if b then s.next else s
def rdTi (b : Bool) (n : Nat) (d : DD) : DD := if b then { d with sy := bitN n 5, ti := (n / 64 % 4 : Nat) } else { d with ti := -1 }
def rdKe (b : Bool) (n : Nat) (d : DD) : DD := if b then { d with ke := (n % 32 : Nat) } else { d with ke := -1 }
def numsT (b5 b4 : Bool) (s : RS) : RS := (rdLast (b5 || b4) s).with (rdKe b4 (lastN8 (b5 || b4) s) (rdTi b5 (lastN8 (b5 || b4) s) s.d))
def numsB (b7 b6 b5 b4 : Bool) (s : RS) : RS := numsT b5 b4 (rdBa b6 (rdPic b7 s))
def numsS (s : RS) : RS := numsB (bitN s.byte 7) (bitN s.byte 6) (bitN s.byte 5) (bitN s.byte 4) s.next
def readF (b7 lo st : Bool) (pt : Nat) (l : List UInt8) (e : Int) : RS := if b7 then numsS ⟨l, e, DD.none lo st pt⟩ else ⟨l, e, DD.none lo st pt⟩
def readS (l : List UInt8) : RS := readF (bitN (rdN 1 l) 7) (bitN (rdN 1 l) 5) (bitN (rdN 1 l) 4) (rdN 1 l % 8) (rawR 1 l) (rawE 1 l 0)
def shortS (s : RS) : Bool := endE s.l s.e == 3
def resD (l : List UInt8) : DD := if shortS (readS (l.take 6)) then DD.zero else (readS (l.take 6)).d
def resN (l : List UInt8) : Nat := if shortS (readS (l.take 6)) then 0 else (l.take 6).length - (readS (l.take 6)).l.length
def resE (l : List UInt8) : Int := if shortS (readS (l.take 6)) then 3 else 0
def evenAt (l : List UInt8) (n : Nat) : Bool := decide (n < l.length) && decide ((l.getD n 0).toNat % 2 = 0)
def begB (l : List UInt8) : Bool := decide (resE l = 0) && (resD l).st && decide ((resD l).pt = 0) && evenAt l (resN l)

/-! ### descriptions come back -/
theorem rdN_cons (x : UInt8) (xs : List UInt8) : rdN 1 (x :: xs) = x.toNat := by simp [rdN, rawL, beN]
theorem rawR_cons (x : UInt8) (xs : List UInt8) : rawR 1 (x :: xs) = xs := by simp [rawR]
theorem rawE_cons (x : UInt8) (xs : List UInt8) (e : Int) : rawE 1 (x :: xs) e = e := by simp [rawE]
theorem bytes1 (n : Nat) : bytesL n 1 = [UInt8.ofNat n] := by simp [bytesL]
theorem bytes2 (n : Nat) : bytesL n 2 = [UInt8.ofNat (n / 256), UInt8.ofNat n] := by simp [bytesL, List.range_succ]
theorem u8nat_eq {n : Nat} (h : n < 256) : (UInt8.ofNat n).toNat = n := by rw [UInt8.toNat_ofNat']; omega
theorem bits2 : ∀ a b c d : Bool, bitN (128 * a.toNat + 64 * b.toNat + 32 * c.toNat + 16 * d.toNat) 7 = a ∧ bitN (128 * a.toNat + 64 * b.toNat + 32 * c.toNat + 16 * d.toNat) 6 = b ∧
    bitN (128 * a.toNat + 64 * b.toNat + 32 * c.toNat + 16 * d.toNat) 5 = c ∧ bitN (128 * a.toNat + 64 * b.toNat + 32 * c.toNat + 16 * d.toNat) 4 = d := by decide
theorem bits1 : ∀ n : Fin 8, ∀ a b c : Bool, bitN (128 * a.toNat + 32 * b.toNat + 16 * c.toNat + n.val) 7 = a ∧ bitN (128 * a.toNat + 32 * b.toNat + 16 * c.toNat + n.val) 5 = b ∧
    bitN (128 * a.toNat + 32 * b.toNat + 16 * c.toNat + n.val) 4 = c ∧ (128 * a.toNat + 32 * b.toNat + 16 * c.toNat + n.val) % 8 = n.val := by decide
set_option maxRecDepth 10000 in
theorem and1 : ∀ q : Fin 256, andNotN q.val 32512 = q.val := by decide
set_option maxRecDepth 10000 in
theorem and2 : ∀ p : Fin 256, (p.val * 2 ^ 8 % 18446744073709551616) &&& 32512 = 256 * (p.val % 128) := by decide
/-- a wide number of two bytes -/
theorem lay_wide (p q : Nat) (hp : p < 256) (hq : q < 256) : layN q 8 7 p = 256 * (p % 128) + q := by
  have h1 := and1 ⟨q, hq⟩
  have h2 := and2 ⟨p, hp⟩
  have h3 : layN q 8 7 p = andNotN q 32512 ||| ((p * 2 ^ 8 % 18446744073709551616) &&& 32512) := rfl
  simp only at h1 h2
  rw [h3, h1, h2, Nat.or_comm]
  exact (Nat.two_pow_add_eq_or_of_lt (i := 8) hq (p % 128)).symm
theorem byte_cons (x : Nat) (xs : List UInt8) (e : Int) (d : DD) (h : x < 256) : (⟨UInt8.ofNat x :: xs, e, d⟩ : RS).byte = x ∧ (⟨UInt8.ofNat x :: xs, e, d⟩ : RS).next = ⟨xs, e, d⟩ := by
  unfold RS.byte RS.next
  simp only [rdN_cons, rawR_cons, rawE_cons, u8nat_eq h, and_self]
theorem next_cons (x : UInt8) (xs : List UInt8) (e : Int) (d : DD) : (⟨x :: xs, e, d⟩ : RS).byte = x.toNat ∧ (⟨x :: xs, e, d⟩ : RS).next = ⟨xs, e, d⟩ := by
  unfold RS.byte RS.next
  simp only [rdN_cons, rawR_cons, rawE_cons, and_self]
theorem ofNat_mod (n : Nat) : (UInt8.ofNat n).toNat = n % 256 := by rw [UInt8.toNat_ofNat']
theorem told_f {n : Int} (h : told n = false) : n = -1 := by simpa [told] using h
theorem told_n {n : Int} (h : told n = true) (h0 : -1 ≤ n) : ((n.toNat : Nat) : Int) = n := by
  have : n ≠ -1 := by simpa [told] using h
  omega
theorem pic_back {d : DD} (h : RightP d) (r : List UInt8) (e : Int) (d0 : DD) (hw : d0.wi = false) :
    rdPic (told d.pic) ⟨encPic d ++ r, e, d0⟩ = ⟨r, e, { d0 with wi := d.wi, pic := d.pic }⟩ := by
  have p0 := h.pic0; have p1 := h.pic1; have p2 := h.pic2; have p3 := h.wi
  obtain ⟨a0, a1, a2, a3, a4, a5, a6, a7, a8⟩ := d0
  simp only at hw
  subst hw
  unfold rdPic encPic
  cases hwi : d.wi
  · cases ht : told d.pic
    · have := told_f ht
      rw [this]
      simp [RS.with]
    · have hn := told_n ht p0
      have p4 := p2 hwi
      have hb : bitN d.pic.toNat 7 = false := by unfold bitN; simp; omega
      simp only [Bool.false_eq_true, if_false, if_true, bytes1, List.cons_append, List.nil_append]
      unfold rdPicB
      have hc := byte_cons d.pic.toNat r e ⟨a0, a1, a2, a3, false, a5, a6, a7, a8⟩ (by omega)
      rw [hc.1, hc.2, hb]
      simp [RS.with, hn]
  · have p4 := p3 hwi
    have ht := told_t p4
    have hn := told_n ht p0
    simp only [ht, if_true, bytes2, List.cons_append, List.nil_append]
    unfold rdPicB
    have hc := next_cons (UInt8.ofNat ((32768 + d.pic.toNat) / 256)) (UInt8.ofNat (32768 + d.pic.toNat) :: r) e ⟨a0, a1, a2, a3, false, a5, a6, a7, a8⟩
    have hc2 := next_cons (UInt8.ofNat (32768 + d.pic.toNat)) r e ⟨a0, a1, a2, a3, false, a5, a6, a7, a8⟩
    rw [hc.1, hc.2, hc2.1, hc2.2, ofNat_mod, ofNat_mod]
    have hb : bitN ((32768 + d.pic.toNat) / 256 % 256) 7 = true := by unfold bitN; simp; omega
    rw [hb, lay_wide _ _ (by omega) (by omega)]
    simp only [if_true, RS.with]
    congr 2
    omega
theorem ba_back {d : DD} (h : RightP d) (r : List UInt8) (e : Int) (d0 : DD) : rdBa (told d.ba) ⟨encB d ++ r, e, d0⟩ = ⟨r, e, { d0 with ba := d.ba }⟩ := by
  have p0 := h.ba0; have p1 := h.ba1
  unfold rdBa encB
  cases ht : told d.ba
  · have := told_f ht
    rw [this]
    simp [RS.with]
  · have hn := told_n ht p0
    simp only [if_true, bytes1, List.cons_append, List.nil_append]
    have hc := byte_cons d.ba.toNat r e d0 (by omega)
    rw [hc.1, hc.2]
    simp [RS.with, hn]
theorem f3_back : ∀ k : Fin 32, ∀ t : Fin 4, ∀ s : Bool, bitN (64 * t.val + 32 * s.toNat + k.val) 5 = s ∧ (64 * t.val + 32 * s.toNat + k.val) / 64 % 4 = t.val ∧ (64 * t.val + 32 * s.toNat + k.val) % 32 = k.val := by decide
theorem last_back {d : DD} (h : RightP d) (r : List UInt8) (e : Int) (d0 : DD) (hs : d0.sy = false) :
    numsT (told d.ti) (told d.ke) ⟨encL d ++ r, e, d0⟩ = ⟨r, e, { d0 with ti := d.ti, sy := d.sy, ke := d.ke }⟩ := by
  have p0 := h.ti0; have p1 := h.ti1; have p2 := h.ke0; have p3 := h.ke1; have p4 := h.sy
  obtain ⟨a0, a1, a2, a3, a4, a5, a6, a7, a8⟩ := d0
  simp only at hs
  subst hs
  have hb := f3_back ⟨d.ke.toNat, by omega⟩ ⟨d.ti.toNat, by omega⟩ d.sy
  simp only at hb
  change bitN (f3 d) 5 = d.sy ∧ f3 d / 64 % 4 = d.ti.toNat ∧ f3 d % 32 = d.ke.toNat at hb
  obtain ⟨b1, b2, b3⟩ := hb
  have hc := byte_cons (f3 d) r e ⟨a0, a1, a2, a3, a4, a5, a6, false, a8⟩ (f3_lt h)
  unfold numsT rdLast lastN8 encL
  have hsy : told d.ti = false → d.sy = false := fun ht => by
    have h1 := told_f ht
    cases hsy : d.sy
    · rfl
    · exact absurd h1 (p4 hsy)
  cases ht : told d.ti <;> cases hk : told d.ke
  · have h1 := told_f ht; have h2 := told_f hk; have h3 := hsy ht
    simp [RS.with, rdTi, rdKe, h1, h2, h3]
  · have h1 := told_f ht; have h2 := told_n hk p2; have h3 := hsy ht
    simp only [Bool.or_true, if_true, bytes1, List.cons_append, List.nil_append]
    rw [hc.1, hc.2]
    simp [RS.with, rdTi, rdKe, h1, h3, b3]; omega
  · have h1 := told_n ht p0; have h2 := told_f hk
    simp only [Bool.or_false, if_true, bytes1, List.cons_append, List.nil_append]
    rw [hc.1, hc.2]
    simp [RS.with, rdTi, rdKe, h2, b1, b2]; omega
  · have h1 := told_n ht p0; have h2 := told_n hk p2
    simp only [Bool.or_true, if_true, bytes1, List.cons_append, List.nil_append]
    rw [hc.1, hc.2]
    simp [RS.with, rdTi, rdKe, b1, b2, b3]; omega
theorem read_back {d : DD} (h : RightP d) (r : List UInt8) : readS (encD d ++ r) = ⟨r, 0, d⟩ := by
  have q2 := bits2 (told d.pic) (told d.ba) (told d.ti) (told d.ke)
  change bitN (f2 d) 7 = told d.pic ∧ bitN (f2 d) 6 = told d.ba ∧ bitN (f2 d) 5 = told d.ti ∧ bitN (f2 d) 4 = told d.ke at q2
  have q1 := bits1 ⟨d.pt, by have := h.pt; omega⟩ (anyD d) d.lo d.st
  change bitN (f1 d) 7 = anyD d ∧ bitN (f1 d) 5 = d.lo ∧ bitN (f1 d) 4 = d.st ∧ f1 d % 8 = d.pt at q1
  have e0 : encD d ++ r = UInt8.ofNat (f1 d) :: (encS d ++ (encPic d ++ (encB d ++ (encL d ++ r)))) := by
    simp [encD, bytes1]
  unfold readS
  rw [e0, rdN_cons, rawR_cons, rawE_cons, u8nat_eq (f1_lt h), q1.1, q1.2.1, q1.2.2.1, q1.2.2.2]
  unfold readF encS
  cases ha : anyD d
  · have hz : f2 d = 0 := by simpa [anyD] using ha
    rw [hz] at q2
    have z : ∀ k, bitN 0 k = false := fun k => by simp [bitN]
    simp only [z] at q2
    have h1 := told_f q2.1.symm; have h2 := told_f q2.2.1.symm; have h3 := told_f q2.2.2.1.symm; have h4 := told_f q2.2.2.2.symm
    have hw : d.wi = false := by
      cases hw : d.wi
      · rfl
      · exact absurd h1 (h.wi hw)
    have hs : d.sy = false := by
      cases hw : d.sy
      · rfl
      · exact absurd h3 (h.sy hw)
    simp only [Bool.false_eq_true, if_false, encPic, encB, encL, ← q2.1, ← q2.2.1, ← q2.2.2.1, ← q2.2.2.2, hw, Bool.or_false, List.nil_append, DD.none]
    obtain ⟨lo, st, pt, pic, wi, ba, ti, sy, ke⟩ := d
    simp only at h1 h2 h3 h4 hw hs
    subst h1 h2 h3 h4 hw hs
    rfl
  · simp only [if_true, bytes1, List.cons_append, List.nil_append]
    unfold numsS
    have hc := byte_cons (f2 d) (encPic d ++ (encB d ++ (encL d ++ r))) 0 (DD.none d.lo d.st d.pt) (f2_lt d)
    rw [hc.1, hc.2, q2.1, q2.2.1, q2.2.2.1, q2.2.2.2]
    unfold numsB
    rw [pic_back h _ _ _ rfl, ba_back h, last_back h _ _ _ rfl]
    rfl
theorem encD_len {d : DD} : 0 < (encD d).length ∧ (encD d).length ≤ 6 := by
  have h1 : (encS d).length ≤ 1 := by unfold encS; split <;> simp [bytesL_len]
  have h2 : (encPic d).length ≤ 2 := by unfold encPic; split <;> (try split) <;> simp [bytesL_len]
  have h3 : (encB d).length ≤ 1 := by unfold encB; split <;> simp [bytesL_len]
  have h4 : (encL d).length ≤ 1 := by unfold encL; split <;> simp [bytesL_len]
  unfold encD
  simp only [List.length_append, bytesL_len]
  omega
theorem res_back {d : DD} (h : RightP d) (r : List UInt8) : resD (encD d ++ r) = d ∧ resN (encD d ++ r) = (encD d).length ∧ resE (encD d ++ r) = 0 := by
  have hl := encD_len (d := d)
  have ht : (encD d ++ r).take 6 = encD d ++ r.take (6 - (encD d).length) := by
    rw [List.take_append, List.take_of_length_le hl.2]
  have hs : shortS (readS ((encD d ++ r).take 6)) = false := by
    rw [ht, read_back h]
    unfold shortS endE
    simp only
    split <;> rfl
  unfold resD resN resE
  rw [hs, ht, read_back h]
  simp
theorem beg_back {d : DD} (h : RightP d) (r : List UInt8) : begB (encD d ++ r) = (d.st && decide (d.pt = 0) && evenAt r 0) := by
  obtain ⟨h1, h2, h3⟩ := res_back h r
  unfold begB
  rw [h1, h2, h3]
  have : evenAt (encD d ++ r) (encD d).length = evenAt r 0 := by
    unfold evenAt
    cases r with
    | nil => simp
    | cons x xs => simp
  rw [this]; simp
end Go.Proofs.Ythomlikmjgeccaa
