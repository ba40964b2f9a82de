/- The walk of awake, and the four laws' walks. -/
import Derived.Test.YtgimnmfldpbpeaaBitsBytes
namespace Go.Proofs.Ytgimnmfldpbpeaa
open Go.RowKit

/-- a literal list of bytes, just made -/
theorem BS.lit (w : World) (l : List UInt8) (t : TypeId) (hm : l.length ≤ maxLen) : BS (w.alloc (.cells (c8 l).toArray t)) (.slice (some ⟨w.heap.size, 0, none⟩) l.length l.length) l :=
  BS.made w _ l t hm (fun i hi => by simp [c8, List.getElem?_eq_getElem hi])
set_option maxHeartbeats 1000000 in
theorem awake_any (w : World) : Calls Try.prog 7 #[] w fun e w' => e = .returned (.bool true) ∧ Below w.heap.size w w' := by
  have c1 : ∀ w, Calls Try.prog 8 #[.int .u64 180, .int .i64 2, .int .i64 4] w fun e w' => e = .returned (.int .u64 13) ∧ ∃ k, w' = w.drewN k := fun w => by
    have h := field_any 180 2 4 w ⟨by decide, by decide⟩
    rw [show (fieldN (180 : Int).toNat 2 4) = 13 by decide] at h
    exact h
  have c2 : ∀ w, Calls Try.prog 10 #[.int .u64 180, .int .i64 2, .int .i64 4, .int .u64 2] w fun e w' => e = .returned (.int .u64 136) ∧ w' = w := fun w => by
    have h := lay_any 180 2 4 2 w ⟨by decide, by decide⟩ ⟨by decide, by decide⟩
    rw [show (layN (180 : Int).toNat 2 4 (2 : Int).toNat) = 136 by decide] at h
    exact h
  have c3 : ∀ w, Calls Try.prog 12 #[.int .u64 255, .int .i64 8] w fun e w' => e = .returned (.int .i64 (-1)) ∧ w' = w := fun w => by
    have h := signed_any 255 8 w ⟨by decide, by decide⟩
    rw [show (signedN (255 : Int).toNat 8) = -1 by decide] at h
    exact h
  have C1 := Lib.hid c1
  have C2 := Lib.hid c2
  have C3 := Lib.hid c3
  clear c1 c2 c3
  refine calls_q fun Q HQ => ?_
  go_enter Try.func7, Try.ntmps7
  go_wp2_with (first
    | (go_at_call 8; refine (C1.out _).mono ?_; rintro e w1 ⟨rfl, k, rfl⟩)
    | (go_at_call 10; refine (C2.out _).mono ?_; rintro e w1 ⟨rfl, rfl⟩)
    | (go_at_call 12; refine (C3.out _).mono ?_; rintro e w1 ⟨rfl, rfl⟩))
  have h2 : ∀ W : World, W.heap.size = w.heap.size → Calls Try.prog 14 #[.slice (some ⟨w.heap.size, 0, none⟩) 2 2] (W.alloc (.cells #[.int .u8 1, .int .u8 2] 5)) fun e w' => e = .returned (.int .u64 258) ∧ w' = W.alloc (.cells #[.int .u8 1, .int .u8 2] 5) := fun W hW => by
    have hb := BS.lit W [1, 2] 5 (by decide)
    rw [hW] at hb
    have h := num_any _ _ _ hb
    rw [show beN (lastN [1, 2]) = 258 by decide] at h
    exact h
  refine (h2 (w.drewN k) rfl).mono ?_
  rintro e w1 ⟨rfl, rfl⟩
  clear h2
  go_wp2_with fail
  have h3 := bytes_any 258 3 ((w.drewN k).alloc (.cells #[.int .u8 1, .int .u8 2] 5)) ⟨by decide, by decide⟩
  rw [show bytesI (258 : Int).toNat 3 = [0, 1, 2] by decide] at h3
  refine h3.mono ?_
  rintro e w1 ⟨v, rfl, hv, hb⟩
  clear h3
  have hb1 : Below w.heap.size w w1 := ((below_drewN (Below.refl _ _) k).alloc (by simp) _).trans (hb.mono (by simp))
  have HB := Lib.hid hb1
  have HV := Lib.hid hv
  clear hb hb1 hv
  go_wp2_with fail
  have hv2 := HV.out.below (below_alloc (.cells #[.int .u8 0, .int .u8 1, .int .u8 2] 5))
  have hl2 := BS.lit w1 [0, 1, 2] 5 (by decide)
  refine (rsame_any _ _ _ _ _ hv2 hl2).mono ?_
  rintro e w2 ⟨rfl, n, rfl⟩
  clear hv2 hl2
  go_wp2
  refine HQ.out _ _ ⟨rfl, below_drewN (HB.out.alloc HB.out.size _) n⟩

set_option maxHeartbeats 1000000 in
theorem tells_walk (n v a s : Int) (hn : U64 n) (hv : U64 v) (b : Value) (l : List UInt8) (w : World) (hb : BS w b l) :
    Calls Try.prog 3 #[.int .u64 n, .int .u64 v, .int .i64 a, .int .i64 s, b] w fun e w' => e = .returned (.bool true) ∧ Below w.heap.size w w' := by
  have HV := Lib.hid hb
  have hlen := hb.len
  obtain ⟨A, c, rfl, _, _, _⟩ := hb
  refine calls_q fun Q HQ => ?_
  by_cases h20 : (20 : Int) < (l.length : Int)
  · go_enter Try.func3, Try.ntmps3
    go_wp2_with (go_at_call 7; refine (awake_any _).mono ?_; rintro e w1 ⟨rfl, hb1⟩)
    exact HQ.out _ _ ⟨rfl, hb1⟩
  · go_enter Try.func3, Try.ntmps3
    go_wp2_with fail
    refine (awake_any _).mono ?_
    rintro e w1 ⟨rfl, hb1⟩
    have HB := Lib.hid hb1
    clear hb1
    go_wp2_with (first
      | (go_at_call 8; refine (field_any _ _ _ _ hn).mono ?_; rintro e w2 ⟨rfl, k, rfl⟩)
      | (go_at_call 9; refine (rfield_any _ _ _ _ hn).mono ?_; rintro e w2 ⟨rfl, rfl⟩)
      | (go_at_call 10; refine (lay_any _ _ _ _ _ hn hv).mono ?_; rintro e w2 ⟨rfl, rfl⟩)
      | (go_at_call 11; refine (rlay_any _ _ _ _ _ hn hv).mono ?_; rintro e w2 ⟨rfl, rfl⟩)
      | (go_at_call 12; refine (signed_any _ _ _ hn).mono ?_; rintro e w2 ⟨rfl, rfl⟩)
      | (go_at_call 13; refine (rsigned_any _ _ _ hn).mono ?_; rintro e w2 ⟨rfl, rfl⟩))
    have hv1 := (HV.out.below HB.out).drewN k
    refine (num_any _ _ _ hv1).mono ?_
    rintro e w2 ⟨rfl, rfl⟩
    go_wp2_with fail
    have hr := rnum_any _ _ _ hv1
    rw [beN_last] at hr
    refine hr.mono ?_
    rintro e w2 ⟨rfl, rfl⟩
    clear hr hv1
    go_wp2_with fail
    refine (bytes_any _ _ _ hn).mono ?_
    rintro e w3 ⟨u, rfl, hu, hb3⟩
    have HB3 := Lib.hid ((below_drewN HB.out k).trans (hb3.mono HB.out.size))
    have HU := Lib.hid hu
    clear hu hb3
    go_wp2_with fail
    refine (rbytes_any _ _ _ hn).mono ?_
    rintro e w4 ⟨u2, rfl, hu2, hb4⟩
    have HB4 := Lib.hid (HB3.out.trans (hb4.mono HB3.out.size))
    have HU2 := Lib.hid hu2
    have HU1 := Lib.hid (HU.out.below hb4)
    clear hu2 hb4
    go_wp2_with fail
    have hs := rsame_any _ _ _ _ _ HU1.out HU2.out
    rw [beq_self_eq_true] at hs
    refine hs.mono ?_
    rintro e w5 ⟨rfl, k2, rfl⟩
    clear hs
    go_wp2
    exact HQ.out _ _ ⟨rfl, below_drewN HB4.out k2⟩

/-! ### what is laid is there -/
theorem field_bit (n : Nat) (a s : Int) (h : mayB a s = true) (i : Nat) : (fieldN n a s).testBit i = (decide (i < s.toNat) && n.testBit (i + a.toNat)) := by
  rw [fieldN, if_pos h, Nat.testBit_mod_two_pow, Nat.testBit_div_two_pow]
theorem lays1 (n v : Nat) (a s : Int) (h : mayB a s = true) : fieldN (layN n a s v) a s = fieldN v 0 s := by
  have h' := may_iff.1 h
  have h0 : mayB 0 s = true := may_iff.2 (by omega)
  apply Nat.eq_of_testBit_eq
  intro i
  rw [field_bit _ _ _ h, field_bit _ _ _ h0]
  by_cases hi : i < s.toNat
  · rw [lay_bit h (by omega), if_pos (by omega)]
    simp
  · simp [hi]
theorem lays2 (n v : Nat) (a s : Int) (h : mayB a s = true) (hn : n < 18446744073709551616) : layN (layN n a s v) a s (n / 2 ^ a.toNat) = n := by
  have h' := may_iff.1 h
  apply Nat.eq_of_testBit_eq
  intro i
  by_cases hi : i < 64
  · rw [lay_bit h hi, lay_bit h hi, Nat.testBit_div_two_pow]
    by_cases hc : a.toNat ≤ i ∧ i < a.toNat + s.toNat
    · rw [if_pos hc, show i - a.toNat + a.toNat = i by omega]
    · rw [if_neg hc, if_neg hc]
  · rw [bit_hi (layN_lt (layN_lt hn)) (by omega), bit_hi hn (by omega)]
theorem lays3 (n v : Nat) (a s o : Int) (h : mayB a s = true) (h0 : 0 ≤ o) (h63 : o ≤ 63) (ho : ¬ (a ≤ o ∧ o - a < s)) : fieldN (layN n a s v) o 1 = fieldN n o 1 := by
  have h' := may_iff.1 h
  have h1 : mayB o 1 = true := may_iff.2 (by omega)
  apply Nat.eq_of_testBit_eq
  intro i
  rw [field_bit _ _ _ h1, field_bit _ _ _ h1]
  by_cases hi : i < (1 : Int).toNat
  · rw [lay_bit h (by omega), if_neg (by omega)]
  · rw [decide_eq_false hi]; rfl
theorem u64_nat {n : Nat} (h : n < 18446744073709551616) : U64 (n : Int) := ⟨by omega, by omega⟩
set_option maxHeartbeats 1000000 in
theorem lays_walk (n v a s o : Int) (hn : U64 n) (hv : U64 v) (w : World) :
    Calls Try.prog 4 #[.int .u64 n, .int .u64 v, .int .i64 a, .int .i64 s, .int .i64 o] w fun e w' => e = .returned (.bool true) ∧ Below w.heap.size w w' := by
  obtain ⟨n, rfl⟩ := Int.eq_ofNat_of_zero_le hn.lo
  obtain ⟨v, rfl⟩ := Int.eq_ofNat_of_zero_le hv.lo
  refine calls_q fun Q HQ => ?_
  have hm := fun W => rmay_any a s W
  by_cases hb : mayB a s = true
  · rw [hb] at hm
    have HM := Lib.hid hm
    have Hb := Lib.hid hb
    obtain ⟨a1, a2, s1, s2⟩ := may_iff.1 hb
    clear hm hb
    by_cases ho : 0 ≤ o
    · by_cases ho2 : o ≤ 63
      · have hnl : n < 18446744073709551616 := by have := hn.hi; omega
        have hml := u64_nat (layN_lt (v := v) (a := a) (s := s) hnl)
        have f1 := fun W => field_any (layN n a s v) a s W hml
        have f2 := fun W => field_any v 0 s W hv
        rw [Int.toNat_natCast, lays1 _ _ _ _ Hb.out] at f1
        rw [Int.toNat_natCast] at f2
        have hd : U64 ((n / 2 ^ a.toNat : Nat) : Int) := u64_nat (Nat.lt_of_le_of_lt (Nat.div_le_self _ _) hnl)
        have f3 := fun W => lay_any (layN n a s v) a s (n / 2 ^ a.toNat : Nat) W hml hd
        simp only [Int.toNat_natCast] at f3
        rw [lays2 _ _ _ _ Hb.out hnl, show (((n / 2 ^ a.toNat : Nat)) : Int) = (n : Int) / 2 ^ a.toNat by simp] at f3
        have f4 := fun W => field_any (layN n a s v) o 1 W hml
        have f5 := fun W => field_any n o 1 W hn
        rw [Int.toNat_natCast] at f4 f5
        have F1 := Lib.hid f1
        have F2 := Lib.hid f2
        have F3 := Lib.hid f3
        have F4 := Lib.hid f4
        have F5 := Lib.hid f5
        clear f1 f2 f3 f4 f5 hnl
        rcases (show (a ≤ o ∧ o - a < s) ∨ (a ≤ o ∧ ¬ o - a < s) ∨ ¬ a ≤ o by omega) with ⟨c1, c2⟩ | ⟨c1, c2⟩ | c1
        all_goals
         go_enter Try.func4, Try.ntmps4
         go_wp2_with fail
         refine (awake_any _).mono ?_
         rintro e w1 ⟨rfl, hb1⟩
         have HB := Lib.hid hb1
         clear hb1
         go_wp2_with fail
         refine (HM.out _).mono ?_
         rintro e w2 ⟨rfl, rfl⟩
         go_wp2_with fail
         refine (lay_any _ _ _ _ _ hn hv).mono ?_
         rintro e w2 ⟨rfl, rfl⟩
         go_wp2_with fail
         refine (F1.out _).mono ?_
         rintro e w3 ⟨rfl, k1, rfl⟩
         go_wp2_with fail
         refine (F2.out _).mono ?_
         rintro e w3 ⟨rfl, k2, rfl⟩
         go_wp2_with fail
         refine (F3.out _).mono ?_
         rintro e w3 ⟨rfl, rfl⟩
         go_wp2_with fail
        · exact HQ.out _ _ ⟨rfl, below_drewN HB.out _⟩
        · have E5 := lays3 n v a s o Hb.out ho ho2 (by omega)
          refine (F4.out _).mono ?_
          rintro e w3 ⟨rfl, k3, rfl⟩
          rw [E5]
          clear E5
          go_wp2_with fail
          refine (F5.out _).mono ?_
          rintro e w3 ⟨rfl, k4, rfl⟩
          go_wp2
          exact HQ.out _ _ ⟨rfl, below_drewN HB.out _⟩
        · have E5 := lays3 n v a s o Hb.out ho ho2 (by omega)
          refine (F4.out _).mono ?_
          rintro e w3 ⟨rfl, k3, rfl⟩
          rw [E5]
          clear E5
          go_wp2_with fail
          refine (F5.out _).mono ?_
          rintro e w3 ⟨rfl, k4, rfl⟩
          go_wp2
          exact HQ.out _ _ ⟨rfl, below_drewN HB.out _⟩
      · go_enter Try.func4, Try.ntmps4
        go_wp2_with (first
          | (go_at_call 7; refine (awake_any _).mono ?_; rintro e w1 ⟨rfl, hb1⟩; have HB := Lib.hid hb1; clear hb1)
          | (go_at_call 19; refine (HM.out _).mono ?_; rintro e w2 ⟨rfl, rfl⟩))
        all_goals exact HQ.out _ _ ⟨rfl, HB.out⟩
    · go_enter Try.func4, Try.ntmps4
      go_wp2_with (first
        | (go_at_call 7; refine (awake_any _).mono ?_; rintro e w1 ⟨rfl, hb1⟩; have HB := Lib.hid hb1; clear hb1)
        | (go_at_call 19; refine (HM.out _).mono ?_; rintro e w2 ⟨rfl, rfl⟩))
      all_goals exact HQ.out _ _ ⟨rfl, HB.out⟩
  · have hb' : mayB a s = false := by simpa using hb
    rw [hb'] at hm
    have HM := Lib.hid hm
    clear hm hb hb'
    go_enter Try.func4, Try.ntmps4
    go_wp2_with (first
      | (go_at_call 7; refine (awake_any _).mono ?_; rintro e w1 ⟨rfl, hb1⟩; have HB := Lib.hid hb1; clear hb1)
      | (go_at_call 19; refine (HM.out _).mono ?_; rintro e w2 ⟨rfl, rfl⟩))
    all_goals exact HQ.out _ _ ⟨rfl, HB.out⟩

/-! ### what is written as bytes is read -/
theorem beN_cons (x : UInt8) (l : List UInt8) : beN (x :: l) = x.toNat * 256 ^ l.length + beN l := by
  have h := beN_append [x] l
  have h3 : beN [x] = x.toNat := by simp [beN]
  rw [h3] at h
  exact h
theorem beN_bytesL (x n : Nat) : beN (bytesL x n) = x % 256 ^ n := by
  induction n with
  | zero => simp [bytesL, beN, Nat.mod_one]
  | succ n ih =>
    have e : (UInt8.ofNat (x / 256 ^ n)).toNat = x / 256 ^ n % 256 := UInt8.toNat_ofNat'
    rw [bytesL_snoc, beN_cons, bytesL_len, ih, e, Nat.pow_succ, Nat.mod_mul, Nat.mul_comm, Nat.add_comm]
theorem bytesL_add (x y n : Nat) : bytesL (x * 256 ^ n + y) n = bytesL y n := by
  unfold bytesL
  apply List.map_congr_left
  intro i hi
  have hi := List.mem_range.1 hi
  have e : (256 : Nat) ^ n = 256 ^ (i + 1) * 256 ^ (n - 1 - i) := by rw [← Nat.pow_add]; congr 1; omega
  rw [e, ← Nat.mul_assoc, Nat.add_comm, Nat.add_mul_div_right _ _ (Nat.pow_pos (by decide)), Nat.pow_succ, ← Nat.mul_assoc]
  generalize y / 256 ^ (n - 1 - i) = p
  generalize x * 256 ^ i = q
  apply UInt8.toNat_inj.1
  rw [UInt8.toNat_ofNat', UInt8.toNat_ofNat']
  omega
theorem bytesL_beN (l : List UInt8) : bytesL (beN l) l.length = l := by
  induction l with
  | nil => rfl
  | cons x l ih =>
    have h1 := beN_lt l
    rw [List.length_cons, bytesL_snoc, beN_cons, bytesL_add, ih, Nat.add_comm, Nat.add_mul_div_right _ _ (Nat.pow_pos (by decide)), Nat.div_eq_of_lt h1, Nat.zero_add]
    congr 1
    apply UInt8.toNat_inj.1
    have := UInt8.toNat_lt x
    rw [UInt8.toNat_ofNat']
    omega
theorem lastN_short {l : List UInt8} (h : l.length ≤ 8) : lastN l = l := by rw [lastN, show l.length - 8 = 0 by omega]; rfl
theorem beN_u64 (l : List UInt8) : U64 ((beN (lastN l) : Nat) : Int) := by
  rw [← beN_last]
  exact u64_nat (Nat.mod_lt _ (by decide))
theorem back1 (n k : Nat) (hk : k ≤ 8) : beN (lastN (bytesL n k)) = fieldN n 0 (8 * (k : Int)) := by
  rw [lastN_short (by rw [bytesL_len]; exact hk), beN_bytesL, fieldN]
  by_cases h : mayB 0 (8 * (k : Int)) = true
  · rw [if_pos h, show (8 * (k : Int)).toNat = 8 * k by omega, show (256 : Nat) = 2 ^ 8 by decide, ← Nat.pow_mul]
    simp
  · exact absurd (may_iff.2 (by omega)) h
set_option maxHeartbeats 1000000 in
theorem back_walk (n s : Int) (hn : U64 n) (b : Value) (l : List UInt8) (w : World) (hb : BS w b l) :
    Calls Try.prog 5 #[.int .u64 n, .int .i64 s, b] w fun e w' => e = .returned (.bool true) ∧ Below w.heap.size w w' := by
  obtain ⟨n, rfl⟩ := Int.eq_ofNat_of_zero_le hn.lo
  have HV := Lib.hid hb
  have hlen := hb.len
  obtain ⟨A, c, rfl, _, _, _⟩ := hb
  refine calls_q fun Q HQ => ?_
  by_cases h0 : 0 ≤ s
  · by_cases h8 : s ≤ 8
    · by_cases hl : (l.length : Int) ≤ 8
      · obtain ⟨k, rfl⟩ := Int.eq_ofNat_of_zero_le h0
        have e1 := back1 n k (by omega)
        have HE := Lib.hid e1
        clear e1
        go_enter Try.func5, Try.ntmps5
        go_wp2_with fail
        refine (awake_any _).mono ?_
        rintro e w1 ⟨rfl, hb1⟩
        have HB := Lib.hid hb1
        clear hb1
        go_wp2_with fail
        refine (bytes_any _ _ _ hn).mono ?_
        rintro e w2 ⟨v2, rfl, hv2, hb2⟩
        rw [bytesI, if_pos (by omega), Int.toNat_natCast, Int.toNat_natCast] at hv2
        have HB2 := Lib.hid (HB.out.trans (hb2.mono HB.out.size))
        have HV1 := Lib.hid ((HV.out.below HB.out).below hb2)
        have HV2 := Lib.hid hv2
        clear hb2
        obtain ⟨A2, c2, rfl, _, _, _⟩ := hv2
        have hbl := bytesL_len n k
        generalize (bytesL n k).length = m at *
        subst hbl
        go_wp2_with fail
        have h1 := num_any _ _ _ HV2.out
        rw [HE.out] at h1
        refine h1.mono ?_
        rintro e w3 ⟨rfl, rfl⟩
        clear h1
        go_wp2_with fail
        have h2 := field_any n 0 (8 * (m : Int)) w3 hn
        rw [Int.toNat_natCast] at h2
        refine h2.mono ?_
        rintro e w4 ⟨rfl, k2, rfl⟩
        clear h2
        go_wp2_with fail
        refine (num_any _ _ _ (HV1.out.drewN k2)).mono ?_
        rintro e w4 ⟨rfl, rfl⟩
        go_wp2_with fail
        have h3 := bytes_any (beN (lastN l) : Nat) (l.length : Int) (w3.drewN k2) (beN_u64 l)
        rw [Int.toNat_natCast, bytesI, if_pos (by omega), Int.toNat_natCast, lastN_short (by omega), bytesL_beN] at h3
        rw [lastN_short (by omega)]
        refine h3.mono ?_
        rintro e w4 ⟨u, rfl, hu, hb4⟩
        clear h3
        have HB4 := Lib.hid ((below_drewN HB2.out k2).trans (hb4.mono HB2.out.size))
        have HV4 := Lib.hid ((HV1.out.drewN k2).below hb4)
        have HU := Lib.hid hu
        clear hu hb4
        go_wp2_with fail
        have h4 := rsame_any _ _ _ _ _ HU.out HV4.out
        rw [beq_self_eq_true] at h4
        refine h4.mono ?_
        rintro e w5 ⟨rfl, k3, rfl⟩
        clear h4
        go_wp2
        exact HQ.out _ _ ⟨rfl, below_drewN HB4.out k3⟩
      · go_enter Try.func5, Try.ntmps5
        go_wp2_with (go_at_call 7; refine (awake_any _).mono ?_; rintro e w1 ⟨rfl, hb1⟩; have HB := Lib.hid hb1; clear hb1)
        all_goals exact HQ.out _ _ ⟨rfl, HB.out⟩
    · go_enter Try.func5, Try.ntmps5
      go_wp2_with (go_at_call 7; refine (awake_any _).mono ?_; rintro e w1 ⟨rfl, hb1⟩; have HB := Lib.hid hb1; clear hb1)
      all_goals exact HQ.out _ _ ⟨rfl, HB.out⟩
  · go_enter Try.func5, Try.ntmps5
    go_wp2_with (go_at_call 7; refine (awake_any _).mono ?_; rintro e w1 ⟨rfl, hb1⟩; have HB := Lib.hid hb1; clear hb1)
    all_goals exact HQ.out _ _ ⟨rfl, HB.out⟩
end Go.Proofs.Ytgimnmfldpbpeaa
