/- The walks of probe's small functions: mark, marked, mayBe, Right, firstByte, secondByte, lastByte. -/
import Derived.Test.YthomlikmjgeccaaPb
namespace Go.Proofs.Ythomlikmjgeccaa
open Go.RowKit

theorem mark_any (n k : Nat) (b : Bool) (w : World) (hn : U64 (n : Nat)) :
    Calls Try.prog 25 #[.int .u64 (n : Nat), .int .i64 (k : Nat), .bool b] w fun e w' => e = .returned (.int .u64 (markN n k b : Nat)) ∧ w' = w := by
  refine calls_q fun Q HQ => ?_
  have hc := Lib.hid (lay_any (n : Nat) (k : Nat) 1 1 w hn ⟨by decide, by decide⟩)
  cases b
  · clear hc
    go_enter Try.func25, Try.ntmps25
    go_wp2_with fail
    exact HQ.out _ _ ⟨rfl, rfl⟩
  · go_enter Try.func25, Try.ntmps25
    go_wp2_with fail
    refine hc.out.mono ?_
    rintro e w1 ⟨rfl, rfl⟩
    go_wp2_with fail
    exact HQ.out _ _ ⟨rfl, rfl⟩
theorem marked_any (n k : Nat) (w : World) (hn : U64 (n : Nat)) (hk : k ≤ 62) :
    Calls Try.prog 19 #[.int .u64 (n : Nat), .int .i64 (k : Nat)] w fun e w' => e = .returned (.bool (bitN n k)) ∧ ∃ j, w' = w.drewN j := by
  have hf := field_any (n : Nat) (k : Nat) 1 w hn
  have he : fieldN (n : Int).toNat (k : Int) 1 = n / 2 ^ k % 2 := by
    unfold fieldN
    rw [if_pos (by rw [may_iff]; omega), Int.toNat_natCast, Int.toNat_natCast]
    rfl
  rw [he] at hf
  have hb : (((n / 2 ^ k % 2 : Nat) : Int) == 1) = bitN n k := by
    rw [bitN, Bool.eq_iff_iff, beq_iff_eq, decide_eq_true_eq]; omega
  generalize n / 2 ^ k % 2 = x at *
  have HF := Lib.hid hf
  clear hf he
  refine calls_q fun Q HQ => ?_
  go_enter Try.func19, Try.ntmps19
  go_wp2_with fail
  refine HF.out.mono ?_
  rintro e w1 ⟨rfl, j, rfl⟩
  go_wp2_with fail
  exact HQ.out _ _ ⟨rfl, j, rfl⟩
theorem pmay_is (n m : Int) (w : World) :
    Calls Try.prog 24 #[.int .i64 n, .int .i64 m] w fun e w' => e = .returned (.bool (mayN n m)) ∧ w' = w := by
  refine calls_q fun Q HQ => ?_
  unfold mayN at HQ
  go_enter Try.func24, Try.ntmps24
  go_wp2_with fail
  all_goals exact HQ.out _ _ ⟨ret_bool (by rw [Bool.eq_iff_iff]; simp; omega), rfl⟩
theorem u64_lt {n : Nat} (h : n < 256) : U64 (n : Nat) := ⟨by omega, by omega⟩
theorem wrap8 {n : Nat} (h : n < 256) : IntKind.u8.wrap (n : Nat) = (n : Nat) := by rw [wrap_u8]; omega
theorem psecond_any (d : DD) (w : World) :
    Calls Try.prog 11 #[d.val] w fun e w' => e = .returned (.int .u8 (f2 d : Nat)) ∧ Below w.heap.size w w' := by
  have hb := below_alloc (w := w) (.cells d.cs 23)
  have hm := mark2 (told d.pic) (told d.ba) (told d.ti) (told d.ke)
  have hlt := f2_lt d
  change _ = f2 d at hm
  have m1 : ∀ a : Bool, markN 0 7 a < 256 := by decide
  have m2 : ∀ a b : Bool, markN (markN 0 7 a) 6 b < 256 := by decide
  have m3 : ∀ a b c : Bool, markN (markN (markN 0 7 a) 6 b) 5 c < 256 := by decide
  have M1 := Lib.hid (mark_any 0 7 (told d.pic) (w.alloc (.cells d.cs 23)) (u64_lt (by omega)))
  have M2 := Lib.hid (mark_any _ 6 (told d.ba) (w.alloc (.cells d.cs 23)) (u64_lt (m1 (told d.pic))))
  have M3 := Lib.hid (mark_any _ 5 (told d.ti) (w.alloc (.cells d.cs 23)) (u64_lt (m2 (told d.pic) (told d.ba))))
  have M4 := Lib.hid (mark_any _ 4 (told d.ke) (w.alloc (.cells d.cs 23)) (u64_lt (m3 (told d.pic) (told d.ba) (told d.ti))))
  rw [hm] at M4
  have hw8 := wrap8 hlt
  clear m1 m2 m3 hm
  unfold told at *
  generalize f2 d = x2 at *
  obtain ⟨lo, st, pt, pic, wi, ba, ti, sy, ke⟩ := d
  simp only [DD.val, DD.cs] at *
  have HB := Lib.hid hb
  clear hb
  refine calls_q fun Q HQ => ?_
  go_enter Try.func11, Try.ntmps11
  go_wp2_with fail
  refine M1.out.mono ?_
  rintro e w1 ⟨rfl, rfl⟩
  go_wp2_with fail
  refine M2.out.mono ?_
  rintro e w1 ⟨rfl, rfl⟩
  go_wp2_with fail
  refine M3.out.mono ?_
  rintro e w1 ⟨rfl, rfl⟩
  go_wp2_with fail
  refine M4.out.mono ?_
  rintro e w1 ⟨rfl, rfl⟩
  go_wp2_with fail
  exact HQ.out _ _ ⟨rfl, HB.out⟩
theorem pfirst_any (d : DD) (h : RightP d) (w : World) :
    Calls Try.prog 13 #[d.val, .bool (anyD d)] w fun e w' => e = .returned (.int .u8 (f1 d : Nat)) ∧ Below w.heap.size w w' := by
  have hb := below_alloc (w := w) (.cells d.cs 23)
  have hpt := h.pt
  have hm := mark1 ⟨d.pt, by omega⟩ (anyD d) d.lo d.st
  have hlt := f1_lt h
  change _ = f1 d at hm
  simp only at hm
  have m1 : ∀ n : Fin 8, ∀ a : Bool, markN n.val 7 a < 256 := by decide
  have m2 : ∀ n : Fin 8, ∀ a b : Bool, markN (markN n.val 7 a) 5 b < 256 := by decide
  have m1 := m1 ⟨d.pt, by omega⟩ (anyD d)
  have m2 := m2 ⟨d.pt, by omega⟩ (anyD d) d.lo
  simp only at m1 m2
  have hu := u64_lt (show d.pt < 256 by omega)
  have hwr := u64_id hu
  have M1 := Lib.hid (mark_any d.pt 7 (anyD d) (w.alloc (.cells d.cs 23)) hu)
  have M2 := Lib.hid (mark_any _ 5 d.lo (w.alloc (.cells d.cs 23)) (u64_lt m1))
  have M3 := Lib.hid (mark_any _ 4 d.st (w.alloc (.cells d.cs 23)) (u64_lt m2))
  rw [hm] at M3
  have hw8 := wrap8 hlt
  clear m1 m2 hm h hu
  generalize f1 d = x2 at *
  generalize anyD d = more at *
  obtain ⟨lo, st, pt, pic, wi, ba, ti, sy, ke⟩ := d
  simp only [DD.val, DD.cs] at *
  have HB := Lib.hid hb
  clear hb
  refine calls_q fun Q HQ => ?_
  go_enter Try.func13, Try.ntmps13
  go_wp2_with fail
  refine M1.out.mono ?_
  rintro e w1 ⟨rfl, rfl⟩
  go_wp2_with fail
  refine M2.out.mono ?_
  rintro e w1 ⟨rfl, rfl⟩
  go_wp2_with fail
  refine M3.out.mono ?_
  rintro e w1 ⟨rfl, rfl⟩
  go_wp2_with fail
  exact HQ.out _ _ ⟨rfl, HB.out⟩
theorem plast_any (d : DD) (h : RightP d) (w : World) :
    Calls Try.prog 15 #[d.val] w fun e w' => e = .returned (.int .u8 (f3 d : Nat)) ∧ Below w.heap.size w w' := by
  have hb := below_alloc (w := w) (.cells d.cs 23)
  have p0 := h.ti0; have p1 := h.ti1; have p2 := h.ke0; have p3 := h.ke1
  have hm := mark3 ⟨d.ke.toNat, by omega⟩ ⟨d.ti.toNat, by omega⟩ d.sy
  have hlt := f3_lt h
  change _ = f3 d at hm
  simp only at hm
  have m1 : ∀ k : Fin 32, ∀ t : Fin 4, layN k.val 6 2 t.val < 256 := by decide
  have m1 := m1 ⟨d.ke.toNat, by omega⟩ ⟨d.ti.toNat, by omega⟩
  simp only at m1
  have L1 := lay_any (d.ke.toNat : Nat) 6 2 (d.ti.toNat : Nat) (w.alloc (.cells d.cs 23)) (u64_lt (by omega)) (u64_lt (by omega))
  rw [Int.toNat_natCast, Int.toNat_natCast] at L1
  have M1 := mark_any _ 5 d.sy (w.alloc (.cells d.cs 23)) (u64_lt m1)
  rw [hm] at M1
  have hw8 := wrap8 hlt
  have k1 : IntKind.u64.wrap (max 0 d.ke) = (d.ke.toNat : Nat) := by rw [wrap_u64]; omega
  have k2 : IntKind.u64.wrap (max 0 d.ti) = (d.ti.toNat : Nat) := by rw [wrap_u64]; omega
  have K1 := Lib.hid k1
  have K2 := Lib.hid k2
  clear m1 hm h p0 p1 p2 p3 k1 k2
  generalize f3 d = x2 at *
  obtain ⟨lo, st, pt, pic, wi, ba, ti, sy, ke⟩ := d
  simp only [DD.val, DD.cs] at *
  generalize layN ke.toNat 6 2 ti.toNat = x1 at *
  have HL := Lib.hid L1
  have HM := Lib.hid M1
  have HB := Lib.hid hb
  clear hb L1 M1
  refine calls_q fun Q HQ => ?_
  go_enter Try.func15, Try.ntmps15
  go_wp2_with fail
  all_goals (
    have hc := HL.out
    rw [← K1.out, ← K2.out] at hc
    first | rw [Int.max_eq_right (show (0 : Int) ≤ ke by omega)] at hc | rw [Int.max_eq_left (show ke ≤ 0 by omega)] at hc
    first | rw [Int.max_eq_right (show (0 : Int) ≤ ti by omega)] at hc | rw [Int.max_eq_left (show ti ≤ 0 by omega)] at hc
    refine hc.mono ?_
    clear hc
    rintro e w1 ⟨rfl, rfl⟩
    go_wp2_with fail
    refine HM.out.mono ?_
    rintro e w1 ⟨rfl, rfl⟩
    go_wp2_with fail
    exact HQ.out _ _ ⟨rfl, HB.out⟩)
set_option maxHeartbeats 2000000 in
theorem pright_any (d : DD) (w : World) :
    Calls Try.prog 10 #[d.val] w fun e w' => e = .returned (.bool (rightD d)) ∧ Below w.heap.size w w' := by
  have hb := below_alloc (w := w) (.cells d.cs 23)
  obtain ⟨lo, st, pt, pic, wi, ba, ti, sy, ke⟩ := d
  simp only [DD.val, DD.cs, rightD] at *
  have HB := Lib.hid hb
  have M1 := Lib.hid (pmay_is pic (if wi then 32767 else 127) (w.alloc (.cells #[.bool lo, .bool st, .int .u8 (pt : Nat), .int .i64 pic, .bool wi, .int .i64 ba, .int .i64 ti, .bool sy, .int .i64 ke] 23)))
  have M2 := Lib.hid (pmay_is ba 255 (w.alloc (.cells #[.bool lo, .bool st, .int .u8 (pt : Nat), .int .i64 pic, .bool wi, .int .i64 ba, .int .i64 ti, .bool sy, .int .i64 ke] 23)))
  have M3 := Lib.hid (pmay_is ti 3 (w.alloc (.cells #[.bool lo, .bool st, .int .u8 (pt : Nat), .int .i64 pic, .bool wi, .int .i64 ba, .int .i64 ti, .bool sy, .int .i64 ke] 23)))
  have M4 := Lib.hid (pmay_is ke 31 (w.alloc (.cells #[.bool lo, .bool st, .int .u8 (pt : Nat), .int .i64 pic, .bool wi, .int .i64 ba, .int .i64 ti, .bool sy, .int .i64 ke] 23)))
  clear hb
  generalize mayN pic (if wi then 32767 else 127) = b1 at *
  generalize mayN ba 255 = b2 at *
  generalize mayN ti 3 = b3 at *
  generalize mayN ke 31 = b4 at *
  refine calls_q fun Q HQ => ?_
  cases hx : (wi && pic == -1 || sy && ti == -1)
  · rw [hx] at HQ
    have h1 : wi = true → (pic == -1) = false := by rintro rfl; simpa using And.left (Bool.or_eq_false_iff.1 hx)
    have h2 : sy = true → (ti == -1) = false := by rintro rfl; simpa using And.right (Bool.or_eq_false_iff.1 hx)
    clear hx
    have H1 := Lib.hid h1
    have H2 := Lib.hid h2
    clear h1 h2
    cases wi <;> cases sy
    all_goals (
      have h1 := H1.out
      have h2 := H2.out
      simp only [forall_const, Bool.false_eq_true, false_implies] at h1 h2
      go_enter Try.func10, Try.ntmps10
      go_wp2_with fail)
    all_goals (first | exact HQ.out _ _ ⟨ret_bool (by first | (simp_all; done) | (simp_all; omega)), HB.out⟩ | skip)
    all_goals (refine M1.out.mono ?_; rintro e w1 ⟨rfl, rfl⟩; go_wp2_with fail)
    all_goals (first | exact HQ.out _ _ ⟨ret_bool (by first | (simp_all; done) | (simp_all; omega)), HB.out⟩ | skip)
    all_goals (refine M2.out.mono ?_; rintro e w1 ⟨rfl, rfl⟩; go_wp2_with fail)
    all_goals (first | exact HQ.out _ _ ⟨ret_bool (by first | (simp_all; done) | (simp_all; omega)), HB.out⟩ | skip)
    all_goals (refine M3.out.mono ?_; rintro e w1 ⟨rfl, rfl⟩; go_wp2_with fail)
    all_goals (first | exact HQ.out _ _ ⟨ret_bool (by first | (simp_all; done) | (simp_all; omega)), HB.out⟩ | skip)
    all_goals (refine M4.out.mono ?_; rintro e w1 ⟨rfl, rfl⟩; go_wp2_with fail)
    all_goals exact HQ.out _ _ ⟨ret_bool (by first | (simp_all; done) | (simp_all; omega)), HB.out⟩
  · rw [hx] at HQ
    have hx' : (wi = true ∧ (pic == -1) = true) ∨ (sy = true ∧ (ti == -1) = true) := by simpa using hx
    clear M1 M2 M3 M4
    rcases hx' with ⟨rfl, h1⟩ | ⟨rfl, h1⟩
    all_goals (
      go_enter Try.func10, Try.ntmps10
      go_wp2_with fail)
    all_goals exact HQ.out _ _ ⟨rfl, below_alloc _⟩
end Go.Proofs.Ythomlikmjgeccaa
