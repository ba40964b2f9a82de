/- The walks of the law package's own calls: awake, may. -/
import Derived.Test.YteoegmfhfejdkaaSnH
namespace Go.Proofs.Yteoegmfhfejdkaa
open Go.RowKit
theorem lit_first (n : Int) (w : World) : Calls Try.prog 14 #[.int .i64 n] w fun e w' => e = .returned (.agg #[.int .i64 n, .int .u64 1]) ∧ Below w.heap.size w w' := sfirst_any n w
theorem lit_mark (h n h' : Int) (b b' : Nat) (hh : Nr h) (hn : Nr n) (hb : b < 18446744073709551616) (e1 : max h n = h') (e2 : markB h b n = b') (w : World) :
    Calls Try.prog 8 #[.agg #[.int .i64 h, .int .u64 (b : Nat)], .int .i64 n] w fun e w' => e = .returned (.agg #[.int .i64 h', .int .u64 (b' : Nat)]) ∧ Below w.heap.size w w' := by
  subst e1 e2; exact smark_any h n b w hh hn hb
theorem lit_has (h n : Int) (b : Nat) (x : Bool) (hh : Nr h) (hn : Nr n) (hb : b < 18446744073709551616) (e1 : knowB h b n = x) (w : World) :
    Calls Try.prog 10 #[.agg #[.int .i64 h, .int .u64 (b : Nat)], .int .i64 n] w fun e w' => e = .returned (.bool x) ∧ Below w.heap.size w w' := by
  subst e1; exact shas_any h n b w hh hn hb
theorem lit_many (h : Int) (b m : Nat) (hb : b < 18446744073709551616) (e1 : manyB b = m) (w : World) :
    Calls Try.prog 12 #[.agg #[.int .i64 h, .int .u64 (b : Nat)]] w fun e w' => e = .returned (.int .i64 (m : Nat)) ∧ Below w.heap.size w w' := by
  subst e1; exact smany_any h b w hb
theorem awake11_any (w : World) :
    Calls Try.prog 6 #[] w fun e w' => e = .returned (.bool true) ∧ Below w.heap.size w w' := by
  have m1 := lit_mark 5 7 7 1 5 ⟨by decide, by decide⟩ ⟨by decide, by decide⟩ (by decide) rfl (by decide)
  have m2 := lit_mark 7 6 7 5 7 ⟨by decide, by decide⟩ ⟨by decide, by decide⟩ (by decide) rfl (by decide)
  have m3 := lit_mark 7 100 100 7 1 ⟨by decide, by decide⟩ ⟨by decide, by decide⟩ (by decide) rfl (by decide)
  have m4 := lit_mark 7 (-100) 7 7 7 ⟨by decide, by decide⟩ ⟨by decide, by decide⟩ (by decide) rfl (by decide)
  have h1 := lit_has 7 5 7 true ⟨by decide, by decide⟩ ⟨by decide, by decide⟩ (by decide) (by decide)
  have h2 := lit_has 7 4 7 false ⟨by decide, by decide⟩ ⟨by decide, by decide⟩ (by decide) (by decide)
  have h3 := lit_has 7 8 7 false ⟨by decide, by decide⟩ ⟨by decide, by decide⟩ (by decide) (by decide)
  have n1 := lit_many 7 7 3 (by decide) (by decide)
  simp only [Int.cast_ofNat_Int] at m1 m2 m3 m4 h1 h2 h3 n1
  have M1 := Lib.hid m1
  have M2 := Lib.hid m2
  have M3 := Lib.hid m3
  have M4 := Lib.hid m4
  have H1 := Lib.hid h1
  have H2 := Lib.hid h2
  have H3 := Lib.hid h3
  have N1 := Lib.hid n1
  clear m1 m2 m3 m4 h1 h2 h3 n1
  refine calls_q fun Q HQ => ?_
  go_enter Try.func6, Try.ntmps6
  go_wp2_with fail
  refine (lit_first 5 _).mono ?_
  rintro e w1 ⟨rfl, hb1⟩
  go_wp2_with fail
  refine (M1.out _).mono ?_
  rintro e w2 ⟨rfl, hb2⟩
  go_wp2_with fail
  refine (M2.out _).mono ?_
  rintro e w3 ⟨rfl, hb3⟩
  have hb := hb1.trans ((hb2.mono hb1.size).trans (hb3.mono (Nat.le_trans hb1.size hb2.size)))
  have HW := Lib.hid (show Bw w 24 w3.heap.size 7 7 (w3.alloc (snO 24 7 7)) from ⟨hb.trans ((below_alloc _).mono hb.size), sn_new w3 _ _ _⟩)
  clear hb1 hb2 hb3 hb M1 M2
  go_upto_region 2 with fail
  generalize hwa : w3.alloc (Obj.cells #[Value.int IntKind.i64 7, Value.int IntKind.u64 7] 24) = wa
  have HW : Hid (Bw w 24 w3.heap.size 7 7 wa) := hwa ▸ HW
  clear hwa
  generalize w3.heap.size = bx at *
  go_region_held3 (fun w' => Bw w 24 bx 7 7 w' ∧ w'.cell? ⟨bx, 0, none⟩ = some (.int .i64 7) ∧ w'.cell? ⟨bx, 1, none⟩ = some (.int .u64 7)) (first | exact ((‹Bw _ _ _ _ _ _ ∧ _›).1.after (by assumption)).cells | exact (HW.out.drew).cells) (first
    | (go_at_call 14; refine (lit_first _ _).mono ?_; rintro e w9 ⟨rfl, hb⟩)
    | (go_at_call 12; refine (N1.out _).mono ?_; rintro e w9 ⟨rfl, hb⟩)
    | (go_at_call 10; with_reducible refine (H1.out _).mono ?_; rintro e w9 ⟨rfl, hb⟩)
    | (go_at_call 10; with_reducible refine (H2.out _).mono ?_; rintro e w9 ⟨rfl, hb⟩)
    | (go_at_call 10; with_reducible refine (H3.out _).mono ?_; rintro e w9 ⟨rfl, hb⟩)
    | (go_at_call 8; with_reducible refine (M3.out _).mono ?_; rintro e w9 ⟨rfl, hb⟩)
    | (go_at_call 8; with_reducible refine (M4.out _).mono ?_; rintro e w9 ⟨rfl, hb⟩))
  all_goals (go_wp2_with fail; exact HQ.out _ _ ⟨rfl, (‹Bw _ _ _ _ _ _ ∧ _›).1.bel⟩)
/-- may a number and a window be? -/
def mayW (n h : Int) (b : Nat) : Bool := decide (-2305843009213693952 ≤ n ∧ n ≤ 2305843009213693952 ∧ -2305843009213693952 ≤ h ∧ h ≤ 2305843009213693952 ∧ b % 2 = 1)
theorem smay_any (n h : Int) (b : Nat) (w : World) :
    Calls Try.prog 7 #[.int .i64 n, snV h b] w fun e w' => e = .returned (.bool (mayW n h b)) ∧ Below w.heap.size w w' := by
  have hb := below_alloc (w := w) (snO 24 h b)
  have HB := Lib.hid hb
  clear hb
  unfold snV
  refine calls_q fun Q HQ => ?_
  go_enter Try.func7, Try.ntmps7
  go_wp2_with fail
  all_goals exact HQ.out _ _ ⟨ret_bool (by rw [Bool.eq_iff_iff]; simp [mayW]; omega), HB.out⟩
end Go.Proofs.Yteoegmfhfejdkaa
