/- The walks of package serial: how far one number is ahead of another one, extended numbers. -/
import Derived.Test.YtpbfaoekjdcgdaaBase
namespace Go.Proofs.Ytpbfaoekjdcgdaa
open Go.RowKit

/-- how far b is ahead of a, of a round r -/
def ahd (r a b : Int) : Int := if r ≤ 2 * ((b - a) % r) then (b - a) % r - r else (b - a) % r
theorem ahd16 (a b : Int) : IntKind.i16.wrap (IntKind.u16.wrap (b - a)) = ahd 65536 a b := by
  simp [IntKind.wrap, IntKind.bits, IntKind.signed, ahd]; omega
theorem ahd32 (a b : Int) : IntKind.i32.wrap (IntKind.u32.wrap (b - a)) = ahd 4294967296 a b := by
  simp [IntKind.wrap, IntKind.bits, IntKind.signed, ahd]; omega
theorem ahd32' (a b : Int) : wrap32 ((b - a) % 4294967296) = ahd 4294967296 a b := by
  unfold wrap32 ahd; split <;> omega
theorem ahd16_rng (a b : Int) : -32768 ≤ ahd 65536 a b ∧ ahd 65536 a b ≤ 32767 := by unfold ahd; split <;> omega
theorem ahd32_rng (a b : Int) : -2147483648 ≤ ahd 4294967296 a b ∧ ahd 4294967296 a b ≤ 2147483647 := by unfold ahd; split <;> omega
theorem ahd16_64 (a b : Int) : wrap64 (ahd 65536 a b) = ahd 65536 a b := by have := ahd16_rng a b; unfold wrap64; omega
theorem ahd32_64 (a b : Int) : wrap64 (ahd 4294967296 a b) = ahd 4294967296 a b := by have := ahd32_rng a b; unfold wrap64; omega

set_option maxHeartbeats 400000 in
theorem ahead16_any (a b : Int) (w : World) :
    Calls Try.prog 13 #[.int .u16 a, .int .u16 b] w fun e w' => e = .returned (.int .i16 (ahd 65536 a b)) ∧ w' = w := by
  refine calls_q fun Q HQ => ?_
  go_enter Try.func13, Try.ntmps13
  go_wp2
  exact HQ.out _ _ ⟨ret_int (ahd16 a b), rfl⟩
set_option maxHeartbeats 400000 in
theorem ahead32_any (a b : Int) (w : World) :
    Calls Try.prog 14 #[.int .u32 a, .int .u32 b] w fun e w' => e = .returned (.int .i32 (ahd 4294967296 a b)) ∧ w' = w := by
  refine calls_q fun Q HQ => ?_
  go_enter Try.func14, Try.ntmps14
  go_wp2
  exact HQ.out _ _ ⟨ret_int (ahd32' a b), rfl⟩
set_option maxHeartbeats 400000 in
theorem ahead_any (a b : Int) (w : World) :
    Calls Try.prog 7 #[.int .u16 a, .int .u16 b] w fun e w' => e = .returned (.int .i64 (ahd 65536 a b)) ∧ w' = w := by
  refine calls_q fun Q HQ => ?_
  go_enter Try.func7, Try.ntmps7
  go_wp2_with (go_at_call 13; refine (ahead16_any _ _ _).mono ?_; rintro e w1 ⟨rfl, rfl⟩)
  exact HQ.out _ _ ⟨ret_int (ahd16_64 a b), rfl⟩
set_option maxHeartbeats 400000 in
theorem aheadl_any (a b : Int) (w : World) :
    Calls Try.prog 8 #[.int .u32 a, .int .u32 b] w fun e w' => e = .returned (.int .i64 (ahd 4294967296 a b)) ∧ w' = w := by
  refine calls_q fun Q HQ => ?_
  go_enter Try.func8, Try.ntmps8
  go_wp2_with (go_at_call 14; refine (ahead32_any _ _ _).mono ?_; rintro e w1 ⟨rfl, rfl⟩)
  exact HQ.out _ _ ⟨ret_int (ahd32_64 a b), rfl⟩
set_option maxHeartbeats 400000 in
theorem newer_any (a b : Int) (w : World) :
    Calls Try.prog 9 #[.int .u16 a, .int .u16 b] w fun e w' => e = .returned (.bool (decide (0 < ahd 65536 a b))) ∧ w' = w := by
  refine calls_q fun Q HQ => ?_
  go_enter Try.func9, Try.ntmps9
  go_wp2_with (go_at_call 7; refine (ahead_any _ _ _).mono ?_; rintro e w1 ⟨rfl, rfl⟩)
  exact HQ.out _ _ ⟨ret_bool rfl, rfl⟩
set_option maxHeartbeats 400000 in
theorem low_any (n : Int) (w : World) :
    Calls Try.prog 11 #[.int .i64 n] w fun e w' => e = .returned (.int .u16 (n % 65536)) ∧ w' = w := by
  refine calls_q fun Q HQ => ?_
  go_enter Try.func11, Try.ntmps11
  go_wp2
  exact HQ.out _ _ ⟨ret_int rfl, rfl⟩
set_option maxHeartbeats 400000 in
theorem first_any (s : Int) (w : World) (h0 : 0 ≤ s) (h1 : s < 65536) :
    Calls Try.prog 12 #[.int .u16 s] w fun e w' => e = .returned (.int .i64 (65536 + s)) ∧ w' = w := by
  refine calls_q fun Q HQ => ?_
  go_enter Try.func12, Try.ntmps12
  go_wp2
  exact HQ.out _ _ ⟨ret_int rfl, rfl⟩
set_option maxHeartbeats 400000 in
theorem extend_any (n s : Int) (w : World) :
    Calls Try.prog 10 #[.int .i64 n, .int .u16 s] w fun e w' => e = .returned (.int .i64 (wrap64 (n + ahd 65536 (n % 65536) s))) ∧ w' = w := by
  refine calls_q fun Q HQ => ?_
  go_enter Try.func10, Try.ntmps10
  go_wp2_with (first
    | (go_at_call 11; refine (low_any _ _).mono ?_; rintro e w1 ⟨rfl, rfl⟩)
    | (go_at_call 7; refine (ahead_any _ _ _).mono ?_; rintro e w1 ⟨rfl, rfl⟩))
  exact HQ.out _ _ ⟨ret_int rfl, rfl⟩
/-- the extended number near another one -/
def ext (n s : Int) : Int := n + ahd 65536 (n % 65536) s
set_option maxHeartbeats 400000 in
theorem extend_near (n s : Int) (w : World) (h0 : 0 ≤ n) (h1 : n ≤ 4611686018427387904) :
    Calls Try.prog 10 #[.int .i64 n, .int .u16 s] w fun e w' => e = .returned (.int .i64 (ext n s)) ∧ w' = w := by
  have h := extend_any n s w
  have hr := ahd16_rng (n % 65536) s
  rw [show wrap64 (n + ahd 65536 (n % 65536) s) = ext n s by unfold ext wrap64; omega] at h
  exact h
set_option maxHeartbeats 400000 in
theorem awake2_any (w : World) : Calls Try.prog 6 #[] w fun e w' => e = .returned (.bool true) ∧ w' = w := by
  refine calls_q fun Q HQ => ?_
  go_enter Try.func6, Try.ntmps6
  go_wp2_with fail
  refine (show Calls _ _ _ _ fun e w' => e = .returned (.int .i64 3) ∧ w' = _ from ahead_any 65535 2 _).mono ?_; rintro e w1 ⟨rfl, rfl⟩
  go_wp2_with fail
  refine (show Calls _ _ _ _ fun e w' => e = .returned (.int .i64 (-32768)) ∧ w' = _ from ahead_any 0 32768 _).mono ?_; rintro e w1 ⟨rfl, rfl⟩
  go_wp2_with fail
  refine (show Calls _ _ _ _ fun e w' => e = .returned (.bool true) ∧ w' = _ from newer_any 65535 2 _).mono ?_; rintro e w1 ⟨rfl, rfl⟩
  go_wp2_with fail
  refine (show Calls _ _ _ _ fun e w' => e = .returned (.bool false) ∧ w' = _ from newer_any 2 2 _).mono ?_; rintro e w1 ⟨rfl, rfl⟩
  go_wp2_with fail
  refine (show Calls _ _ _ _ fun e w' => e = .returned (.int .i64 2) ∧ w' = _ from aheadl_any 4294967295 1 _).mono ?_; rintro e w1 ⟨rfl, rfl⟩
  go_wp2_with fail
  refine (show Calls _ _ _ _ fun e w' => e = .returned (.int .i64 65541) ∧ w' = _ from first_any 5 _ (by decide) (by decide)).mono ?_; rintro e w1 ⟨rfl, rfl⟩
  go_wp2_with fail
  refine (show Calls _ _ _ _ fun e w' => e = .returned (.int .i64 65538) ∧ w' = _ from extend_near 65535 2 _ (by decide) (by decide)).mono ?_; rintro e w1 ⟨rfl, rfl⟩
  go_wp2_with fail
  refine (show Calls _ _ _ _ fun e w' => e = .returned (.int .u16 65535) ∧ w' = _ from low_any (-1) _).mono ?_; rintro e w1 ⟨rfl, rfl⟩
  go_wp2
  exact HQ.out _ _ ⟨rfl, rfl⟩
end Go.Proofs.Ytpbfaoekjdcgdaa
