/- The walk of the law on numbers near another one. -/
import Derived.Test.YtpbfaoekjdcgdaaSerialLaw
namespace Go.Proofs.Ytpbfaoekjdcgdaa
open Go.RowKit

theorem ext_rng (n s : Int) : -32768 ≤ ext n s - n ∧ ext n s - n ≤ 32767 := by
  have := ahd16_rng (n % 65536) s; unfold ext; omega
theorem ext_low (n s : Int) (h0 : 0 ≤ s) (h1 : s < 65536) : ext n s % 65536 = s := by unfold ext ahd; split <;> omega
theorem ext_back (n o : Int) (h0 : -32768 ≤ o) (h1 : o ≤ 32767) : ext n ((n + o) % 65536) = n + o := by unfold ext ahd; split <;> omega
set_option maxHeartbeats 2000000 in
theorem snear_walk (n s o : Int) (hs : Fits 65536 s) (h0 : -32768 ≤ o) (h1 : o ≤ 32767) (w : World) :
    Calls Try.prog 4 #[.int .i64 n, .int .u16 s, .int .i16 o] w fun e w' => e = .returned (.bool true) ∧ Below w.heap.size w w' := by
  refine calls_q fun Q HQ => ?_
  by_cases c1 : 0 ≤ n
  · by_cases c2 : n ≤ 4611686018427387904
    · have q1 := fun W => extend_near n s W c1 c2
      have q2 := fun W => extend_near n ((n + o) % 65536) W c1 c2
      have f1 := ext_rng n s
      have q3 := low_any (ext n s)
      rw [ext_low n s hs.lo hs.hi] at q3
      rw [ext_back n o h0 h1] at q2
      generalize ext n s = m at *
      have Q1 := Lib.hid q1
      have Q2 := Lib.hid q2
      have Q3 := Lib.hid q3
      clear q1 q2 q3
      go_enter Try.func4, Try.ntmps4
      go_wp2_with fail
      refine (awake2_any _).mono ?_
      rintro e w1 ⟨rfl, rfl⟩
      go_wp2_with fail
      refine (Q1.out _).mono ?_
      rintro e w1 ⟨rfl, rfl⟩
      go_wp2_with fail
      all_goals
        go_wp2_with (first
          | (go_at_call 11; refine (Q3.out _).mono ?_; rintro e w1 ⟨rfl, rfl⟩)
          | (go_at_call 11; refine (low_any _ _).mono ?_; rintro e w1 ⟨rfl, rfl⟩)
          | (go_at_call 10; refine (Q2.out _).mono ?_; rintro e w1 ⟨rfl, rfl⟩))
      all_goals (first | exact HQ.out _ _ ⟨rfl, Below.refl _ _⟩ | exact HQ.out _ _ ⟨ret_bool (by simp), Below.refl _ _⟩)
    · go_enter Try.func4, Try.ntmps4
      go_wp2_with (go_at_call 6; refine (awake2_any _).mono ?_; rintro e w1 ⟨rfl, rfl⟩)
      all_goals exact HQ.out _ _ ⟨rfl, Below.refl _ _⟩
  · go_enter Try.func4, Try.ntmps4
    go_wp2_with (go_at_call 6; refine (awake2_any _).mono ?_; rintro e w1 ⟨rfl, rfl⟩)
    all_goals exact HQ.out _ _ ⟨rfl, Below.refl _ _⟩
set_option maxHeartbeats 400000 in
theorem sfollow_ok (s d m : Int) (hs : Fits 65536 s) (h0 : -32768 ≤ d) (h1 : d ≤ 32767) (h : m % 65536 = s) : ext m ((s + d) % 65536) = m + d ∧ (m + d) % 65536 = (s + d) % 65536 := by
  have := hs.lo; have := hs.hi
  constructor
  · rw [← ext_back m d h0 h1]; congr 1; omega
  · omega
end Go.Proofs.Ytpbfaoekjdcgdaa
