/- The walks of the laws on numbers that go round. -/
import Derived.Test.YtpbfaoekjdcgdaaSerial
import Derived.Test.YtpbfaoekjdcgdaaVal
namespace Go.Proofs.Ytpbfaoekjdcgdaa
open Go.RowKit

set_option maxHeartbeats 2000000 in
theorem sback_walk (a b c d : Int) (ha : Fits 65536 a) (hb : Fits 65536 b) (hd : Fits 4294967296 d) (w : World) :
    Calls Try.prog 3 #[.int .u16 a, .int .u16 b, .int .u32 c, .int .u32 d] w fun e w' => e = .returned (.bool true) ∧ Below w.heap.size w w' := by
  refine calls_q fun Q HQ => ?_
  have fx : a = b ↔ ahd 65536 a b = 0 := by have := ha.lo; have := ha.hi; have := hb.lo; have := hb.hi; unfold ahd; split <;> omega
  have f1 : (a + ahd 65536 a b) % 65536 = b := by have := hb.lo; have := hb.hi; unfold ahd; split <;> omega
  have f2 : (c + ahd 4294967296 c d) % 4294967296 = d := by have := hd.lo; have := hd.hi; unfold ahd; split <;> omega
  have f3 : ahd 65536 a b = - ahd 65536 b a ∨ (ahd 65536 a b = -32768 ∧ ahd 65536 b a = -32768) := by unfold ahd; split <;> split <;> omega
  have f4 : ahd 4294967296 c d = - ahd 4294967296 d c ∨ (ahd 4294967296 c d = -2147483648 ∧ ahd 4294967296 d c = -2147483648) := by unfold ahd; split <;> split <;> omega
  have g1 := ahd16_rng a b
  have g2 := ahd16_rng b a
  have g3 := ahd32_rng c d
  have g4 := ahd32_rng d c
  have q1 := fun W => ahead_any a b W
  have q2 := fun W => ahead_any b a W
  have q3 := fun W => aheadl_any c d W
  have q4 := fun W => aheadl_any d c W
  have q5 := fun W => newer_any a b W
  have q6 := fun W => newer_any b a W
  generalize ahd 65536 a b = x at *
  generalize ahd 65536 b a = y at *
  generalize ahd 4294967296 c d = u at *
  generalize ahd 4294967296 d c = v at *
  have Q1 := Lib.hid q1
  have Q2 := Lib.hid q2
  have Q3 := Lib.hid q3
  have Q4 := Lib.hid q4
  have Q5 := Lib.hid q5
  have Q6 := Lib.hid q6
  have FX := Lib.hid fx
  have f1' : IntKind.u16.wrap (a + IntKind.u16.wrap x) = b := by simp [IntKind.wrap, IntKind.bits, IntKind.signed]; omega
  have f0 := ha.lo
  have f01 := ha.hi
  clear q1 q2 q3 q4 q5 q6 f1
  have hxy : (x = -y ∧ (x == -32768) = false ∧ (y == -32768) = false) ∨ (x = -32768 ∧ y = -32768) := by
    rcases f3 with h | h
    · exact .inl ⟨h, by simp; omega, by simp; omega⟩
    · exact .inr h
  have hab : a = b ∨ (a == b) = false := by
    by_cases h : a = b
    · exact .inl h
    · exact .inr (by simpa using h)
  have FX := Lib.hid fx
  clear f3 fx
  rcases f4 with rfl | ⟨rfl, rfl⟩ <;> rcases hxy with ⟨rfl, hy1, hy2⟩ | ⟨rfl, rfl⟩
  all_goals
    go_enter Try.func3, Try.ntmps3
    go_wp2_with fail
    refine (awake2_any _).mono ?_
    rintro e w1 ⟨rfl, rfl⟩
    go_wp2_with fail
    refine (Q1.out _).mono ?_
    rintro e w1 ⟨rfl, rfl⟩
    go_wp2_with fail
    refine (Q2.out _).mono ?_
    rintro e w1 ⟨rfl, rfl⟩
    go_wp2_with fail
    refine (Q3.out _).mono ?_
    rintro e w1 ⟨rfl, rfl⟩
    go_wp2_with fail
    refine (Q4.out _).mono ?_
    rintro e w1 ⟨rfl, rfl⟩
    go_wp2_with fail
    · exact HQ.out _ _ ⟨rfl, Below.refl _ _⟩
    · first
        | exact HQ.out _ _ ⟨rfl, Below.refl _ _⟩
        | (
          have hny : (a == b || !decide (y < 0) == decide (0 < y)) = true := by
            by_cases h0 : a = b
            · simp [h0]
            · have hy0 : ¬ y = 0 := fun h => h0 (FX.out.2 (by omega))
              by_cases h : 0 < y
              · simp [h]; right; omega
              · simp [h]; right; omega
          refine (Q5.out _).mono ?_
          rintro e w1 ⟨rfl, rfl⟩
          go_wp2_with fail
          refine (Q6.out _).mono ?_
          rintro e w1 ⟨rfl, rfl⟩
          go_wp2
          exact HQ.out _ _ ⟨rfl, Below.refl _ _⟩)
end Go.Proofs.Ytpbfaoekjdcgdaa
