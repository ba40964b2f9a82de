/- The walk of the law on numbers that go on by steps. -/
import Derived.Test.YtpbfaoekjdcgdaaSerialLawB
import Derived.Test.YtpbfaoekjdcgdaaVal
namespace Go.Proofs.Ytpbfaoekjdcgdaa
open Go.RowKit

set_option maxHeartbeats 2000000 in
theorem sfollows_walk (s : Int) (hs : Fits 65536 s) (v : Value) (zs : List Int) (hz : ∀ z ∈ zs, (Lit.int .i16 z).wf = true) (w : World) (hv : SV w v (ints .i16 zs)) :
    Calls Try.prog 5 #[.int .u16 s, v] w fun e w' => e = .returned (.bool true) ∧ Below w.heap.size w w' := by
  have hlen := hv.len
  obtain ⟨A, c, rfl, hc, hm, hr⟩ := hv
  rw [ints_len] at hlen ⊢
  have HR := Lib.hid hr
  clear hr hm hc
  have s0 := hs.lo
  have s1 := hs.hi
  refine calls_q fun Q HQ => ?_
  by_cases hl : (zs.length : Int) ≤ 100
  · go_enter Try.func5, Try.ntmps5
    go_wp2_with (first
      | (go_at_call 6; refine (awake2_any _).mono ?_; rintro e w1 ⟨rfl, rfl⟩)
      | (go_at_call 12; refine (first_any _ _ s0 s1).mono ?_; rintro e w1 ⟨rfl, rfl⟩))
    go_loop [0, 5, 23] (fun sv nv i => ∃ (j : Nat) (x n : Int), j ≤ zs.length ∧ i = .int .i64 j ∧ sv = .int .u16 x ∧ nv = .int .i64 n ∧ Fits 65536 x ∧ n % 65536 = x ∧ 0 ≤ n ∧ n ≤ 131072 + 32768 * (j : Int)) (fun _ _ i => zs.length - (intOf i).toNat)
    case atStart => exact ⟨0, s, _, Nat.zero_le _, rfl, rfl, rfl, hs, by omega, by omega, by omega⟩
    case round =>
      obtain ⟨j, x, n, hj, rfl, rfl, rfl, hx, hnx, hn0, hn1⟩ := hrel
      by_cases hlt : j < zs.length
      · have hw := hz (zs[j]'hlt) (List.getElem_mem _)
        simp [Lit.wf, IntKind.min, IntKind.max, IntKind.bits, IntKind.signed] at hw
        obtain ⟨b, o, rfl, hb, hcell⟩ := HR.out (by rw [ints_len]; omega)
        have hc1 := hcell j (by rw [ints_len]; exact hlt)
        rw [show (ints IntKind.i16 zs)[j]'(by rw [ints_len]; exact hlt) = .int .i16 (zs[j]'hlt) by simp [ints]] at hc1
        clear hcell
        generalize zs[j]'hlt = d at *
        have ok := sfollow_ok x d n hx hw.1 hw.2 hnx
        have hs1 : IntKind.u16.wrap (x + IntKind.u16.wrap d) = (x + d) % 65536 := by simp [IntKind.wrap, IntKind.bits, IntKind.signed]
        have fx : Fits 65536 ((x + d) % 65536) := ⟨by omega, by omega⟩
        have q1 := fun W => extend_near n ((x + d) % 65536) W hn0 (by omega)
        have q2 := fun W => low_any (n + d) W
        rw [ok.1] at q1
        rw [ok.2] at q2
        have Q1 := Lib.hid q1
        have Q2 := Lib.hid q2
        have OK := Lib.hid ok.2
        clear q1 q2 ok hnx
        have hj0 : (0 : Int) ≤ (j : Int) := by omega
        have hd1 := hw.1
        have hd2 := hw.2
        clear hw
        by_cases hm : n + d < 0
        · go_wp2
          exact HQ.out _ _ ⟨rfl, Below.refl _ _⟩
        · go_wp2_with (first
            | (go_at_call 10; refine (Q1.out _).mono ?_; rintro e w1 ⟨rfl, rfl⟩)
            | (go_at_call 11; refine (Q2.out _).mono ?_; rintro e w1 ⟨rfl, rfl⟩))
          go_round
          case rel => exact ⟨j + 1, _, _, by omega, by go_num, rfl, rfl, fx, OK.out, by omega, by omega⟩
          case measure => simp [intOf]; omega
      · have : j = zs.length := by omega
        subst this
        go_wp2
        exact HQ.out _ _ ⟨rfl, Below.refl _ _⟩
  · go_enter Try.func5, Try.ntmps5
    go_wp2_with (go_at_call 6; refine (awake2_any _).mono ?_; rintro e w1 ⟨rfl, rfl⟩)
    exact HQ.out _ _ ⟨rfl, Below.refl _ _⟩
end Go.Proofs.Ytpbfaoekjdcgdaa
