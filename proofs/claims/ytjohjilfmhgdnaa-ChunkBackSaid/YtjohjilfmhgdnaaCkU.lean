/- The walk of unpadded. -/
import Derived.Test.YtjohjilfmhgdnaaCkP
namespace Go.Proofs.Ytjohjilfmhgdnaa
open Go.RowKit

/-- what unpadded answers -/
def UpPost (lo : Nat) (w : World) (rb : Nat) (B L : List UInt8) (e : Int) (r : Ending) (w' : World) : Prop :=
  ∃ v, r = .returned v ∧ BSx (fun k => lo ≤ k ∧ k < rb) w' v (upB B L) ∧ RPost lo w rb (upL B L) (upE B L e) w'
theorem up_bad {lo rb : Nat} {w w' : World} {B L : List UInt8} {e : Int} (h : padBad B L = true) (hp : RPost lo w rb [] (wrongE e 2) w') : UpPost lo w rb B L e (.returned (.slice none 0 0)) w' :=
  ⟨_, rfl, by rw [upB, h]; exact BSx.nil _ _, by rw [upL, upE, h]; exact hp⟩
theorem up_fine {lo rb : Nat} {w : World} {B L : List UInt8} {e : Int} (h : padBad B L = false) (hr : Rd lo w rb L e) {A : Option Addr} {c : Nat} (hB : BSx (fun k => lo ≤ k ∧ k < rb) w (.slice A B.length c) B) {k n : Nat} (hk : lastB B = k) (hn : n = B.length - k) :
    UpPost lo w rb B L e (.returned (.slice A n c)) w := by
  have hc : B.length ≤ c ∧ c ≤ maxLen := by
    obtain ⟨A1, c1, he, h1, h2, _⟩ := hB.1
    simp only [Value.slice.injEq] at he
    rw [he.2.2]; exact ⟨h1, h2⟩
  have hp := hB.piece (A' := A) (c' := c) (i := 0) (j := n) (by omega) (by omega) (.inr (by cases A <;> simp [Addr.add])) (by omega) hc.2
  refine ⟨_, rfl, ?_, ?_⟩
  · rw [upB, h, hk, ← hn]
    simpa using hp
  · rw [upL, upE, h]
    exact ⟨hr, Fr.refl _ _⟩
theorem lastB_at (B : List UInt8) (m : Nat) (h : B.length = m + 1) (hm : m < B.length) : lastB B = B[m].toNat := by
  have : B.length - 1 = m := by omega
  rw [lastB, this, List.getD_eq_getElem?_getD, List.getElem?_eq_getElem hm]; rfl
set_option maxHeartbeats 1000000 in
theorem cunpad_any (lo rb : Nat) (B L : List UInt8) (e : Int) (v : Value) (w : World) (hr : Rd lo w rb L e) (hB : BSx (fun k => lo ≤ k ∧ k < rb) w v B) (hl : B.length ≤ 1000000) :
    Calls Try.prog 25 #[.pointer (some ⟨rb, 0, none⟩), v] w (UpPost lo w rb B L e) := by
  have hLeft := rleft_any lo rb L e w hr
  have HWr := Lib.hid (rwrong_any lo rb L e 2 w hr (by decide))
  have HLf := Lib.hid hLeft
  obtain ⟨A, c, rfl, hc, hcm, hrow⟩ := bs_parts hB.1
  have HF := Lib.hid (fun (h : padBad B L = false) k n hk hn => up_fine h hr hB (k := k) (n := n) hk hn)
  refine calls_q fun Q HQ => ?_
  by_cases h0 : B.length = 0
  · have hbad : padBad B L = true := by
      have : B = [] := List.eq_nil_of_length_eq_zero h0
      subst this; simp [padBad, lastB]
    have HU := Lib.hid (fun w' (hp : RPost lo w rb [] (wrongE e 2) w') => up_bad hbad hp)
    rw [h0] at HF ⊢
    clear hLeft hr hB hrow hbad
    generalize L.length = ll at HLf
    by_cases h1 : (0 : Int) < (ll : Int)
    all_goals
      go_enter Try.func25, Try.ntmps25
      go_wp2_with fail
      refine HLf.out.mono ?_
      rintro r w1 ⟨rfl, rfl⟩
      go_wp2_with fail
      refine HWr.out.mono ?_
      rintro r w2 ⟨rfl, hp⟩
      have HP := Lib.hid (HU.out _ hp)
      clear hp
      go_wp2_with fail
      exact HQ.out _ _ HP.out
  · obtain ⟨m, hm⟩ : ∃ m, B.length = m + 1 := ⟨B.length - 1, by omega⟩
    obtain ⟨b, o, rfl, hb, hcell⟩ := hrow (by omega)
    have hcm1 := hcell m (by omega)
    have hlast := lastB_at B m hm (by omega)
    have hlt := UInt8.toNat_lt (B[m]'(by omega))
    obtain ⟨k, hk⟩ : ∃ k : Nat, (B[m]'(by omega)).toNat = k := ⟨_, rfl⟩
    rw [hk] at hcm1 hlast hlt
    have hpd : padBad B L = (decide (0 < L.length) || decide (k = 0) || decide (k % 4 ≠ 0) || decide (m + 1 < k)) := by rw [padBad, hlast, hm]
    have HU := Lib.hid (fun (hbad : padBad B L = true) w' (hp : RPost lo w rb [] (wrongE e 2) w') => up_bad hbad hp)
    rw [hpd] at HF HU
    rw [hlast, hm] at HF
    rw [hm] at hc ⊢
    clear hLeft hr hB hcell hpd hlast hk hrow h0 hm
    generalize L.length = ll at *
    have hz := Nat.zero_le k
    by_cases h1 : (0 : Int) < (ll : Int)
    · have HU2 := Lib.hid (HU.out (by simp; omega))
      clear HU HF
      go_enter Try.func25, Try.ntmps25
      go_wp2_with fail
      refine HLf.out.mono ?_
      rintro r w1 ⟨rfl, rfl⟩
      go_wp2_with fail
      refine HWr.out.mono ?_
      rintro r w2 ⟨rfl, hp⟩
      have HP := Lib.hid (HU2.out _ hp)
      clear hp
      go_wp2_with fail
      exact HQ.out _ _ HP.out
    · by_cases h2 : k = 0
      · have HU2 := Lib.hid (HU.out (by simp [h2]))
        subst h2
        clear HU HF
        go_enter Try.func25, Try.ntmps25
        go_wp2_with fail
        refine HLf.out.mono ?_
        rintro r w1 ⟨rfl, rfl⟩
        go_wp2_with fail
        refine HWr.out.mono ?_
        rintro r w2 ⟨rfl, hp⟩
        have HP := Lib.hid (HU2.out _ hp)
        clear hp
        go_wp2_with fail
        exact HQ.out _ _ HP.out
      · have hk0 : ((k : Int) == 0) = false := by simp; omega
        by_cases h3 : k % 4 = 0
        · have hk4 : ((k : Int) % 4 != 0) = false := by simp; omega
          by_cases h4 : ((m + 1 : Nat) : Int) < (k : Int)
          · have HU2 := Lib.hid (HU.out (by simp; omega))
            clear HU HF
            go_enter Try.func25, Try.ntmps25
            go_wp2_with fail
            refine HLf.out.mono ?_
            rintro r w1 ⟨rfl, rfl⟩
            go_wp2_with fail
            refine HWr.out.mono ?_
            rintro r w2 ⟨rfl, hp⟩
            have HP := Lib.hid (HU2.out _ hp)
            clear hp
            go_wp2_with fail
            exact HQ.out _ _ HP.out
          · have HF2 := Lib.hid (HF.out (by simp; omega) k (m + 1 - k) rfl rfl)
            have hkm : k ≤ m + 1 := by omega
            clear HU HF
            go_enter Try.func25, Try.ntmps25
            go_wp2_with fail
            refine HLf.out.mono ?_
            rintro r w1 ⟨rfl, rfl⟩
            go_wp2_with fail
            exact HQ.out _ _ HF2.out
        · have hk4 : ((k : Int) % 4 != 0) = true := by simp; omega
          have HU2 := Lib.hid (HU.out (by simp [h3]))
          clear HU HF
          go_enter Try.func25, Try.ntmps25
          go_wp2_with fail
          refine HLf.out.mono ?_
          rintro r w1 ⟨rfl, rfl⟩
          go_wp2_with fail
          refine HWr.out.mono ?_
          rintro r w2 ⟨rfl, hp⟩
          have HP := Lib.hid (HU2.out _ hp)
          clear hp
          go_wp2_with fail
          exact HQ.out _ _ HP.out
end Go.Proofs.Ytjohjilfmhgdnaa
