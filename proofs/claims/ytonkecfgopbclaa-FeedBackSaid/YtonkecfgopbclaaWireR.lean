/- The walks of wire's Reader. -/
import Derived.Test.YtonkecfgopbclaaBNum
import Derived.Test.YtonkecfgopbclaaClone
namespace Go.Proofs.Ytonkecfgopbclaa
open Go.RowKit

/-- a reader in block rb: l is left, e went wrong; its bytes lie in blocks from lo on, ahead of rb -/
def Rd (lo : Nat) (w : World) (rb : Nat) (l : List UInt8) (e : Int) : Prop :=
  lo ≤ rb ∧ (e ≠ 0 → l = []) ∧ ∃ v, w.heap[rb]? = some (.cells #[v, .int .i64 e] 74 (0, 0)) ∧ BSx (fun k => lo ≤ k ∧ k < rb) w v l
theorem Rd.lt {lo : Nat} {w : World} {rb : Nat} {l : List UInt8} {e : Int} (h : Rd lo w rb l e) : lo ≤ rb ∧ rb < w.heap.size := by
  obtain ⟨h1, _, v, h3, _⟩ := h
  exact ⟨h1, obj_lt h3⟩
theorem Rd.fr {lo : Nat} {w w' : World} {rb : Nat} {l : List UInt8} {e : Int} (h : Rd lo w rb l e) {F : Nat → Prop} (hf : Fr F w w') (hF : ∀ k, lo ≤ k → k ≤ rb → ¬ F k) : Rd lo w' rb l e := by
  obtain ⟨h1, h2, v, h3, h4⟩ := h
  exact ⟨h1, h2, v, hf.heap h3 (hF _ h1 (Nat.le_refl _)), h4.fr hf (fun k _ hk => hF k hk.1 (Nat.le_of_lt hk.2))⟩
theorem Rd.fr0 {lo : Nat} {w w' : World} {rb : Nat} {l : List UInt8} {e : Int} (h : Rd lo w rb l e) (hf : Fr F0 w w') : Rd lo w' rb l e := h.fr hf (fun _ _ _ h => h)
/-- what is taken, what is left, what is wrong then -/
def rawL (n : Nat) (l : List UInt8) : List UInt8 := if n ≤ l.length then l.take n else []
def rawR (n : Nat) (l : List UInt8) : List UInt8 := if n ≤ l.length then l.drop n else []
def rawE (n : Nat) (l : List UInt8) (e : Int) : Int := if n ≤ l.length then e else if e = 0 then 3 else e
def wrongE (e x : Int) : Int := if e = 0 then x else e
/-- what a call on a reader leaves -/
def RPost (lo : Nat) (w : World) (rb : Nat) (l : List UInt8) (e : Int) (w' : World) : Prop := Rd lo w' rb l e ∧ Fr (F1 rb) w w'

set_option maxHeartbeats 400000 in
theorem rwrong_any (lo rb : Nat) (l : List UInt8) (e x : Int) (w : World) (hr : Rd lo w rb l e) (hx : x ≠ 0) :
    Calls Try.prog 18 #[.pointer (some ⟨rb, 0, none⟩), .int .i64 x] w fun r w' => r = .returned (.tuple #[]) ∧ RPost lo w rb [] (wrongE e x) w' := by
  obtain ⟨h1, h2, v, hh, hb⟩ := hr
  have c0 := obj_cell hh 0
  have c1 := obj_cell hh 1
  have z0 := obj_frozen hh 0
  have z1 := obj_frozen hh 1
  simp at c0 c1
  have hx0 : (x == 0) = false := by simp [hx]
  by_cases he : e = 0
  · subst he
    have hs1 := obj_set hh 1 (.int .i64 x)
    have hs2 := obj_set hs1 0 (.slice none 0 0)
    have hf := (Fr.setCell w ⟨rb, 1, none⟩ (.int .i64 x)).trans (Fr.setCell (w.setCell ⟨rb, 1, none⟩ (.int .i64 x)) ⟨rb, 0, none⟩ (.slice none 0 0)) (fun _ h => .inl h)
    have hp : RPost lo w rb [] (wrongE 0 x) ((w.setCell ⟨rb, 1, none⟩ (.int .i64 x)).setCell ⟨rb, 0, none⟩ (.slice none 0 0)) :=
      ⟨⟨h1, fun _ => rfl, _, by simpa [wrongE] using hs2, BSx.nil _ _⟩, hf⟩
    have HP := Lib.hid hp
    clear hp hs1 hs2 hf hh hb h2
    refine calls_q fun Q HQ => ?_
    go_enter Try.func18, Try.ntmps18
    go_wp2_with fail
    go_end0
    exact HQ.out _ _ ⟨rfl, HP.out⟩
  · have he0 : (e != 0) = true := by simp [he]
    have hl := h2 he
    subst hl
    have hp : RPost lo w rb [] (wrongE e x) w := ⟨⟨h1, fun _ => rfl, v, by rw [wrongE, if_neg he]; exact hh, hb⟩, Fr.refl _ _⟩
    have HP := Lib.hid hp
    clear hp hh hb h2 hx he
    refine calls_q fun Q HQ => ?_
    go_enter Try.func18, Try.ntmps18
    go_wp2_with fail
    go_end0
    exact HQ.out _ _ ⟨rfl, HP.out⟩

theorem rwrong_ok (lo rb : Nat) (l : List UInt8) (e : Int) (w : World) (hr : Rd lo w rb l e) :
    Calls Try.prog 18 #[.pointer (some ⟨rb, 0, none⟩), .int .i64 0] w fun r w' => r = .returned (.tuple #[]) ∧ w' = w := by
  obtain ⟨h1, h2, v, hh, hb⟩ := hr
  have c1 := obj_cell hh 1
  have z1 := obj_frozen hh 1
  simp at c1
  clear hh hb h2
  refine calls_q fun Q HQ => ?_
  go_enter Try.func18, Try.ntmps18
  go_wp2_with fail
  go_end0
  exact HQ.out _ _ ⟨rfl, rfl⟩
/-- what Raw answers -/
def RawPost (lo : Nat) (w : World) (rb n : Nat) (l : List UInt8) (e : Int) (r : Ending) (w' : World) : Prop :=
  ∃ v, r = .returned v ∧ BSx (fun k => lo ≤ k ∧ k < rb) w' v (rawL n l) ∧ RPost lo w rb (rawR n l) (rawE n l e) w'
theorem RawPost.eq {lo : Nat} {w : World} {rb n : Nat} {l : List UInt8} {e : Int} : RawPost lo w rb n l e = fun r w' => ∃ v, r = .returned v ∧ BSx (fun k => lo ≤ k ∧ k < rb) w' v (rawL n l) ∧ RPost lo w rb (rawR n l) (rawE n l e) w' := rfl
theorem raw_fin {lo rb n : Nat} {l : List UInt8} {e : Int} {w : World} {A : Option Addr} {c : Nat} (h1 : lo ≤ rb) (h2 : e ≠ 0 → l = [])
    (hh : w.heap[rb]? = some (.cells #[.slice A l.length c, .int .i64 e] 74 (0, 0))) (hb : BSx (fun k => lo ≤ k ∧ k < rb) w (.slice A l.length c) l)
    (hc : l.length ≤ c) (hcm : c ≤ maxLen) (hnl : n ≤ l.length) (A2 : Option Addr) (c2 : Nat) (hc2 : l.length - n ≤ c2) (hc3 : c2 ≤ maxLen) (hA : l.length - n = 0 ∨ A2 = A.map (fun x => x.add n)) :
    RawPost lo w rb n l e (.returned (.slice A n n)) (w.setCell ⟨rb, 0, none⟩ (.slice A2 (l.length - n) c2)) := by
  have hlt : (l.take n).length = n := by simp; omega
  have hld : (l.drop n).length = l.length - n := by simp
  have hf := Fr.setCell w ⟨rb, 0, none⟩ (.slice A2 (l.length - n) c2)
  have hnb : ∀ k, k < w.heap.size → (lo ≤ k ∧ k < rb) → ¬ F1 (⟨rb, 0, none⟩ : Addr).block k := fun k _ hk (h : k = rb) => by omega
  have hrow : Row8 w A l := by
    obtain ⟨A', c', he, _, _, hr⟩ := hb.1
    simp only [Value.slice.injEq] at he
    rw [he.1]; exact hr
  refine ⟨_, rfl, ?_, ⟨h1, ?_, .slice A2 (l.length - n) c2, ?_, ?_⟩, hf⟩
  · rw [rawL, if_pos hnl]
    refine BSx.fr ⟨⟨A, n, by rw [hlt], by omega, by omega, fun hp => ?_⟩, fun hp k hk => hb.2 (by omega) k (by rw [ownB] at hk ⊢; exact hk)⟩ hf hnb
    obtain ⟨b, o, rfl, hbl, hcell⟩ := hrow (by omega)
    exact ⟨b, o, rfl, hbl, fun j hj => by rw [List.getElem_take]; exact hcell j (by omega)⟩
  · rw [rawE, if_pos hnl, rawR, if_pos hnl]
    intro he
    rw [h2 he]; simp
  · rw [rawE, if_pos hnl]
    have := obj_set hh 0 (.slice A2 (l.length - n) c2)
    simpa using this
  · rw [rawR, if_pos hnl]
    by_cases hz : l.length - n = 0
    · have : l.drop n = [] := List.eq_nil_of_length_eq_zero (by omega)
      rw [this, hz]
      exact ⟨⟨A2, c2, rfl, by simp, hc3, fun h => absurd h (by simp)⟩, fun h => absurd h (by simp)⟩
    · obtain rfl := hA.resolve_left hz
      refine BSx.fr ⟨⟨_, c2, by rw [hld], by omega, hc3, hrow.drop n⟩, fun _ k hk => ?_⟩ hf hnb
      refine hb.2 (by omega) k ?_
      rw [ownB] at hk ⊢
      rw [← hk, Option.map_map]
      congr 1
      funext a
      exact (add_block a n).symm
set_option maxHeartbeats 400000 in
theorem rraw_any (lo rb n : Nat) (l : List UInt8) (e : Int) (w : World) (hr : Rd lo w rb l e) (hn : n ≤ 9223372036854775807) :
    Calls Try.prog 34 #[.pointer (some ⟨rb, 0, none⟩), .int .i64 n] w (RawPost lo w rb n l e) := by
  have HRd := Lib.hid hr
  obtain ⟨h1, h2, v, hh, hb⟩ := hr
  obtain ⟨A, c, rfl, hc, hcm, hrow⟩ := bs_parts hb.1
  have c0 := obj_cell hh 0
  have z0 := obj_frozen hh 0
  simp at c0
  refine calls_q fun Q HQ => ?_
  by_cases hnl : n ≤ l.length
  · have hnl' : (n : Int) ≤ (l.length : Int) := by omega
    have hfin := raw_fin h1 h2 hh hb hc hcm hnl
    unfold maxLen at hfin
    have FI := Lib.hid hfin
    clear hfin
    by_cases hcn : c = n
    · clear hh hb hrow
      go_enter Try.func34, Try.ntmps34
      go_wp2_with fail
      exact HQ.out _ _ (FI.out _ _ (by omega) (by omega) (.inl (by omega)))
    · clear hh hb hrow
      go_enter Try.func34, Try.ntmps34
      go_wp2_with fail
      exact HQ.out _ _ (FI.out _ _ (by omega) (by omega) (.inr rfl))
  · have hnl' : (l.length : Int) < (n : Int) := by omega
    clear hh hb hrow
    go_enter Try.func34, Try.ntmps34
    go_wp2_with fail
    refine (rwrong_any lo rb l e 3 w HRd.out (by decide)).mono ?_
    rintro r w1 ⟨rfl, hp⟩
    have HP := Lib.hid hp
    clear hp
    go_wp2_with fail
    exact HQ.out _ _ ⟨_, rfl, by rw [rawL, if_neg hnl]; exact BSx.nil _ _, by rw [rawR, if_neg hnl, rawE, if_neg hnl]; exact HP.out⟩

/-- what is read as a number -/
def rdN (n : Nat) (l : List UInt8) : Nat := beN (rawL n l)
theorem rdN_lt (n : Nat) (l : List UInt8) : rdN n l < 256 ^ n := by
  unfold rdN rawL; split
  · have := beN_lt (l.take n)
    rwa [List.length_take, Nat.min_eq_left (by assumption)] at this
  · exact Nat.pow_pos (by decide)
theorem lastN_raw (n : Nat) (l : List UInt8) (h : n ≤ 8) : lastN (rawL n l) = rawL n l := by
  have : (rawL n l).length ≤ 8 := by unfold rawL; split <;> simp <;> omega
  rw [lastN, show (rawL n l).length - 8 = 0 by omega]; rfl
set_option maxHeartbeats 400000 in
theorem numfrom_any (lo rb n : Nat) (l : List UInt8) (e : Int) (w : World) (hr : Rd lo w rb l e) (hn : n ≤ 8) :
    Calls Try.prog 33 #[.func (.func 34) #[.pointer (some ⟨rb, 0, none⟩)] #[], .int .i64 n] w fun r w' => r = .returned (.int .u64 (rdN n l : Nat)) ∧ RPost lo w rb (rawR n l) (rawE n l e) w' := by
  refine calls_q fun Q HQ => ?_
  go_enter Try.func33, Try.ntmps33
  go_wp2_with fail
  refine (rraw_any lo rb n l e w hr (by omega)).mono ?_
  rintro r w1 ⟨v, rfl, hv, hp⟩
  have HV := Lib.hid hv
  have HP := Lib.hid hp
  clear hv hp
  go_wp2_with fail
  have hb := num_any v (rawL n l) w1 HV.out.1
  rw [lastN_raw n l hn] at hb
  refine hb.mono ?_
  rintro r w2 ⟨rfl, rfl⟩
  clear hb
  go_wp2_with fail
  exact HQ.out _ _ ⟨rfl, HP.out⟩
set_option maxHeartbeats 400000 in
theorem rbyte_any (lo rb : Nat) (l : List UInt8) (e : Int) (w : World) (hr : Rd lo w rb l e) :
    Calls Try.prog 36 #[.pointer (some ⟨rb, 0, none⟩)] w fun r w' => r = .returned (.int .u8 (rdN 1 l : Nat)) ∧ RPost lo w rb (rawR 1 l) (rawE 1 l e) w' := by
  have hmf : ∀ (fn : Fn) (first cap : Array Value) (w : World), (Instr.makeFunc fn first cap).run Try.prog w = .ok (.func fn first cap) w := fun _ _ _ _ => rfl
  have hn := numfrom_any lo rb 1 l e w hr (by decide)
  have hlt := rdN_lt 1 l
  have HN := Lib.hid hn
  clear hn
  refine calls_q fun Q HQ => ?_
  go_enter Try.func36, Try.ntmps36
  go_wp2_with fail
  refine HN.out.mono ?_
  rintro r w1 ⟨rfl, hp⟩
  have HP := Lib.hid hp
  clear hp
  go_wp2_with fail
  refine HQ.out _ _ ⟨ret_int ?_, HP.out⟩
  first | rfl | (rw [wrap_u8]; omega)

theorem new_any (v : Value) (l : List UInt8) (w : World) (hv : BS w v l) (hm : l.length ≤ 140737488355328) :
    Calls Try.prog 16 #[v] w fun r w' => ∃ rb, r = .returned (.pointer (some ⟨rb, 0, none⟩)) ∧ Rd w.heap.size w' rb l 0 ∧ Below w.heap.size w w' ∧ w'.heap.size = rb + 1 := by
  refine calls_q fun Q HQ => ?_
  go_enter Try.func16, Try.ntmps16
  go_wp2_with fail
  refine (clone_any v l w hv hm).mono ?_
  rintro r w1 ⟨u, rfl, ho, hb⟩
  obtain ⟨A, c, rfl⟩ := own_slice ho
  have HO := Lib.hid ho
  have HB := Lib.hid hb
  clear ho hb
  go_wp2_with fail
  refine HQ.out _ _ ⟨w1.heap.size, rfl, ⟨HB.out.size, fun h => absurd rfl h, _, heap_alloc_new _ _, ?_⟩, HB.out.alloc HB.out.size _, by simp⟩
  exact BSx.fr (own_bsx HO.out |>.mono (fun k hk h => ⟨h, hk⟩)) (Fr.alloc _ _) (fun _ _ _ h => h)
/-- what End tells -/
def endE (l : List UInt8) (e : Int) : Int := if l = [] then e else 4
theorem rend_any (lo rb : Nat) (l : List UInt8) (e : Int) (w : World) (hr : Rd lo w rb l e) :
    Calls Try.prog 21 #[.pointer (some ⟨rb, 0, none⟩)] w fun r w' => r = .returned (.int .i64 (endE l e)) ∧ w' = w := by
  obtain ⟨h1, h2, v, hh, hb⟩ := hr
  obtain ⟨A, c, rfl, hc, hcm, hrow⟩ := bs_parts hb.1
  have c0 := obj_cell hh 0
  have c1 := obj_cell hh 1
  have z0 := obj_frozen hh 0
  have z1 := obj_frozen hh 1
  simp at c0 c1
  clear hh hb h2 hrow
  refine calls_q fun Q HQ => ?_
  by_cases hl : 0 < (l.length : Int)
  · go_enter Try.func21, Try.ntmps21
    go_wp2_with fail
    refine HQ.out _ _ ⟨ret_int ?_, rfl⟩
    rw [endE, if_neg (by rintro rfl; simp at hl)]
  · go_enter Try.func21, Try.ntmps21
    go_wp2_with fail
    refine HQ.out _ _ ⟨ret_int ?_, rfl⟩
    rw [endE, if_pos (List.eq_nil_of_length_eq_zero (by omega))]
end Go.Proofs.Ytonkecfgopbclaa
