/- Laid together: BNum, Clone, WireR, Nm, BSg, Rp, SerA. -/
import Derived.Test.YtphofpemblindaaG01
/- The walk of bits.Number. -/
namespace Go.Proofs.Ytphofpemblindaa
open Go.RowKit
/-! ### the last eight bytes -/
def lastN (l : List UInt8) : List UInt8 := l.drop (l.length - 8)
theorem beN_last (l : List UInt8) : beN l % 18446744073709551616 = beN (lastN l) := by
  have h := beN_append (l.take (l.length - 8)) (lastN l)
  rw [lastN, List.take_append_drop] at h
  rw [← lastN] at h
  have h2 := beN_lt (lastN l)
  have hl : (lastN l).length = l.length - (l.length - 8) := by simp [lastN]
  by_cases h8 : 8 ≤ l.length
  · rw [show (lastN l).length = 8 by omega] at h h2
    rw [h, show (256 : Nat) ^ 8 = 18446744073709551616 by decide, Nat.mul_add_mod_self_right]
    exact Nat.mod_eq_of_lt (by omega)
  · have : lastN l = l := by rw [lastN, show l.length - 8 = 0 by omega]; rfl
    rw [this] at h2 ⊢
    have h3 : (256 : Nat) ^ l.length ≤ 256 ^ 7 := Nat.pow_le_pow_right (by decide) (by omega)
    exact Nat.mod_eq_of_lt (by omega)
theorem num_step (m x : Nat) (hm : m < 72057594037927936) (hx : x < 256) : bits .or .u64 (IntKind.u64.wrap ((m : Int) * 256)) (x : Int) = ((m * 256 + x : Nat) : Int) := by
  have e : IntKind.u64.wrap ((m : Int) * 256) = ((m * 256 : Nat) : Int) := by rw [wrap_u64]; omega
  rw [e, u64_or_nat _ _ (by omega) (by omega)]
  have h := Nat.two_pow_add_eq_or_of_lt (i := 8) (b := x) (by omega) m
  rw [show (2 : Nat) ^ 8 = 256 by decide, Nat.mul_comm] at h
  rw [h]
theorem beN_small (l : List UInt8) (h : l.length ≤ 7) : beN l < 72057594037927936 := by
  have h1 := beN_lt l
  have h3 : (256 : Nat) ^ l.length ≤ 256 ^ 7 := Nat.pow_le_pow_right (by decide) h
  omega
set_option maxHeartbeats 400000 in
theorem num_any (v : Value) (l : List UInt8) (w : World) (hv : BS w v l) :
    Calls Try.prog 81 #[v] w fun e w' => e = .returned (.int .u64 (beN (lastN l) : Nat)) ∧ w' = w := by
  have hlen := hv.len
  obtain ⟨A, c, rfl, hc, hm, hr⟩ := hv
  have HR := Lib.hid hr
  unfold maxLen at hm
  clear hr
  refine calls_q fun Q HQ => ?_
  by_cases h8 : l.length ≤ 8
  · have h8' : (l.length : Int) ≤ 8 := by omega
    have hL : lastN l = l := by rw [lastN, show l.length - 8 = 0 by omega]; rfl
    rw [hL] at HQ
    clear hL
    go_enter Try.func81, Try.ntmps81
    go_wp2
    go_loop [3, 13] (fun o i => ∃ j : Nat, j ≤ l.length ∧ i = .int .i64 j ∧ o = .int .u64 (beN (l.take j) : Nat)) (fun _ i => l.length - (intOf i).toNat)
    case atStart => exact ⟨0, Nat.zero_le _, rfl, by simp [beN]⟩
    case round =>
      obtain ⟨j, hj, rfl, rfl⟩ := hrel
      by_cases hlt : j < l.length
      · obtain ⟨b, o, rfl, hb, hcell⟩ := HR.out (by omega)
        have hc1 := hcell j hlt
        clear hcell
        have HT := Lib.hid (beN_take l j hlt)
        have hx := UInt8.toNat_lt l[j]
        have HS := Lib.hid (num_step (beN (l.take j)) l[j].toNat (beN_small _ (by simp; omega)) hx)
        go_wp2
        go_round
        case rel => exact ⟨j + 1, by omega, by go_num, by rw [HT.out, ← HS.out]⟩
        case measure => simp [intOf]; omega
      · have : j = l.length := by omega
        subst this
        go_wp2
        exact HQ.out _ _ ⟨ret_int (by simp), rfl⟩
  · have h8' : 8 < (l.length : Int) := by omega
    have hcap : ¬ c = ((l.length : Int) - 8).toNat := by omega
    go_enter Try.func81, Try.ntmps81
    go_wp2
    have hR2 := HR.out.drop (l.length - 8)
    rw [← lastN] at hR2
    have hl8 : (lastN l).length = 8 := by simp [lastN]; omega
    generalize Option.map (fun x => x.add (l.length - 8)) A = A2 at *
    rw [show l.length - (l.length - 8) = 8 by omega]
    generalize lastN l = m at *
    have HR2 := Lib.hid hR2
    have H8 := Lib.hid hl8
    clear hR2 hl8
    go_loop [3, 5, 13] (fun o _ i => ∃ j : Nat, j ≤ 8 ∧ i = .int .i64 j ∧ o = .int .u64 (beN (m.take j) : Nat)) (fun _ _ i => 8 - (intOf i).toNat)
    case atStart => exact ⟨0, Nat.zero_le _, rfl, by simp [beN]⟩
    case round =>
      obtain ⟨j, hj, rfl, rfl⟩ := hrel
      by_cases hlt : j < 8
      · have hlt2 : j < m.length := by have := H8.out; omega
        obtain ⟨b, o, rfl, hb, hcell⟩ := HR2.out (by omega)
        have hc1 := hcell j hlt2
        clear hcell
        have HT := Lib.hid (beN_take m j hlt2)
        have hx := UInt8.toNat_lt m[j]
        have HS := Lib.hid (num_step (beN (m.take j)) m[j].toNat (beN_small _ (by simp; omega)) hx)
        go_wp2
        go_round
        case rel => exact ⟨j + 1, by omega, by go_num, by rw [HT.out, ← HS.out]⟩
        case measure => simp [intOf]; omega
      · have : j = 8 := by omega
        subst this
        go_wp2
        exact HQ.out _ _ ⟨ret_int (by rw [List.take_of_length_le (by have := H8.out; omega)]), rfl⟩
end Go.Proofs.Ytphofpemblindaa
/- The walk of bytes.Clone. -/
namespace Go.Proofs.Ytphofpemblindaa
open Go.RowKit

set_option maxHeartbeats 400000 in
theorem clone_any (v : Value) (l : List UInt8) (w : World) (hv : BS w v l) (hm : l.length ≤ 140737488355328) :
    Calls Try.prog 45 #[v] w fun e w' => ∃ u, e = .returned u ∧ w'.ownsRow w.heap.size 5 1 u l.length (c8 l) ∧ Below w.heap.size w w' := by
  obtain ⟨A, c, rfl, hc, hcm, hr⟩ := bs_parts hv
  refine calls_q fun Q HQ => ?_
  have HR := Lib.hid hr
  clear hr hv
  cases A with
  | none =>
    have hl : l = [] := by
      cases l with
      | nil => rfl
      | cons x xs => obtain ⟨b, o, h, _⟩ := HR.out (by simp); cases h
    subst hl
    clear HR hc hm
    rw [List.length_nil]
    have he := fun w => Lib.run_eql_slice_nil (P := Try.prog) w 23 5 none 0 c 0 0 Try.underlying23
    go_enter Try.func45, Try.ntmps45
    go_wp2_with fail
    exact HQ.out _ _ ⟨_, rfl, World.ownsRow_nil _ _ _ _, Below.refl _ _⟩
  | some a =>
    have he := fun w => Lib.run_eql_slice_nil (P := Try.prog) w 23 5 (some a) l.length c 0 0 Try.underlying23
    go_enter Try.func45, Try.ntmps45
    go_wp2_with (at_builtin; refine wpl_app rfl _ _ 23 rfl w.heap.size 5 (.int .u8 0) 1 Try.underlying23 (by kernel_rfl) rfl _ 0 [] rfl (own_empty _ _ _ (Nat.le_refl _)) _ _ _ (c8 l) rfl ?c1 (c8_one _) ?c2 ?c3 ?c4 ?c5)
    case c1 => exact src_of rfl (HR.out.below (Nat.le_refl _) (below_alloc _))
    case c2 => unfold maxLen; omega
    case c3 => omega
    case c4 => simp
    case c5 =>
      intro v' w1 hown hg _
      have hb1 : Below w.heap.size w w1 := ((Below.refl _ _).alloc (Nat.le_refl _) _).grown hg (by simp) (fun k hk => by simp [Value.ownBlock] at hk; omega)
      have HO := Lib.hid hown
      have HB := Lib.hid hb1
      clear hown hb1 hg
      go_wp2_with fail
      exact HQ.out _ _ ⟨_, rfl, HO.out, HB.out⟩
end Go.Proofs.Ytphofpemblindaa
/- The walks of wire's Reader. -/
namespace Go.Proofs.Ytphofpemblindaa
open Go.RowKit

/-- a reader in block rb: l is left, e went wrong; its bytes lie in blocks from lo on, ahead of rb -/
def Rd (lo : Nat) (w : World) (rb : Nat) (l : List UInt8) (e : Int) : Prop :=
  lo ≤ rb ∧ (e ≠ 0 → l = []) ∧ ∃ v, w.heap[rb]? = some (.cells #[v, .int .i64 e] 111 (0, 0)) ∧ BSx (fun k => lo ≤ k ∧ k < rb) w v l
theorem Rd.lt {lo : Nat} {w : World} {rb : Nat} {l : List UInt8} {e : Int} (h : Rd lo w rb l e) : lo ≤ rb ∧ rb < w.heap.size := by
  obtain ⟨h1, _, v, h3, _⟩ := h
  exact ⟨h1, obj_lt h3⟩
theorem Rd.fr {lo : Nat} {w w' : World} {rb : Nat} {l : List UInt8} {e : Int} (h : Rd lo w rb l e) {F : Nat → Prop} (hf : Fr F w w') (hF : ∀ k, lo ≤ k → k ≤ rb → ¬ F k) : Rd lo w' rb l e := by
  obtain ⟨h1, h2, v, h3, h4⟩ := h
  exact ⟨h1, h2, v, hf.heap h3 (hF _ h1 (Nat.le_refl _)), h4.fr hf (fun k _ hk => hF k hk.1 (Nat.le_of_lt hk.2))⟩
theorem Rd.fr0 {lo : Nat} {w w' : World} {rb : Nat} {l : List UInt8} {e : Int} (h : Rd lo w rb l e) (hf : Fr F0 w w') : Rd lo w' rb l e := h.fr hf (fun _ _ _ h => h)
/-- what is taken, what is left, what is wrong then -/
def rawL (n : Nat) (l : List UInt8) : List UInt8 := if n ≤ l.length then l.take n else []
def rawR (n : Nat) (l : List UInt8) : List UInt8 := if n ≤ l.length then l.drop n else []
def rawE (n : Nat) (l : List UInt8) (e : Int) : Int := if n ≤ l.length then e else if e = 0 then 3 else e
def wrongE (e x : Int) : Int := if e = 0 then x else e
/-- what a call on a reader leaves -/
def RPost (lo : Nat) (w : World) (rb : Nat) (l : List UInt8) (e : Int) (w' : World) : Prop := Rd lo w' rb l e ∧ Fr (F1 rb) w w'

set_option maxHeartbeats 400000 in
theorem rwrong_any (lo rb : Nat) (l : List UInt8) (e x : Int) (w : World) (hr : Rd lo w rb l e) (hx : x ≠ 0) :
    Calls Try.prog 49 #[.pointer (some ⟨rb, 0, none⟩), .int .i64 x] w fun r w' => r = .returned (.tuple #[]) ∧ RPost lo w rb [] (wrongE e x) w' := by
  obtain ⟨h1, h2, v, hh, hb⟩ := hr
  have c0 := obj_cell hh 0
  have c1 := obj_cell hh 1
  have z0 := obj_frozen hh 0
  have z1 := obj_frozen hh 1
  simp at c0 c1
  have hx0 : (x == 0) = false := by simp [hx]
  by_cases he : e = 0
  · subst he
    have hs1 := obj_set hh 1 (.int .i64 x)
    have hs2 := obj_set hs1 0 (.slice none 0 0)
    have hf := (Fr.setCell w ⟨rb, 1, none⟩ (.int .i64 x)).trans (Fr.setCell (w.setCell ⟨rb, 1, none⟩ (.int .i64 x)) ⟨rb, 0, none⟩ (.slice none 0 0)) (fun _ h => .inl h)
    have hp : RPost lo w rb [] (wrongE 0 x) ((w.setCell ⟨rb, 1, none⟩ (.int .i64 x)).setCell ⟨rb, 0, none⟩ (.slice none 0 0)) :=
      ⟨⟨h1, fun _ => rfl, _, by simpa [wrongE] using hs2, BSx.nil _ _⟩, hf⟩
    have HP := Lib.hid hp
    clear hp hs1 hs2 hf hh hb h2
    refine calls_q fun Q HQ => ?_
    go_enter Try.func49, Try.ntmps49
    go_wp2_with fail
    go_end0
    exact HQ.out _ _ ⟨rfl, HP.out⟩
  · have he0 : (e != 0) = true := by simp [he]
    have hl := h2 he
    subst hl
    have hp : RPost lo w rb [] (wrongE e x) w := ⟨⟨h1, fun _ => rfl, v, by rw [wrongE, if_neg he]; exact hh, hb⟩, Fr.refl _ _⟩
    have HP := Lib.hid hp
    clear hp hh hb h2 hx he
    refine calls_q fun Q HQ => ?_
    go_enter Try.func49, Try.ntmps49
    go_wp2_with fail
    go_end0
    exact HQ.out _ _ ⟨rfl, HP.out⟩

theorem rwrong_ok (lo rb : Nat) (l : List UInt8) (e : Int) (w : World) (hr : Rd lo w rb l e) :
    Calls Try.prog 49 #[.pointer (some ⟨rb, 0, none⟩), .int .i64 0] w fun r w' => r = .returned (.tuple #[]) ∧ w' = w := by
  obtain ⟨h1, h2, v, hh, hb⟩ := hr
  have c1 := obj_cell hh 1
  have z1 := obj_frozen hh 1
  simp at c1
  clear hh hb h2
  refine calls_q fun Q HQ => ?_
  go_enter Try.func49, Try.ntmps49
  go_wp2_with fail
  go_end0
  exact HQ.out _ _ ⟨rfl, rfl⟩
/-- what Raw answers -/
def RawPost (lo : Nat) (w : World) (rb n : Nat) (l : List UInt8) (e : Int) (r : Ending) (w' : World) : Prop :=
  ∃ v, r = .returned v ∧ BSx (fun k => lo ≤ k ∧ k < rb) w' v (rawL n l) ∧ RPost lo w rb (rawR n l) (rawE n l e) w'
theorem RawPost.eq {lo : Nat} {w : World} {rb n : Nat} {l : List UInt8} {e : Int} : RawPost lo w rb n l e = fun r w' => ∃ v, r = .returned v ∧ BSx (fun k => lo ≤ k ∧ k < rb) w' v (rawL n l) ∧ RPost lo w rb (rawR n l) (rawE n l e) w' := rfl
theorem raw_fin {lo rb n : Nat} {l : List UInt8} {e : Int} {w : World} {A : Option Addr} {c : Nat} (h1 : lo ≤ rb) (h2 : e ≠ 0 → l = [])
    (hh : w.heap[rb]? = some (.cells #[.slice A l.length c, .int .i64 e] 111 (0, 0))) (hb : BSx (fun k => lo ≤ k ∧ k < rb) w (.slice A l.length c) l)
    (hc : l.length ≤ c) (hcm : c ≤ maxLen) (hnl : n ≤ l.length) (A2 : Option Addr) (c2 : Nat) (hc2 : l.length - n ≤ c2) (hc3 : c2 ≤ maxLen) (hA : l.length - n = 0 ∨ A2 = A.map (fun x => x.add n)) :
    RawPost lo w rb n l e (.returned (.slice A n n)) (w.setCell ⟨rb, 0, none⟩ (.slice A2 (l.length - n) c2)) := by
  have hlt : (l.take n).length = n := by simp; omega
  have hld : (l.drop n).length = l.length - n := by simp
  have hf := Fr.setCell w ⟨rb, 0, none⟩ (.slice A2 (l.length - n) c2)
  have hnb : ∀ k, k < w.heap.size → (lo ≤ k ∧ k < rb) → ¬ F1 (⟨rb, 0, none⟩ : Addr).block k := fun k _ hk (h : k = rb) => by omega
  have hrow : Row8 w A l := by
    obtain ⟨A', c', he, _, _, hr⟩ := hb.1
    simp only [Value.slice.injEq] at he
    rw [he.1]; exact hr
  refine ⟨_, rfl, ?_, ⟨h1, ?_, .slice A2 (l.length - n) c2, ?_, ?_⟩, hf⟩
  · rw [rawL, if_pos hnl]
    refine BSx.fr ⟨⟨A, n, by rw [hlt], by omega, by omega, fun hp => ?_⟩, fun hp k hk => hb.2 (by omega) k (by rw [ownB] at hk ⊢; exact hk)⟩ hf hnb
    obtain ⟨b, o, rfl, hbl, hcell⟩ := hrow (by omega)
    exact ⟨b, o, rfl, hbl, fun j hj => by rw [List.getElem_take]; exact hcell j (by omega)⟩
  · rw [rawE, if_pos hnl, rawR, if_pos hnl]
    intro he
    rw [h2 he]; simp
  · rw [rawE, if_pos hnl]
    have := obj_set hh 0 (.slice A2 (l.length - n) c2)
    simpa using this
  · rw [rawR, if_pos hnl]
    by_cases hz : l.length - n = 0
    · have : l.drop n = [] := List.eq_nil_of_length_eq_zero (by omega)
      rw [this, hz]
      exact ⟨⟨A2, c2, rfl, by simp, hc3, fun h => absurd h (by simp)⟩, fun h => absurd h (by simp)⟩
    · obtain rfl := hA.resolve_left hz
      refine BSx.fr ⟨⟨_, c2, by rw [hld], by omega, hc3, hrow.drop n⟩, fun _ k hk => ?_⟩ hf hnb
      refine hb.2 (by omega) k ?_
      rw [ownB] at hk ⊢
      rw [← hk, Option.map_map]
      congr 1
      funext a
      exact (add_block a n).symm
set_option maxHeartbeats 400000 in
theorem rraw_any (lo rb n : Nat) (l : List UInt8) (e : Int) (w : World) (hr : Rd lo w rb l e) (hn : n ≤ 9223372036854775807) :
    Calls Try.prog 50 #[.pointer (some ⟨rb, 0, none⟩), .int .i64 n] w (RawPost lo w rb n l e) := by
  have HRd := Lib.hid hr
  obtain ⟨h1, h2, v, hh, hb⟩ := hr
  obtain ⟨A, c, rfl, hc, hcm, hrow⟩ := bs_parts hb.1
  have c0 := obj_cell hh 0
  have z0 := obj_frozen hh 0
  simp at c0
  refine calls_q fun Q HQ => ?_
  by_cases hnl : n ≤ l.length
  · have hnl' : (n : Int) ≤ (l.length : Int) := by omega
    have hfin := raw_fin h1 h2 hh hb hc hcm hnl
    unfold maxLen at hfin
    have FI := Lib.hid hfin
    clear hfin
    by_cases hcn : c = n
    · clear hh hb hrow
      go_enter Try.func50, Try.ntmps50
      go_wp2_with fail
      exact HQ.out _ _ (FI.out _ _ (by omega) (by omega) (.inl (by omega)))
    · clear hh hb hrow
      go_enter Try.func50, Try.ntmps50
      go_wp2_with fail
      exact HQ.out _ _ (FI.out _ _ (by omega) (by omega) (.inr rfl))
  · have hnl' : (l.length : Int) < (n : Int) := by omega
    clear hh hb hrow
    go_enter Try.func50, Try.ntmps50
    go_wp2_with fail
    refine (rwrong_any lo rb l e 3 w HRd.out (by decide)).mono ?_
    rintro r w1 ⟨rfl, hp⟩
    have HP := Lib.hid hp
    clear hp
    go_wp2_with fail
    exact HQ.out _ _ ⟨_, rfl, by rw [rawL, if_neg hnl]; exact BSx.nil _ _, by rw [rawR, if_neg hnl, rawE, if_neg hnl]; exact HP.out⟩

/-- what is read as a number -/
def rdN (n : Nat) (l : List UInt8) : Nat := beN (rawL n l)
theorem rdN_lt (n : Nat) (l : List UInt8) : rdN n l < 256 ^ n := by
  unfold rdN rawL; split
  · have := beN_lt (l.take n)
    rwa [List.length_take, Nat.min_eq_left (by assumption)] at this
  · exact Nat.pow_pos (by decide)
theorem lastN_raw (n : Nat) (l : List UInt8) (h : n ≤ 8) : lastN (rawL n l) = rawL n l := by
  have : (rawL n l).length ≤ 8 := by unfold rawL; split <;> simp <;> omega
  rw [lastN, show (rawL n l).length - 8 = 0 by omega]; rfl
set_option maxHeartbeats 400000 in
theorem numfrom_any (lo rb n : Nat) (l : List UInt8) (e : Int) (w : World) (hr : Rd lo w rb l e) (hn : n ≤ 8) :
    Calls Try.prog 66 #[.func (.func 50) #[.pointer (some ⟨rb, 0, none⟩)] #[], .int .i64 n] w fun r w' => r = .returned (.int .u64 (rdN n l : Nat)) ∧ RPost lo w rb (rawR n l) (rawE n l e) w' := by
  refine calls_q fun Q HQ => ?_
  go_enter Try.func66, Try.ntmps66
  go_wp2_with fail
  refine (rraw_any lo rb n l e w hr (by omega)).mono ?_
  rintro r w1 ⟨v, rfl, hv, hp⟩
  have HV := Lib.hid hv
  have HP := Lib.hid hp
  clear hv hp
  go_wp2_with fail
  have hb := num_any v (rawL n l) w1 HV.out.1
  rw [lastN_raw n l hn] at hb
  refine hb.mono ?_
  rintro r w2 ⟨rfl, rfl⟩
  clear hb
  go_wp2_with fail
  exact HQ.out _ _ ⟨rfl, HP.out⟩
set_option maxHeartbeats 400000 in
theorem rbyte_any (lo rb : Nat) (l : List UInt8) (e : Int) (w : World) (hr : Rd lo w rb l e) :
    Calls Try.prog 46 #[.pointer (some ⟨rb, 0, none⟩)] w fun r w' => r = .returned (.int .u8 (rdN 1 l : Nat)) ∧ RPost lo w rb (rawR 1 l) (rawE 1 l e) w' := by
  have hmf : ∀ (fn : Fn) (first cap : Array Value) (w : World), (Instr.makeFunc fn first cap).run Try.prog w = .ok (.func fn first cap) w := fun _ _ _ _ => rfl
  have hn := numfrom_any lo rb 1 l e w hr (by decide)
  have hlt := rdN_lt 1 l
  have HN := Lib.hid hn
  clear hn
  refine calls_q fun Q HQ => ?_
  go_enter Try.func46, Try.ntmps46
  go_wp2_with fail
  refine HN.out.mono ?_
  rintro r w1 ⟨rfl, hp⟩
  have HP := Lib.hid hp
  clear hp
  go_wp2_with fail
  refine HQ.out _ _ ⟨ret_int ?_, HP.out⟩
  first | rfl | (rw [wrap_u8]; omega)

theorem new_any (v : Value) (l : List UInt8) (w : World) (hv : BS w v l) (hm : l.length ≤ 140737488355328) :
    Calls Try.prog 31 #[v] w fun r w' => ∃ rb, r = .returned (.pointer (some ⟨rb, 0, none⟩)) ∧ Rd w.heap.size w' rb l 0 ∧ Below w.heap.size w w' ∧ w'.heap.size = rb + 1 := by
  refine calls_q fun Q HQ => ?_
  go_enter Try.func31, Try.ntmps31
  go_wp2_with fail
  refine (clone_any v l w hv hm).mono ?_
  rintro r w1 ⟨u, rfl, ho, hb⟩
  obtain ⟨A, c, rfl⟩ := own_slice ho
  have HO := Lib.hid ho
  have HB := Lib.hid hb
  clear ho hb
  go_wp2_with fail
  refine HQ.out _ _ ⟨w1.heap.size, rfl, ⟨HB.out.size, fun h => absurd rfl h, _, heap_alloc_new _ _, ?_⟩, HB.out.alloc HB.out.size _, by simp⟩
  exact BSx.fr (own_bsx HO.out |>.mono (fun k hk h => ⟨h, hk⟩)) (Fr.alloc _ _) (fun _ _ _ h => h)
/-- what End tells -/
def endE (l : List UInt8) (e : Int) : Int := if l = [] then e else 4
theorem rend_any (lo rb : Nat) (l : List UInt8) (e : Int) (w : World) (hr : Rd lo w rb l e) :
    Calls Try.prog 34 #[.pointer (some ⟨rb, 0, none⟩)] w fun r w' => r = .returned (.int .i64 (endE l e)) ∧ w' = w := by
  obtain ⟨h1, h2, v, hh, hb⟩ := hr
  obtain ⟨A, c, rfl, hc, hcm, hrow⟩ := bs_parts hb.1
  have c0 := obj_cell hh 0
  have c1 := obj_cell hh 1
  have z0 := obj_frozen hh 0
  have z1 := obj_frozen hh 1
  simp at c0 c1
  clear hh hb h2 hrow
  refine calls_q fun Q HQ => ?_
  by_cases hl : 0 < (l.length : Int)
  · go_enter Try.func34, Try.ntmps34
    go_wp2_with fail
    refine HQ.out _ _ ⟨ret_int ?_, rfl⟩
    rw [endE, if_neg (by rintro rfl; simp at hl)]
  · go_enter Try.func34, Try.ntmps34
    go_wp2_with fail
    refine HQ.out _ _ ⟨ret_int ?_, rfl⟩
    rw [endE, if_pos (List.eq_nil_of_length_eq_zero (by omega))]
end Go.Proofs.Ytphofpemblindaa
/- Numbers that were written, and that are read; reading goes on. -/
namespace Go.Proofs.Ytphofpemblindaa
open Go.RowKit

/-! ### numbers that were written, and that are read -/
theorem bytesL_snoc2 (x n : Nat) : bytesL x (n + 1) = UInt8.ofNat (x / 256 ^ n) :: bytesL x n := by
  unfold bytesL
  rw [List.range_succ_eq_map]
  simp only [List.map_cons, List.map_map]
  congr 1
  refine List.map_congr_left fun i hi => ?_
  simp only [Function.comp]
  congr 3
  omega
theorem beN_cons (x : UInt8) (l : List UInt8) : beN (x :: l) = x.toNat * 256 ^ l.length + beN l := by
  have h := beN_append [x] l
  have h3 : beN [x] = x.toNat := by simp [beN]
  rw [h3] at h
  exact h
theorem beN_bytesL (x n : Nat) : beN (bytesL x n) = x % 256 ^ n := by
  induction n with
  | zero => simp [bytesL, beN, Nat.mod_one]
  | succ n ih =>
    have e : (UInt8.ofNat (x / 256 ^ n)).toNat = x / 256 ^ n % 256 := UInt8.toNat_ofNat'
    rw [bytesL_snoc2, beN_cons, bytesL_len, ih, e, Nat.pow_succ, Nat.mod_mul, Nat.mul_comm, Nat.add_comm]
theorem bytesL_add (x y n : Nat) : bytesL (x * 256 ^ n + y) n = bytesL y n := by
  unfold bytesL
  apply List.map_congr_left
  intro i hi
  have hi := List.mem_range.1 hi
  have e : (256 : Nat) ^ n = 256 ^ (i + 1) * 256 ^ (n - 1 - i) := by rw [← Nat.pow_add]; congr 1; omega
  rw [e, ← Nat.mul_assoc, Nat.add_comm, Nat.add_mul_div_right _ _ (Nat.pow_pos (by decide)), Nat.pow_succ, ← Nat.mul_assoc]
  generalize y / 256 ^ (n - 1 - i) = p
  generalize x * 256 ^ i = q
  apply UInt8.toNat_inj.1
  rw [UInt8.toNat_ofNat', UInt8.toNat_ofNat']
  omega
theorem bytesL_mod (x n : Nat) : bytesL (x % 256 ^ n) n = bytesL x n := by
  have h := bytesL_add (x / 256 ^ n) (x % 256 ^ n) n
  rw [Nat.mul_comm, Nat.div_add_mod] at h
  exact h.symm
theorem bytesL_beN (l : List UInt8) : bytesL (beN l) l.length = l := by
  induction l with
  | nil => rfl
  | cons x l ih =>
    have h1 := beN_lt l
    rw [List.length_cons, bytesL_snoc2, beN_cons, bytesL_add, ih, Nat.add_comm, Nat.add_mul_div_right _ _ (Nat.pow_pos (by decide)), Nat.div_eq_of_lt h1, Nat.zero_add]
    congr 1
    apply UInt8.toNat_inj.1
    have := UInt8.toNat_lt x
    rw [UInt8.toNat_ofNat']
    omega
theorem bytesI_n (x n : Nat) (h : n ≤ 8) : bytesI x n = bytesL x n := by rw [bytesI, if_pos (by omega)]; rfl
theorem rawL_app (xs rest : List UInt8) (n : Nat) (h : n = xs.length) : rawL n (xs ++ rest) = xs := by
  subst h
  rw [rawL, if_pos (by simp)]; simp
theorem rawR_app (xs rest : List UInt8) (n : Nat) (h : n = xs.length) : rawR n (xs ++ rest) = rest := by
  subst h
  rw [rawR, if_pos (by simp)]; simp
theorem rdN_app (x n : Nat) (rest : List UInt8) (h : x < 256 ^ n) : rdN n (bytesL x n ++ rest) = x := by
  unfold rdN
  rw [rawL_app _ _ _ (bytesL_len x n).symm, beN_bytesL, Nat.mod_eq_of_lt h]
theorem rawR_num (x n : Nat) (rest : List UInt8) : rawR n (bytesL x n ++ rest) = rest := rawR_app _ _ _ (bytesL_len x n).symm
/-- reading goes on -/
theorem rawR_0 (l : List UInt8) : rawR 0 l = l := by simp [rawR]
theorem rawR_add (a b : Nat) (l : List UInt8) (hb : 0 < b) : rawR b (rawR a l) = rawR (a + b) l := by
  unfold rawR
  by_cases h1 : a ≤ l.length
  · rw [if_pos h1]
    by_cases h2 : a + b ≤ l.length
    · rw [if_pos h2, if_pos (by simp; omega), List.drop_drop]
    · rw [if_neg h2, if_neg (by simp; omega)]
  · rw [if_neg h1, if_neg (show ¬ a + b ≤ l.length by omega), if_neg (show ¬ b ≤ ([] : List UInt8).length by simp; omega)]
theorem rawE_add (a b : Nat) (l : List UInt8) (e : Int) (hb : 0 < b) : rawE b (rawR a l) (rawE a l e) = rawE (a + b) l e := by
  unfold rawE rawR
  by_cases h1 : a ≤ l.length
  · rw [if_pos h1, if_pos h1]
    by_cases h2 : a + b ≤ l.length
    · rw [if_pos h2, if_pos (by simp; omega)]
    · rw [if_neg h2, if_neg (by simp; omega)]
  · rw [if_neg h1, if_neg h1, if_neg (show ¬ a + b ≤ l.length by omega), if_neg (show ¬ b ≤ ([] : List UInt8).length by simp; omega)]
    by_cases he : e = 0
    · rw [if_pos he]; rfl
    · rw [if_neg he, if_neg he]
/-- what is read is written again -/
theorem rd_wr (n : Nat) (l : List UInt8) (h : n ≤ l.length) : bytesL (rdN n l) n ++ rawR n l = l := by
  have h1 : rawL n l = l.take n := by rw [rawL, if_pos h]
  have h2 : (l.take n).length = n := by simp; omega
  have h3 := bytesL_beN (l.take n)
  rw [h2] at h3
  rw [rdN, h1, h3, rawR, if_pos h, List.take_append_drop]
theorem rawR_len (n : Nat) (l : List UInt8) (h : n ≤ l.length) : (rawR n l).length = l.length - n := by rw [rawR, if_pos h]; simp
end Go.Proofs.Ytphofpemblindaa
/- The walk of bits.Signed. -/
namespace Go.Proofs.Ytphofpemblindaa
open Go.RowKit
/-! ### Signed -/
def signedN (n : Nat) (s : Int) : Int :=
  if 1 ≤ s ∧ s ≤ 64 then (if n % 2 ^ s.toNat < 2 ^ (s.toNat - 1) then ((n % 2 ^ s.toNat : Nat) : Int) else ((n % 2 ^ s.toNat : Nat) : Int) - 2 ^ s.toNat) else 0
theorem wrap_i64' (n : Int) : IntKind.i64.wrap n = if 9223372036854775808 ≤ n % 18446744073709551616 then n % 18446744073709551616 - 18446744073709551616 else n % 18446744073709551616 := by
  simp [IntKind.wrap, IntKind.bits, IntKind.signed]
theorem signed_eq (n : Nat) (s : Int) (h1 : 1 ≤ s) (h2 : s ≤ 64) :
    IntKind.i64.wrap (IntKind.u64.wrap ((n : Int) * 2 ^ (64 - s).toNat)) / 2 ^ (64 - s).toNat = signedN n s := by
  obtain ⟨k, hk⟩ : ∃ k : Nat, s.toNat = k + 1 := ⟨s.toNat - 1, by omega⟩
  have hab : (64 - s).toNat = 63 - k := by omega
  have hk63 : k ≤ 63 := by omega
  rw [signedN, if_pos ⟨h1, h2⟩, hab, hk, show k + 1 - 1 = k from rfl]
  have e64 : (2:Nat) ^ (k + 1) * 2 ^ (63 - k) = 18446744073709551616 := by
    rw [← Nat.pow_add, show k + 1 + (63 - k) = 64 by omega]
  have e63 : (2:Nat) ^ k * 2 ^ (63 - k) = 9223372036854775808 := by
    rw [← Nat.pow_add, show k + (63 - k) = 63 by omega]
  have hb := Nat.two_pow_pos (63 - k)
  have e1 : n * 2 ^ (63 - k) % 18446744073709551616 = (n % 2 ^ (k + 1)) * 2 ^ (63 - k) := by
    rw [← e64, Nat.mul_mod_mul_right]
  have hlt : n % 2 ^ (k + 1) < 2 ^ (k + 1) := Nat.mod_lt _ (Nat.two_pow_pos _)
  rw [natpow_cast, natpow_cast]
  generalize n % 2 ^ (k + 1) = m at *
  rw [wrap_u64, ← Int.natCast_mul, wrap_i64']
  have e2 : ((n * 2 ^ (63 - k) : Nat) : Int) % 18446744073709551616 = ((m * 2 ^ (63 - k) : Nat) : Int) := by rw [← e1]; omega
  have hmul : m * 2 ^ (63 - k) < 18446744073709551616 := by rw [← e64]; exact Nat.mul_lt_mul_of_pos_right hlt hb
  rw [e2, show ((m * 2 ^ (63 - k) : Nat) : Int) % 18446744073709551616 = ((m * 2 ^ (63 - k) : Nat) : Int) by omega]
  by_cases hm : m < 2 ^ k
  · have h3 : m * 2 ^ (63 - k) < 9223372036854775808 := by rw [← e63]; exact Nat.mul_lt_mul_of_pos_right hm hb
    rw [if_neg (by omega), if_pos hm, Int.natCast_mul]
    exact Int.mul_ediv_cancel _ (by omega)
  · have h3 : 9223372036854775808 ≤ m * 2 ^ (63 - k) := by rw [← e63]; exact Nat.mul_le_mul_right _ (by omega)
    rw [if_pos (by omega), if_neg hm]
    have e5 : ((m * 2 ^ (63 - k) : Nat) : Int) - 18446744073709551616 = ((m : Int) - ((2 ^ (k + 1) : Nat) : Int)) * ((2 ^ (63 - k) : Nat) : Int) := by
      rw [Int.sub_mul, ← Int.natCast_mul, ← Int.natCast_mul, e64]; rfl
    rw [e5]
    exact Int.mul_ediv_cancel _ (by omega)
set_option maxHeartbeats 400000 in
theorem signed_any (n s : Int) (w : World) (hn : U64 n) :
    Calls Try.prog 69 #[.int .u64 n, .int .i64 s] w fun e w' => e = .returned (.int .i64 (signedN n.toNat s)) ∧ w' = w := by
  obtain ⟨n, rfl⟩ := Int.eq_ofNat_of_zero_le hn.lo
  rw [Int.toNat_natCast]
  refine calls_q fun Q HQ => ?_
  by_cases h1 : 1 ≤ s
  · by_cases h2 : s ≤ 64
    · go_enter Try.func69, Try.ntmps69
      go_wp2
      exact HQ.out _ _ ⟨ret_int (by have h := signed_eq n s h1 h2; rw [IntWalk.i64_left] at h; exact h), rfl⟩
    · go_enter Try.func69, Try.ntmps69
      go_wp2
      exact HQ.out _ _ ⟨ret_int (by rw [signedN, if_neg (by omega)]), rfl⟩
  · go_enter Try.func69, Try.ntmps69
    go_wp2
    exact HQ.out _ _ ⟨ret_int (by rw [signedN, if_neg (by omega)]), rfl⟩
end Go.Proofs.Ytphofpemblindaa
/- Reports as data: their bytes, what may be, what reading tells. -/
namespace Go.Proofs.Ytphofpemblindaa
open Go.RowKit

/-! ### a block -/
structure DB where
  s : Nat
  p : Nat
  m : Int
  h : Nat
  j : Nat
  l : Nat
  d : Nat
structure DB.Ok (b : DB) : Prop where
  s : b.s < 4294967296
  p : b.p < 256
  m0 : -2147483648 ≤ b.m
  m1 : b.m ≤ 2147483647
  h : b.h < 4294967296
  j : b.j < 4294967296
  l : b.l < 4294967296
  d : b.d < 4294967296
def DB.row (b : DB) : List Value := [.int .u32 (b.s : Nat), .int .u8 (b.p : Nat), .int .i32 b.m, .int .u32 (b.h : Nat), .int .u32 (b.j : Nat), .int .u32 (b.l : Nat), .int .u32 (b.d : Nat)]
def m24 (m : Int) : Nat := (m % 16777216).toNat
def encB (b : DB) : List UInt8 := bytesL b.s 4 ++ (bytesL b.p 1 ++ (bytesL (m24 b.m) 3 ++ (bytesL b.h 4 ++ (bytesL b.j 4 ++ (bytesL b.l 4 ++ bytesL b.d 4)))))
theorem encB_len (b : DB) : (encB b).length = 24 := by simp [encB, bytesL_len]
def missB (b : DB) : Bool := decide (-8388608 ≤ b.m ∧ b.m ≤ 8388607)
def decB (l : List UInt8) : DB := ⟨rdN 4 l, rdN 1 (rawR 4 l), signedN (rdN 3 (rawR 5 l)) 24, rdN 4 (rawR 8 l), rdN 4 (rawR 12 l), rdN 4 (rawR 16 l), rdN 4 (rawR 20 l)⟩
theorem signed24 (n : Nat) (h : n < 16777216) : signedN n 24 = if n < 8388608 then (n : Int) else (n : Int) - 16777216 := by
  unfold signedN
  rw [if_pos (by omega), show (24 : Int).toNat = 24 by decide, show (2 : Nat) ^ 24 = 16777216 by decide, show (2 : Nat) ^ (24 - 1) = 8388608 by decide, Nat.mod_eq_of_lt h]
  rfl
theorem sig_m24 (m : Int) (h0 : -8388608 ≤ m) (h1 : m ≤ 8388607) : signedN (m24 m) 24 = m := by
  have hlt : m24 m < 16777216 := by unfold m24; omega
  rw [signed24 _ hlt]
  unfold m24
  split <;> omega
theorem m24_lt (m : Int) : m24 m < 16777216 := by unfold m24; omega
theorem m24_sig (n : Nat) (h : n < 16777216) : m24 (signedN n 24) = n := by
  rw [signed24 n h]
  unfold m24
  split <;> omega
theorem decB_ok (l : List UInt8) : (decB l).Ok ∧ missB (decB l) = true := by
  have a0 := rdN_lt 4 l
  have a1 := rdN_lt 1 (rawR 4 l)
  have a2 := rdN_lt 3 (rawR 5 l)
  have a3 := rdN_lt 4 (rawR 8 l)
  have a4 := rdN_lt 4 (rawR 12 l)
  have a5 := rdN_lt 4 (rawR 16 l)
  have a6 := rdN_lt 4 (rawR 20 l)
  have hs := signed24 (rdN 3 (rawR 5 l)) (by simpa using a2)
  have hm : -8388608 ≤ (decB l).m ∧ (decB l).m ≤ 8388607 := by
    show -8388608 ≤ signedN (rdN 3 (rawR 5 l)) 24 ∧ signedN (rdN 3 (rawR 5 l)) 24 ≤ 8388607
    rw [hs]
    split <;> omega
  exact ⟨⟨a0, a1, by omega, by omega, a3, a4, a5, a6⟩, decide_eq_true hm⟩
/-- a block comes back, whatever stands behind -/
theorem decB_enc (b : DB) (R : List UInt8) (hb : b.Ok) (hm : missB b = true) : decB (encB b ++ R) = b ∧ rawR 24 (encB b ++ R) = R := by
  have hm := of_decide_eq_true hm
  refine ⟨?_, rawR_app _ _ _ (encB_len b).symm⟩
  have e : encB b ++ R = bytesL b.s 4 ++ (bytesL b.p 1 ++ (bytesL (m24 b.m) 3 ++ (bytesL b.h 4 ++ (bytesL b.j 4 ++ (bytesL b.l 4 ++ (bytesL b.d 4 ++ R)))))) := by simp [encB]
  unfold decB
  rw [e]
  have r4 := rawR_num b.s 4 (bytesL b.p 1 ++ (bytesL (m24 b.m) 3 ++ (bytesL b.h 4 ++ (bytesL b.j 4 ++ (bytesL b.l 4 ++ (bytesL b.d 4 ++ R))))))
  generalize hL : bytesL b.s 4 ++ (bytesL b.p 1 ++ (bytesL (m24 b.m) 3 ++ (bytesL b.h 4 ++ (bytesL b.j 4 ++ (bytesL b.l 4 ++ (bytesL b.d 4 ++ R)))))) = L at *
  have r5 : rawR 5 L = bytesL (m24 b.m) 3 ++ (bytesL b.h 4 ++ (bytesL b.j 4 ++ (bytesL b.l 4 ++ (bytesL b.d 4 ++ R)))) := by
    rw [← rawR_add 4 1 L (by decide), r4, rawR_num]
  have r8 : rawR 8 L = bytesL b.h 4 ++ (bytesL b.j 4 ++ (bytesL b.l 4 ++ (bytesL b.d 4 ++ R))) := by
    rw [← rawR_add 5 3 L (by decide), r5, rawR_num]
  have r12 : rawR 12 L = bytesL b.j 4 ++ (bytesL b.l 4 ++ (bytesL b.d 4 ++ R)) := by
    rw [← rawR_add 8 4 L (by decide), r8, rawR_num]
  have r16 : rawR 16 L = bytesL b.l 4 ++ (bytesL b.d 4 ++ R) := by
    rw [← rawR_add 12 4 L (by decide), r12, rawR_num]
  have r20 : rawR 20 L = bytesL b.d 4 ++ R := by
    rw [← rawR_add 16 4 L (by decide), r16, rawR_num]
  have h0 := hb.s; have h1 := hb.p; have h3 := hb.h; have h4 := hb.j; have h5 := hb.l; have h6 := hb.d
  have h2 := m24_lt b.m
  rw [r4, r5, r8, r12, r16, r20, ← hL, rdN_app _ 4 _ (by simpa using h0), rdN_app _ 1 _ (by simpa using h1), rdN_app _ 3 _ (by simpa using h2), rdN_app _ 4 _ (by simpa using h3), rdN_app _ 4 _ (by simpa using h4), rdN_app _ 4 _ (by simpa using h5), rdN_app _ 4 _ (by simpa using h6), sig_m24 _ hm.1 hm.2]
/-- .. and bytes, from the block that they are -/
theorem encB_dec (l : List UInt8) (h : 24 ≤ l.length) : encB (decB l) ++ rawR 24 l = l := by
  have h2 := rdN_lt 3 (rawR 5 l)
  have a1 := rawR_add 4 1 l (by decide)
  have a2 := rawR_add 5 3 l (by decide)
  have a3 := rawR_add 8 4 l (by decide)
  have a4 := rawR_add 12 4 l (by decide)
  have a5 := rawR_add 16 4 l (by decide)
  have a6 := rawR_add 20 4 l (by decide)
  have w0 := rd_wr 4 l (by omega)
  have w1 := rd_wr 1 (rawR 4 l) (by rw [rawR_len 4 l (by omega)]; omega)
  have w2 := rd_wr 3 (rawR 5 l) (by rw [rawR_len 5 l (by omega)]; omega)
  have w3 := rd_wr 4 (rawR 8 l) (by rw [rawR_len 8 l (by omega)]; omega)
  have w4 := rd_wr 4 (rawR 12 l) (by rw [rawR_len 12 l (by omega)]; omega)
  have w5 := rd_wr 4 (rawR 16 l) (by rw [rawR_len 16 l (by omega)]; omega)
  have w6 := rd_wr 4 (rawR 20 l) (by rw [rawR_len 20 l (by omega)]; omega)
  rw [a1] at w1
  rw [a2] at w2
  rw [a3] at w3
  rw [a4] at w4
  rw [a5] at w5
  rw [a6] at w6
  simp only [Nat.reduceAdd] at w1 w2 w3 w4 w5 w6
  simp only [encB, decB, List.append_assoc]
  rw [m24_sig _ (by simpa using h2), w6, w5, w4, w3, w2, w1, w0]
/-! ### blocks -/
def encBs (bs : List DB) : List UInt8 := (bs.map encB).flatten
theorem encBs_cons (b : DB) (bs : List DB) : encBs (b :: bs) = encB b ++ encBs bs := rfl
theorem encBs_snoc (bs : List DB) (b : DB) : encBs (bs ++ [b]) = encBs bs ++ encB b := by simp [encBs]
theorem encBs_len (bs : List DB) : (encBs bs).length = 24 * bs.length := by
  induction bs with
  | nil => rfl
  | cons b bs ih => rw [encBs_cons, List.length_append, encB_len, ih, List.length_cons]; omega
def decBs : Nat → List UInt8 → List DB
  | 0, _ => []
  | n + 1, l => decB l :: decBs n (rawR 24 l)
theorem decBs_len (n : Nat) (l : List UInt8) : (decBs n l).length = n := by
  induction n generalizing l with
  | zero => rfl
  | succ n ih => simp [decBs, ih]
theorem decBs_snoc (n : Nat) (l : List UInt8) : decBs (n + 1) l = decBs n l ++ [decB (rawR (24 * n) l)] := by
  induction n generalizing l with
  | zero => simp [decBs, rawR_0]
  | succ n ih =>
    rw [decBs, ih, decBs, List.cons_append]
    cases n with
    | zero => simp [rawR_0]
    | succ n =>
      rw [rawR_add 24 (24 * (n + 1)) l (by omega), show 24 + 24 * (n + 1) = 24 * (n + 1 + 1) by omega]
theorem decBs_ok (n : Nat) (l : List UInt8) : ∀ b ∈ decBs n l, b.Ok ∧ missB b = true := by
  induction n generalizing l with
  | zero => simp [decBs]
  | succ n ih =>
    intro b hb
    rcases List.mem_cons.1 hb with rfl | hb
    · exact decB_ok l
    · exact ih _ b hb
theorem decBs_enc (bs : List DB) (h : ∀ b ∈ bs, b.Ok) (hm : bs.all missB = true) : decBs bs.length (encBs bs) = bs := by
  induction bs with
  | nil => rfl
  | cons b bs ih =>
    rw [List.all_cons, Bool.and_eq_true] at hm
    obtain ⟨h1, h2⟩ := decB_enc b (encBs bs) (h b (List.mem_cons_self ..)) hm.1
    rw [encBs_cons, List.length_cons, decBs, h1, h2, ih (fun b hb => h b (List.mem_cons_of_mem _ hb)) hm.2]
theorem encBs_dec (n : Nat) (l : List UInt8) (h : l.length = 24 * n) : encBs (decBs n l) = l := by
  induction n generalizing l with
  | zero =>
    obtain rfl := List.eq_nil_of_length_eq_zero (show l.length = 0 by omega)
    rfl
  | succ n ih =>
    rw [decBs, encBs_cons, ih _ (by rw [rawR_len 24 l (by omega)]; omega), encB_dec l (by omega)]
/-! ### a report -/
structure DR where
  sd : Bool
  so : Nat
  i0 : Nat
  i1 : Nat
  i2 : Nat
  i3 : Nat
  i4 : Nat
  bl : List DB
def DR.zero : DR := ⟨false, 0, 0, 0, 0, 0, 0, []⟩
structure DR.Ok (r : DR) : Prop where
  so : r.so < 4294967296
  i0 : r.i0 < 4294967296
  i1 : r.i1 < 4294967296
  i2 : r.i2 < 4294967296
  i3 : r.i3 < 4294967296
  i4 : r.i4 < 4294967296
  bl : ∀ b ∈ r.bl, b.Ok
def noInfo (r : DR) : Bool := decide (r.i0 = 0 ∧ r.i1 = 0 ∧ r.i2 = 0 ∧ r.i3 = 0 ∧ r.i4 = 0)
def mostN (sd : Bool) : Nat := if sd then 7 else 8
def rightR (r : DR) : Bool := (r.sd || noInfo r) && (decide (r.bl.length ≤ mostN r.sd) && r.bl.all missB)
def encI (r : DR) : List UInt8 := bytesL r.i0 4 ++ (bytesL r.i1 4 ++ (bytesL r.i2 4 ++ (bytesL r.i3 4 ++ bytesL r.i4 4)))
theorem encI_len (r : DR) : (encI r).length = 20 := by simp [encI, bytesL_len]
def typR (sd : Bool) : Nat := if sd then 200 else 201
def headR (r : DR) : List UInt8 := bytesL r.so 4 ++ (if r.sd then encI r else [])
def encR (r : DR) : List UInt8 := headR r ++ encBs r.bl
def aheadN (sd : Bool) : Nat := if sd then 24 else 4
theorem headR_len (r : DR) : (headR r).length = aheadN r.sd := by
  unfold headR aheadN
  cases r.sd <;> simp [bytesL_len, encI_len]
theorem encR_len (r : DR) : (encR r).length = aheadN r.sd + 24 * r.bl.length := by rw [encR, List.length_append, headR_len, encBs_len]
def chunkR (r : DR) : DC := (r.bl.length, typR r.sd, encR r)
/-- what reading a chunk tells -/
def isR (y : Nat) : Bool := decide (y = 200) || decide (y = 201)
def wantN (d : DC) : Nat := aheadN (decide (d.2.1 = 200)) + 24 * d.1
def rdErr (d : DC) : Int := if rightC d then (if isR d.2.1 then endE (rawR (wantN d) d.2.2) (rawE (wantN d) d.2.2 0) else 5) else 1
def decR (d : DC) : DR :=
  if d.2.1 = 200 then ⟨true, rdN 4 d.2.2, rdN 4 (rawR 4 d.2.2), rdN 4 (rawR 8 d.2.2), rdN 4 (rawR 12 d.2.2), rdN 4 (rawR 16 d.2.2), rdN 4 (rawR 20 d.2.2), decBs d.1 (rawR 24 d.2.2)⟩
  else ⟨false, rdN 4 d.2.2, 0, 0, 0, 0, 0, decBs d.1 (rawR 4 d.2.2)⟩
def readR (d : DC) : DR := if rdErr d = 0 then decR d else DR.zero
theorem rdErr_eq (d : DC) : rdErr d = if rightC d then (if isR d.2.1 then (if d.2.2.length < wantN d then 3 else if wantN d < d.2.2.length then 4 else 0) else 5) else 1 := by
  unfold rdErr
  congr 2
  unfold endE rawR rawE
  by_cases h1 : d.2.2.length < wantN d
  · have h2 : ¬ wantN d ≤ d.2.2.length := by omega
    simp only [if_pos h1, if_neg h2, if_pos]
  · have h2 : wantN d ≤ d.2.2.length := by omega
    simp only [if_neg h1, if_pos h2]
    by_cases h3 : wantN d < d.2.2.length
    · rw [if_pos h3, if_neg]
      intro h
      have := congrArg List.length h
      simp at this; omega
    · rw [if_neg h3, if_pos (List.eq_nil_of_length_eq_zero (by simp; omega))]
theorem rdErr_0 {d : DC} (h : rdErr d = 0) : rightC d = true ∧ isR d.2.1 = true ∧ d.2.2.length = wantN d := by
  rw [rdErr_eq] at h
  split at h
  · split at h
    · split at h
      · exact absurd h (by decide)
      · split at h
        · exact absurd h (by decide)
        · exact ⟨by assumption, by assumption, by omega⟩
    · exact absurd h (by decide)
  · exact absurd h (by decide)
theorem decR_ok (d : DC) : (decR d).Ok := by
  have a0 := rdN_lt 4 d.2.2
  have a1 := rdN_lt 4 (rawR 4 d.2.2)
  have a3 := rdN_lt 4 (rawR 8 d.2.2)
  have a4 := rdN_lt 4 (rawR 12 d.2.2)
  have a5 := rdN_lt 4 (rawR 16 d.2.2)
  have a6 := rdN_lt 4 (rawR 20 d.2.2)
  unfold decR
  split
  · exact ⟨a0, a1, a3, a4, a5, a6, fun b hb => (decBs_ok _ _ b hb).1⟩
  · exact ⟨a0, Nat.zero_lt_succ _, Nat.zero_lt_succ _, Nat.zero_lt_succ _, Nat.zero_lt_succ _, Nat.zero_lt_succ _, fun b hb => (decBs_ok _ _ b hb).1⟩
/-- chunks come back from their reports -/
theorem back_c {d : DC} (h : rdErr d = 0) : rightR (decR d) = true ∧ chunkR (decR d) = d := by
  obtain ⟨h1, h2, h3⟩ := rdErr_0 h
  obtain ⟨n, y, l⟩ := d
  obtain ⟨r1, r2, r3⟩ := right_iffC.1 h1
  simp only [isR, Bool.or_eq_true, decide_eq_true_eq] at h2
  simp only [wantN, aheadN] at h3
  simp only at r1 r2 r3
  unfold decR
  simp only
  have w0 := rd_wr 4 l (by rw [h3]; split <;> omega)
  by_cases hy : y = 200
  · subst hy
    simp only [decide_true, if_true] at h3 ⊢
    have w1 := rd_wr 4 (rawR 4 l) (by rw [rawR_len 4 l (by omega)]; omega)
    have w2 := rd_wr 4 (rawR 8 l) (by rw [rawR_len 8 l (by omega)]; omega)
    have w3 := rd_wr 4 (rawR 12 l) (by rw [rawR_len 12 l (by omega)]; omega)
    have w4 := rd_wr 4 (rawR 16 l) (by rw [rawR_len 16 l (by omega)]; omega)
    have w5 := rd_wr 4 (rawR 20 l) (by rw [rawR_len 20 l (by omega)]; omega)
    rw [rawR_add 4 4 l (by decide)] at w1
    rw [rawR_add 8 4 l (by decide)] at w2
    rw [rawR_add 12 4 l (by decide)] at w3
    rw [rawR_add 16 4 l (by decide)] at w4
    rw [rawR_add 20 4 l (by decide)] at w5
    simp only [Nat.reduceAdd] at w1 w2 w3 w4 w5
    refine ⟨?_, ?_⟩
    · simp only [rightR, Bool.true_or, Bool.true_and, Bool.and_eq_true, decide_eq_true_eq, mostN, if_true, decBs_len, List.all_eq_true]
      exact ⟨by omega, fun b hb => (decBs_ok _ _ b hb).2⟩
    · simp only [chunkR, decBs_len, typR, if_true, encR, headR, encI, List.append_assoc]
      rw [encBs_dec n _ (by rw [rawR_len 24 l (by omega)]; omega), w5, w4, w3, w2, w1, w0]
  · have hy2 : y = 201 := by omega
    subst hy2
    simp only [show decide ((201 : Nat) = 200) = false from rfl, Bool.false_eq_true, if_false] at h3
    rw [if_neg (by decide)]
    refine ⟨?_, ?_⟩
    · simp only [rightR, noInfo, and_self, decide_true, Bool.or_true, Bool.true_and, Bool.and_eq_true, decide_eq_true_eq, mostN, Bool.false_eq_true, if_false, decBs_len, List.all_eq_true]
      exact ⟨by omega, fun b hb => (decBs_ok _ _ b hb).2⟩
    · simp only [chunkR, decBs_len, typR, Bool.false_eq_true, if_false, encR, headR, List.append_nil]
      rw [encBs_dec n _ (by rw [rawR_len 4 l (by omega)]; omega), w0]
theorem rightR_iff {r : DR} : rightR r = true ↔ (r.sd = true ∨ noInfo r = true) ∧ r.bl.length ≤ mostN r.sd ∧ r.bl.all missB = true := by
  simp only [rightR, Bool.and_eq_true, Bool.or_eq_true, decide_eq_true_eq]
/-- reports come back from their chunks -/
theorem back_r {r : DR} (h : rightR r = true) (ho : r.Ok) : rightC (chunkR r) = true ∧ okC (chunkR r) ∧ rdErr (chunkR r) = 0 ∧ decR (chunkR r) = r := by
  obtain ⟨h1, h2, h3⟩ := rightR_iff.1 h
  have hl := encR_len r
  have hc : rightC (chunkR r) = true := by
    rw [right_iffC, chunkR]
    simp only [hl]
    unfold aheadN mostN at *
    cases hs : r.sd
    · rw [hs] at h2
      simp only [Bool.false_eq_true, if_false] at h2 ⊢
      omega
    · rw [hs] at h2
      simp only [if_true] at h2 ⊢
      omega
  have hk : okC (chunkR r) := by
    show typR r.sd < 256
    unfold typR; cases r.sd <;> decide
  have hi : isR (typR r.sd) = true := by unfold typR isR; cases r.sd <;> decide
  have hd : decide (typR r.sd = 200) = r.sd := by unfold typR; cases r.sd <;> decide
  have hw : (encR r).length = wantN (chunkR r) := by
    rw [hl]
    show _ = aheadN (decide (typR r.sd = 200)) + 24 * r.bl.length
    rw [hd]
  refine ⟨hc, hk, ?_, ?_⟩
  · rw [rdErr_eq, if_pos hc]
    show (if isR (typR r.sd) = true then (if (encR r).length < wantN (chunkR r) then (3 : Int) else if wantN (chunkR r) < (encR r).length then 4 else 0) else 5) = 0
    rw [if_pos hi, hw, if_neg (by omega), if_neg (by omega)]
  · have e1 : rawR (aheadN r.sd) (encR r) = encBs r.bl := rawR_app _ _ _ (headR_len r).symm
    have e2 := decBs_enc r.bl ho.bl h3
    have k0 := ho.so; have k1 := ho.i0; have k2 := ho.i1; have k3 := ho.i2; have k4 := ho.i3; have k5 := ho.i4
    obtain ⟨sd, so, i0, i1, i2, i3, i4, bl⟩ := r
    simp only at *
    unfold decR chunkR
    simp only
    cases sd
    · rw [if_neg (by simp [typR])]
      simp only [aheadN, Bool.false_eq_true, if_false] at e1
      rw [e1, e2]
      have hn : noInfo ⟨false, so, i0, i1, i2, i3, i4, bl⟩ = true := by simpa using h1
      simp only [noInfo, decide_eq_true_eq] at hn
      obtain ⟨rfl, rfl, rfl, rfl, rfl⟩ := hn
      have e0 : encR ⟨false, so, 0, 0, 0, 0, 0, bl⟩ = bytesL so 4 ++ encBs bl := by simp [encR, headR]
      rw [e0, rdN_app _ 4 _ (by simpa using k0)]
    · rw [if_pos (by simp [typR])]
      simp only [aheadN, if_true] at e1
      rw [e1, e2]
      have e0 : encR ⟨true, so, i0, i1, i2, i3, i4, bl⟩ = bytesL so 4 ++ (bytesL i0 4 ++ (bytesL i1 4 ++ (bytesL i2 4 ++ (bytesL i3 4 ++ (bytesL i4 4 ++ encBs bl))))) := by simp [encR, headR, encI]
      generalize encR ⟨true, so, i0, i1, i2, i3, i4, bl⟩ = L at *
      have r4 : rawR 4 L = bytesL i0 4 ++ (bytesL i1 4 ++ (bytesL i2 4 ++ (bytesL i3 4 ++ (bytesL i4 4 ++ encBs bl)))) := by rw [e0, rawR_num]
      have r8 : rawR 8 L = bytesL i1 4 ++ (bytesL i2 4 ++ (bytesL i3 4 ++ (bytesL i4 4 ++ encBs bl))) := by rw [← rawR_add 4 4 L (by decide), r4, rawR_num]
      have r12 : rawR 12 L = bytesL i2 4 ++ (bytesL i3 4 ++ (bytesL i4 4 ++ encBs bl)) := by rw [← rawR_add 8 4 L (by decide), r8, rawR_num]
      have r16 : rawR 16 L = bytesL i3 4 ++ (bytesL i4 4 ++ encBs bl) := by rw [← rawR_add 12 4 L (by decide), r12, rawR_num]
      have r20 : rawR 20 L = bytesL i4 4 ++ encBs bl := by rw [← rawR_add 16 4 L (by decide), r16, rawR_num]
      rw [r4, r8, r12, r16, r20, e0, rdN_app _ 4 _ (by simpa using k0), rdN_app _ 4 _ (by simpa using k1), rdN_app _ 4 _ (by simpa using k2), rdN_app _ 4 _ (by simpa using k3), rdN_app _ 4 _ (by simpa using k4), rdN_app _ 4 _ (by simpa using k5)]
theorem readR_back {r : DR} (h : rightR r = true) (ho : r.Ok) : readR (chunkR r) = r := by
  rw [readR, if_pos (back_r h ho).2.2.1, (back_r h ho).2.2.2]
theorem chunkR_inj {r s : DR} (h : rightR r = true) (ho : r.Ok) (k : rightR s = true) (ko : s.Ok) (e : chunkR r = chunkR s) : r = s := by
  rw [← (back_r h ho).2.2.2, e, (back_r k ko).2.2.2]
end Go.Proofs.Ytphofpemblindaa
/- The walks of package serial: how far one number of 16 bits is ahead of another one, which is newer. -/
namespace Go.Proofs.Ytphofpemblindaa
open Go.RowKit

/-- how far b is ahead of a, of a round r -/
def ahd (r a b : Int) : Int := if r ≤ 2 * ((b - a) % r) then (b - a) % r - r else (b - a) % r
theorem ahd16 (a b : Int) : IntKind.i16.wrap (IntKind.u16.wrap (b - a)) = ahd 65536 a b := by
  simp [IntKind.wrap, IntKind.bits, IntKind.signed, ahd]; omega
theorem ahd32 (a b : Int) : IntKind.i32.wrap (IntKind.u32.wrap (b - a)) = ahd 4294967296 a b := by
  simp [IntKind.wrap, IntKind.bits, IntKind.signed, ahd]; omega
theorem ahd32' (a b : Int) : wrap32 ((b - a) % 4294967296) = ahd 4294967296 a b := by
  unfold wrap32 ahd; split <;> omega
theorem ahd16_rng (a b : Int) : -32768 ≤ ahd 65536 a b ∧ ahd 65536 a b ≤ 32767 := by unfold ahd; split <;> omega
theorem ahd32_rng (a b : Int) : -2147483648 ≤ ahd 4294967296 a b ∧ ahd 4294967296 a b ≤ 2147483647 := by unfold ahd; split <;> omega
theorem ahd16_64 (a b : Int) : wrap64 (ahd 65536 a b) = ahd 65536 a b := by have := ahd16_rng a b; unfold wrap64; omega
theorem ahd32_64 (a b : Int) : wrap64 (ahd 4294967296 a b) = ahd 4294967296 a b := by have := ahd32_rng a b; unfold wrap64; omega

set_option maxHeartbeats 400000 in
theorem ahead16_any (a b : Int) (w : World) :
    Calls Try.prog 82 #[.int .u16 a, .int .u16 b] w fun e w' => e = .returned (.int .i16 (ahd 65536 a b)) ∧ w' = w := by
  refine calls_q fun Q HQ => ?_
  go_enter Try.func82, Try.ntmps82
  go_wp2
  exact HQ.out _ _ ⟨ret_int (ahd16 a b), rfl⟩
set_option maxHeartbeats 400000 in
theorem ahead_any (a b : Int) (w : World) :
    Calls Try.prog 73 #[.int .u16 a, .int .u16 b] w fun e w' => e = .returned (.int .i64 (ahd 65536 a b)) ∧ w' = w := by
  refine calls_q fun Q HQ => ?_
  go_enter Try.func73, Try.ntmps73
  go_wp2_with (go_at_call 82; refine (ahead16_any _ _ _).mono ?_; rintro e w1 ⟨rfl, rfl⟩)
  exact HQ.out _ _ ⟨ret_int (ahd16_64 a b), rfl⟩
set_option maxHeartbeats 400000 in
theorem newer_any (a b : Int) (w : World) :
    Calls Try.prog 58 #[.int .u16 a, .int .u16 b] w fun e w' => e = .returned (.bool (decide (0 < ahd 65536 a b))) ∧ w' = w := by
  refine calls_q fun Q HQ => ?_
  go_enter Try.func58, Try.ntmps58
  go_wp2_with (go_at_call 73; refine (ahead_any _ _ _).mono ?_; rintro e w1 ⟨rfl, rfl⟩)
  exact HQ.out _ _ ⟨ret_bool rfl, rfl⟩
end Go.Proofs.Ytphofpemblindaa
