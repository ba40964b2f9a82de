/- The walk of chunk.Split. -/
import Derived.Test.YtjohjilfmhgdnaaCkI
import Derived.Test.YtjohjilfmhgdnaaBack
namespace Go.Proofs.Ytjohjilfmhgdnaa
open Go.RowKit

/-- what Split answers -/
def SpPost (w : World) (b : List UInt8) (r : Ending) (w' : World) : Prop :=
  ∃ u z ts, r = .returned (.tuple #[u, .int .i64 z]) ∧ CkS w' u ts ∧ Below w.heap.size w w' ∧ SpR b z (ds ts)
theorem cks_nil (w : World) : CkS w (.slice none 0 0) [] := ⟨⟨none, 0, rfl, Nat.le_refl _, Nat.zero_le _, fun h => absurd h (by simp)⟩, fun _ h => absurd h (by simp)⟩
/-- what holds at the label -/
def SpJ (w0 : World) (rb : Nat) (b : List UInt8) (v0 : Value) (a' : Act) (w' : World) : Prop :=
  ∃ (u : Value) (L : List UInt8) (ts : List Ck) (t1 t6 t7 t8 t9 t10 t11 t12 t13 t14 t15 t16 t17 t18 t19 t20 t21 t22 t23 t24 t25 : Value),
    a' = { tmps := #[v0, t1, .slice none 0 0, .int .i64 0, .pointer (some ⟨rb, 0, none⟩), u, t6, t7, t8, t9, t10, t11, t12, t13, t14, t15, t16, t17, t18, t19, t20, t21, t22, t23, t24, t25], defers := [] } ∧ SpS w0 rb b L u ts w'
theorem encs_ge (l : List DC) : l.length ≤ (encs l).length := by
  induction l with
  | nil => exact Nat.le_refl _
  | cons d l ih => rw [encs_cons, List.length_append, encC_len, List.length_cons]; omega
set_option maxHeartbeats 2000000 in
theorem csplit_any (v : Value) (b : List UInt8) (w : World) (hv : BS w v b) :
    Calls Try.prog 6 #[v] w (SpPost w b) := by
  have hvr := hv
  obtain ⟨A, c, rfl, hc, hcm, _⟩ := bs_parts hv
  have HV := Lib.hid hvr
  clear hv hvr
  refine calls_q fun Q HQ => ?_
  by_cases h200 : (200 : Int) < (b.length : Int)
  · have HL := Lib.hid (SpR.long (b := b) (by omega))
    go_enter Try.func6, Try.ntmps6
    go_wp2_with fail
    go_step3
    go_wp2_with fail
    exact HQ.out _ _ ⟨.slice none 0 0, 4, [], rfl, cks_nil _, Below.refl _ _, HL.out⟩
  · have hb200 : b.length ≤ 200 := by omega
    have HNew := Lib.hid (new_any _ b w HV.out (by omega))
    go_enter Try.func6, Try.ntmps6
    go_wp2_with fail
    refine wp_scope_back 0 (fun a' w' => ∃ rb, SpJ w rb b (.slice A b.length c) a' w') (fun a' w' => leftOf (a'.tmps.getD 4 undef) w') rfl ?_ ?_
    · rintro K a' w' ⟨rb, u, L, ts, t1, t6, t7, t8, t9, t10, t11, t12, t13, t14, t15, t16, t17, t18, t19, t20, t21, t22, t23, t24, t25, rfl, hs⟩ HK
      have HKh := Lib.hid HK
      have HSp := Lib.hid hs
      obtain ⟨Au, cu, rfl⟩ := own_slice hs.own
      clear HK hs HNew
      go_wp2_with fail
      refine (cread_any w.heap.size rb L w' HSp.out.rd).mono ?_
      rintro e w1 ⟨v, rfl, hv, hp⟩
      have hA := fun o w3 u' ho hg => HSp.out.app (w3 := w3) (u' := u') hp hv o ho hg
      obtain ⟨A2, c2, rfl, _, _, _⟩ := bs_parts hv.1
      have HApp := Lib.hid hA
      have HOw := Lib.hid (hp.2.own HSp.out.own (fun k hk (hx : k = rb) => by have := (HSp.out.own.lt k hk).1; omega))
      have HI := Lib.hid HSp.out.inv
      have HLf := Lib.hid HSp.out.rd.leftOf
      have hrb1 : rb + 1 ≤ w1.heap.size := by have := hp.1.lt; omega
      have hcnt : ts.length ≤ 200 := by
        have h1 := HSp.out.inv.len
        have h2 := encs_ge (ds ts)
        rw [ds_len] at h2
        omega
      clear hA hv hp HSp
      go_wp2_with (at_builtin; refine wpl_appk rfl _ _ 22 rfl (rb + 1) 37 (.agg #[.int .u8 0, .int .u8 0, .slice none 0 0]) 3 32 Try.underlying22 (by kernel_rfl) rfl (by decide) _ ts.length (cellsC ts) rfl ?c1 _ 1 1 [.int .u8 (fstN L % 32 : Nat), .int .u8 (typN L : Nat), .slice A2 (rdB L).length c2] rfl rfl ?c2 ?c3 ?c4 ?c5 ?c6 ?c7)
      case c1 => exact (Fr.alloc _ _).own HOw.out (fun _ _ h => h)
      case c2 => exact new_cells w1 [.int .u8 (fstN L % 32 : Nat), .int .u8 (typN L : Nat), .slice A2 (rdB L).length c2] 37
      case c3 => intro u hu; simp at hu; rcases hu with rfl | rfl | rfl <;> rfl
      case c4 => unfold maxLen; omega
      case c5 => omega
      case c6 => rw [World.size_alloc]; omega
      case c7 =>
        intro u' w3 ho hg _
        obtain ⟨A3, c3, rfl⟩ := own_slice ho
        have HT := Lib.hid (HApp.out _ _ _ ho hg)
        clear ho hg HOw HApp
        go_wp2_with fail
        refine (rleft_any _ rb _ _ w3 HT.out.rd).mono ?_
        rintro e w4 ⟨rfl, rfl⟩
        by_cases hn : rdL L = []
        · have hz : (rdL L).length = 0 := by rw [hn]; rfl
          rw [hz]
          have hend := rend_any _ rb _ _ w4 HT.out.rd
          rw [show endE (rdL L) (rdE L) = rdE L by rw [endE, if_pos hn]] at hend
          have HEnd := Lib.hid hend
          have HN := Lib.hid hn
          clear hz hend hn HKh HLf
          by_cases he : rdE L = 0
          · have HD := Lib.hid (HI.out.done hb200 he HN.out)
            rw [he] at HEnd
            clear he
            go_wp2_with fail
            refine HEnd.out.mono ?_
            rintro e w5 ⟨rfl, rfl⟩
            go_wp2_with fail
            refine HQ.out _ _ ⟨_, 0, _, rfl, HT.out.items, HT.out.below, ?_⟩
            rw [ds_app]
            exact HD.out
          · have HD := Lib.hid (HI.out.bad he)
            have HB := Lib.hid HT.out.below
            clear HT HI
            generalize rdE L = z at *
            have hz : (z != 0) = true := by simp [he]
            go_wp2_with fail
            refine HEnd.out.mono ?_
            rintro e w5 ⟨rfl, rfl⟩
            go_wp2_with fail
            exact HQ.out _ _ ⟨.slice none 0 0, z, [], rfl, cks_nil _, HB.out, HD.out⟩
        · have HN := Lib.hid hn
          have hpos : (0 : Int) < ((rdL L).length : Int) := by
            have : (rdL L).length ≠ 0 := fun h => hn (List.eq_nil_of_length_eq_zero h)
            omega
          have HX := Lib.hid (HT.out.next HI.out hb200 hn)
          have hne : L ≠ [] := by rintro rfl; exact hn (rd_short [] (by decide)).2
          have HM := Lib.hid (show leftOf (.pointer (some ⟨rb, 0, none⟩)) w4 < leftOf (.pointer (some ⟨rb, 0, none⟩)) w' by rw [HT.out.rd.leftOf, HLf.out]; exact rdL_lt L hne)
          clear hn hne HI HLf HT
          generalize (rdL L).length = m at hpos ⊢
          go_wp2_with fail
          go_step3
          refine ⟨rfl, HKh.out _ _ ⟨rb, _, rdL L, _, _, _, _, _, _, _, _, _, _, _, _, _, _, _, _, _, _, _, _, _, _, rfl, HX.out⟩ ?_⟩
          exact HM.out
    · intro h
      have H := Lib.hid h
      clear h
      go_wp2_with fail
      refine HNew.out.mono ?_
      rintro e w1 ⟨rb, rfl, hr, hb, hsz⟩
      have HS := Lib.hid (show SpS w rb b b (.slice none 0 0) [] w1 from ⟨hr, World.ownsRow_nil _ _ _ _, fun _ h => absurd h (by simp), hb, SpI.start b⟩)
      clear hr hb hsz HNew
      go_wp2_with fail
      go_step3
      rename_i K hK
      refine hK _ _ ?_
      exact H.out _ _ _ ⟨rb, _, b, [], _, _, _, _, _, _, _, _, _, _, _, _, _, _, _, _, _, _, _, _, _, rfl, HS.out⟩ (fun _ _ h => h)
end Go.Proofs.Ytjohjilfmhgdnaa
