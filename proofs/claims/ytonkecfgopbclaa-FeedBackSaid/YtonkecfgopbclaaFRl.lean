/- The walk of readLost. -/
import Derived.Test.YtonkecfgopbclaaFRt
import Derived.Test.YtonkecfgopbclaaFn
import Derived.Test.YtonkecfgopbclaaWireR2
import Derived.Test.YtonkecfgopbclaaWireR5
namespace Go.Proofs.Ytonkecfgopbclaa
open Go.RowKit

/-- what goes wrong when lost numbers are read -/
def lostE (l : List UInt8) (e : Int) : Int := if l = [] then wrongE e 2 else if okL [] (decPs l) = true then 0 else 2
/-- a reader beside a row of numbers that grows -/
structure RlS (w0 : World) (lo rb : Nat) (l : List UInt8) (e : Int) (v : Value) (acc : List Int) (w : World) : Prop where
  rd : Rd lo w rb l e
  own : w.ownsRow w0.heap.size 47 1 v acc.length (ints .u16 acc)
  fr : Fr (F1 rb) w0 w
  lt : rb < w0.heap.size
section
variable {w0 : World} {lo rb : Nat} {l l2 : List UInt8} {e e2 : Int} {v v' : Value} {acc acc' : List Int} {w w' : World}
theorem RlS.read (h : RlS w0 lo rb l e v acc w) (hp : RPost lo w rb l2 e2 w') : RlS w0 lo rb l2 e2 v acc w' := by
  have hlt := h.lt
  refine ⟨hp.1, hp.2.own h.own (fun k hk (hx : k = rb) => ?_), h.fr.trans hp.2 (fun x hx => .inl hx), hlt⟩
  have := (h.own.lt k hk).1
  omega
theorem RlS.after (h : RlS w0 lo rb l e v acc w) (hb : Below w.heap.size w w') : RlS w0 lo rb l e v acc w' :=
  ⟨h.rd.fr0 (Fr.of hb), (Fr.of hb).own h.own (fun _ _ h => h), h.fr.trans (Fr.of hb) (fun _ hx => hx.elim), h.lt⟩
theorem RlS.app (h : RlS w0 lo rb l e v acc w) (ho : w'.ownsRow w0.heap.size 47 1 v' acc'.length (ints .u16 acc')) (hg : w.grownBy w' v.ownBlock) : RlS w0 lo rb l e v' acc' w' := by
  have hlt := h.lt
  have hf := Fr.grown hg
  have hk : ∀ k, some k = v.ownBlock → w0.heap.size ≤ k := fun k hk => (h.own.lt k hk.symm).1
  exact ⟨h.rd.fr hf (fun k _ h2 hx => by have := hk k hx; omega), ho, h.fr.trans hf (fun k hx => .inr (hk k hx)), hlt⟩
end
/-- how many bytes a reader has left -/
def rdLen (w : World) (rb : Nat) : Nat :=
  match w.cell? ⟨rb, 0, none⟩ with
  | some v => slen v
  | none => 0
theorem Rd.len {lo rb : Nat} {w : World} {l : List UInt8} {e : Int} (h : Rd lo w rb l e) : rdLen w rb = l.length := by
  obtain ⟨_, _, v, hh, hb⟩ := h
  obtain ⟨A, c, rfl, _⟩ := bs_parts hb.1
  have := obj_cell hh 0
  simp at this
  rw [rdLen, this]; rfl
/-- how far reading has come -/
def RlP (R : List UInt8) (E : Int) (l : List UInt8) (e : Int) (acc : List Int) : Prop :=
  (R ≠ [] ∧ e = 0 ∧ okL [] (decPs R) = okL acc (decPs l) ∧ numsP (decPs R) = acc ++ numsP (decPs l) ∧ l.length % 4 = 0 ∧ acc.length + 17 * (l.length / 4) ≤ 17 * (R.length / 4)) ∨ (l = [] ∧ e = E ∧ E ≠ 0)
theorem rawR_0' (n : Nat) (l : List UInt8) (h : n ≤ l.length) : rawE n l 0 = 0 := by rw [rawE, if_pos h]
theorem getLast_eq (acc : List Int) (k : Nat) (h : acc.length = k + 1) : acc.getLast? = some (acc[k]'(by omega)) := by
  rw [List.getLast?_eq_getElem?]
  simp only [h, Nat.add_sub_cancel]
  exact List.getElem?_eq_getElem (by omega)
theorem svsrc {w : World} {A : Option Addr} {n c : Nat} {xs : List Value} (h : SV w (.slice A n c) xs) : Src w A n xs := by
  obtain ⟨A', c', he, _, _, hr⟩ := h
  simp only [Value.slice.injEq] at he
  obtain ⟨rfl, rfl, rfl⟩ := he
  refine ⟨rfl, fun hp => ?_⟩
  obtain ⟨b, o, rfl, _, hc⟩ := hr hp
  refine ⟨_, rfl, fun j u hu => ?_⟩
  obtain ⟨hj, hu2⟩ := List.getElem?_eq_some_iff.1 hu
  rw [RowV.add rfl, hc j hj, hu2]
theorem ints_one (k : IntKind) (zs : List Int) : ∀ u ∈ ints k zs, u.oneCell' = true := by
  intro u hu
  simp only [ints, List.mem_map] at hu
  obtain ⟨b, _, rfl⟩ := hu
  rfl
theorem ints_app (k : IntKind) (a b : List Int) : ints k (a ++ b) = ints k a ++ ints k b := by simp [ints]
set_option maxHeartbeats 2000000 in
theorem readlost_any (lo rb : Nat) (R : List UInt8) (e : Int) (w : World) (hr : Rd lo w rb R e) (h4 : R.length % 4 = 0) (hl : R.length ≤ 1000) :
    Calls Try.prog 20 #[.pointer (some ⟨rb, 0, none⟩)] w fun r w' => ∃ u zs, r = .returned u ∧ w'.ownsRow w.heap.size 47 1 u zs.length (ints .u16 zs) ∧ RPost lo w rb [] (lostE R e) w' ∧ (lostE R e = 0 → zs = numsP (decPs R)) := by
  have HR := Lib.hid hr
  have hlt := hr.lt.2
  have he := hr.2.1
  refine calls_q fun Q HQ => ?_
  obtain ⟨E, hE⟩ : ∃ E, E = lostE R e := ⟨_, rfl⟩
  rw [← hE] at HQ
  go_enter Try.func20, Try.ntmps20
  go_upto_region 1 with fail
  go_upto_if 7 with (go_at_call 35; refine (rleft_any lo rb R e w HR.out).mono ?_; rintro r w ⟨rfl, rfl⟩)
  have hs0 : RlS w lo rb R e (.slice none 0 0) [] w := ⟨hr, World.ownsRow_nil _ _ _ _, Fr.refl _ _, hlt⟩
  have HE := Lib.hid hE
  have HS0 := Lib.hid hs0
  clear hs0 hE hr
  go_cut [] (fun wx => ∃ l' e', RlS w lo rb l' e' (.slice none 0 0) [] wx ∧ RlP R E l' e' [])
  case first =>
    by_cases hR : R = []
    · subst hR
      simp only [List.length_nil]
      have HX := Lib.hid (show E = wrongE e 2 by rw [HE.out]; rfl)
      have hne : E ≠ 0 := by rw [HX.out]; unfold wrongE; split <;> omega
      have HN := Lib.hid hne
      clear hne he
      go_wp2_with fail
      refine (rwrong_any lo rb [] e 2 w HR.out (by decide)).mono ?_
      rintro r w2 ⟨rfl, hp⟩
      have HS1 := Lib.hid (HS0.out.read hp)
      clear hp
      go_wp2_with fail
      go_meet
      case rel => exact ⟨[], wrongE e 2, HS1.out, .inr ⟨rfl, HX.out.symm, HN.out⟩⟩
    · have h0 : ((R.length : Int) == 0) = false := by simp [hR]
      have HN := Lib.hid hR
      have HEe := Lib.hid (show e = 0 by rcases Int.decEq e 0 with h | h; exact absurd (he h) hR; exact h)
      clear he hR
      go_wp2_with fail
      go_meet
      case rel => exact ⟨R, e, HS0.out, .inl ⟨HN.out, HEe.out, rfl, rfl, h4, by simp⟩⟩
  case rest =>
    obtain ⟨l1, e1, hs1, hp1⟩ := hcut
    have HS1 := Lib.hid hs1
    have HP1 := Lib.hid hp1
    clear hs1 hp1 HS0 HR he
    go_wp2_with fail
    go_loopw [3] (fun v wx => ∃ l' e' acc, RlS w lo rb l' e' v acc wx ∧ RlP R E l' e' acc) (fun _ wx => rdLen wx rb)
    case atStart => exact ⟨l1, e1, [], HS1.out, HP1.out⟩
    case round =>
      obtain ⟨l, e2, acc, hs, hp⟩ := hrel
      obtain ⟨A, c, rfl⟩ := own_slice hs.own
      have HS := Lib.hid hs
      have hll := hs.rd.len
      have HM := Lib.hid hll
      by_cases hl0 : l = []
      · subst hl0
        have hfin : RPost lo w rb [] E wr ∧ (E = 0 → acc = numsP (decPs R)) := by
          rcases hp with ⟨h1, rfl, h2, h3, _, _⟩ | ⟨_, rfl, h2⟩
          · have h2 : okL [] (decPs R) = true := h2.trans rfl
            have : E = 0 := by rw [HE.out, lostE, if_neg h1, if_pos h2]
            rw [this]
            exact ⟨⟨hs.rd, hs.fr⟩, fun _ => by rw [h3]; simp [decPs_nil, numsP]⟩
          · exact ⟨⟨hs.rd, hs.fr⟩, fun h => absurd h h2⟩
        have HF := Lib.hid hfin
        clear hs hp hll hfin
        go_wp2_with fail
        refine (rleft_any lo rb [] e2 wr HS.out.rd).mono ?_
        rintro r wr ⟨rfl, rfl⟩
        go_wp2_with fail
        exact HQ.out _ _ ⟨_, acc, rfl, HS.out.own, HF.out⟩
      · rcases hp with ⟨h1, rfl, h2, h3, h5, h6⟩ | ⟨h1, _⟩
        · have hl4 : 4 ≤ l.length := by
            have : l.length ≠ 0 := fun h => hl0 (List.eq_nil_of_length_eq_zero h)
            omega
          rw [decPs_step l hl4] at h2 h3
          rw [okL] at h2
          rw [numsP_cons, ← List.append_assoc] at h3
          have hrl := rawR_len 4 l hl4
          have H2 := Lib.hid h2
          have H3 := Lib.hid h3
          have H1 := Lib.hid h1
          have hml : (0 : Int) < (l.length : Int) := by omega
          have H4 := Lib.hid (show (rawR 4 l).length % 4 = 0 ∧ acc.length + 17 + 17 * ((rawR 4 l).length / 4) ≤ 17 * (R.length / 4) ∧ (rawR 4 l).length < l.length by rw [hrl]; omega)
          have hR4 := rawR_add 2 2 l (by decide)
          have hE2 := rawR_0' 2 l (by omega)
          have hE4 := rawR_0' 2 (rawR 2 l) (by rw [rawR_len 2 l (by omega)]; omega)
          have HL4 := Lib.hid hl4
          clear hs hl0 h1 h2 h3 h5 h6 hll hrl hl4
          go_wp2_with fail
          refine (rleft_any lo rb l 0 wr HS.out.rd).mono ?_
          rintro r wr ⟨rfl, rfl⟩
          go_wp2_with fail
          refine (rshort_any lo rb l 0 wr HS.out.rd).mono ?_
          rintro r w3 ⟨rfl, hp⟩
          rw [hE2] at hp
          have HS3 := Lib.hid (HS.out.read hp)
          clear hp
          go_wp2_with fail
          refine (rshort_any lo rb (rawR 2 l) 0 w3 HS3.out.rd).mono ?_
          rintro r w4 ⟨rfl, hp⟩
          rw [hE4, hR4] at hp
          have HS4 := Lib.hid (HS3.out.read hp)
          clear hp HS3 hE2 hE4 hR4
          have hx1 := (decP_ok l).1
          have hx2 := (decP_ok l).2
          have hd : decP l = (((rdN 2 l : Nat) : Int), rdN 2 (rawR 2 l)) := rfl
          rw [hd] at H2 H3 hx1 hx2
          simp only at H2 H3 hx1 hx2
          clear hd
          generalize ((rdN 2 l : Nat) : Int) = x at *
          generalize rdN 2 (rawR 2 l) = a at *
          generalize rawR 4 l = l4 at *
          have HS5 := Lib.hid (HS4.out.after (below_alloc (.cells #[.int .u16 x, .int .u16 (a : Nat)] 82 (0, 0))))
          have HP5 := Lib.hid (heap_alloc_new w4 (.cells #[.int .u16 x, .int .u16 (a : Nat)] 82 (0, 0)))
          have HX1 := Lib.hid hx1
          have HX2 := Lib.hid hx2
          have HNe := Lib.hid (show rb < w4.heap.size from HS4.out.rd.lt.2)
          clear HS HS4 hx1 hx2
          go_upto_region 6 with fail
          rw [show (w4.alloc (.cells #[.int .u16 x, .int .u16 (a : Nat)] 82)) = (w4.alloc (.cells #[.int .u16 x, .int .u16 (a : Nat)] 82 (0, 0))) from rfl]
          generalize (w4.alloc (.cells #[.int .u16 x, .int .u16 (a : Nat)] 82 (0, 0))) = w5 at *
          generalize w4.heap.size = bp at *
          obtain ⟨b, hb⟩ : ∃ b, b = newOk acc x := ⟨_, rfl⟩
          have HB := Lib.hid hb
          clear hb
          generalize hm : acc.length = m at *
          have HMl := Lib.hid hm
          clear hm
          go_cut [32] (fun y wx => y = .bool (!b) ∧ ∃ n, wx = w5.drewN n)
          case first =>
            cases m with
            | zero =>
              have HBt := Lib.hid (show b = true by rw [HB.out, List.eq_nil_of_length_eq_zero HMl.out]; rfl)
              go_quiet (fail)
              go_wp2_with fail
              go_meet
              case rel => exact ⟨by rw [HBt.out]; rfl, _, rfl⟩
            | succ k =>
              obtain ⟨_, _, he, _, hcm, hp⟩ := LoG.parts (own_svx HS5.out.own)
              rw [HMl.out] at he
              simp only [Value.slice.injEq, true_and] at he
              obtain ⟨rfl, rfl⟩ := he
              have hk := HMl.out
              obtain ⟨g, o, rfl, _, _, hcell⟩ := hp (by omega)
              have hck := hcell k (by omega)
              have hno : newOk acc x = decide (0 < ahd 65536 (acc[k]'(by omega)) x) := by rw [newOk, getLast_eq acc k hk]
              have p0 := obj_cell HP5.out 0
              simp at p0
              rw [← HB.out] at hno
              generalize acc[k]'(by omega) = y at *
              have hks : IntKind.i64.wrap (k : Int) = (k : Int) := by simp [IntKind.wrap, IntKind.bits, IntKind.signed]; omega
              have hk0 : (0 : Int) ≤ (k : Int) := by omega
              have hk1 : (0 : Int) < (k : Int) + 1 := by omega
              have HN := Lib.hid (fun w => newer_any y x w)
              rw [← hno] at HN
              clear hcell hp hno hk
              go_quiet ((go_at_call 39; exact Calls.quiet_of_same (HN.out _)))
              go_wp2_with fail
              go_meet
              case rel => exact ⟨rfl, _, rfl⟩
          case rest =>
            obtain ⟨hu, n, rfl⟩ := hcut
            subst hu
            have HS6 := Lib.hid (HS5.out.after (below_drewN (Below.refl _ _) n))
            have HP6 := Lib.hid ((Fr.drewN w5 n).heap HP5.out (fun h => h))
            generalize w5.drewN n = w6 at *
            clear HS5 HP5
            go_upto_if 32 with fail
            go_cut [] (fun wx => ∃ l3 e3, RlS w lo rb l3 e3 (.slice A m c) acc wx ∧ wx.heap[bp]? = some (.cells #[.int .u16 x, .int .u16 (a : Nat)] 82 (0, 0)) ∧ ((b = true ∧ l3 = l4 ∧ e3 = 0) ∨ (b = false ∧ l3 = [] ∧ e3 = 2)))
            case first =>
              have hbp := HS6.out.rd.lt.2
              cases b
              · go_wp2_with fail
                refine (rwrong_any lo rb l4 0 2 w6 HS6.out.rd (by decide)).mono ?_
                rintro r w7 ⟨rfl, hp⟩
                have HS7 := Lib.hid (HS6.out.read hp)
                have HP7 := Lib.hid (hp.2.heap HP6.out (fun (hx : bp = rb) => by have := HNe.out; omega))
                clear hp
                go_wp2_with fail
                go_meet
                case rel => exact ⟨[], 2, HS7.out, HP7.out, by simp⟩
              · go_wp2_with fail
                go_meet
                case rel => exact ⟨l4, 0, HS6.out, HP6.out, by simp⟩
            case rest =>
              obtain ⟨l3, e3, hs7, hp7, hcase⟩ := hcut
              have hrp : RlP R E l3 e3 (acc ++ nums1 (x, a)) ∧ l3.length < l.length := by
                rcases hcase with ⟨rfl, rfl, rfl⟩ | ⟨rfl, rfl, rfl⟩
                · have h2 := H2.out
                  rw [← HB.out, Bool.true_and] at h2
                  refine ⟨.inl ⟨H1.out, rfl, h2, H3.out, H4.out.1, ?_⟩, H4.out.2.2⟩
                  have := (nums1_len (x, a)).2
                  have := H4.out.2.1
                  have := HMl.out
                  rw [List.length_append]; omega
                · have h2 := H2.out
                  rw [← HB.out, Bool.false_and] at h2
                  have hE : E = 2 := by rw [HE.out, lostE, if_neg H1.out, if_neg (by rw [h2]; decide)]
                  exact ⟨.inr ⟨rfl, hE.symm, by rw [hE]; decide⟩, by have := HL4.out; simp; omega⟩
              have HRP := Lib.hid hrp
              have HS7 := Lib.hid hs7
              have hlen := H4.out.2.1
              have hn17 := (nums1_len (x, a)).2
              have hml := HMl.out
              have HLs := Lib.hid (show m ≤ 17 * 250 by omega)
              have p0 := obj_cell hp7 0
              have p1 := obj_cell hp7 1
              simp at p0 p1
              have HP7 := Lib.hid hp7
              have HN17 := Lib.hid hn17
              clear HS6 HP6 hs7 hp7 hcase hrp hlen hn17 hml
              go_wp2_with fail
              refine (numbers_any x a wc HX2.out).mono ?_
              rintro r w8 ⟨u, rfl, hu, hb8⟩
              have HS8 := Lib.hid (HS7.out.after hb8)
              have HSr := Lib.hid (own_sv hu)
              obtain ⟨A8, c8', rfl⟩ := own_slice hu
              have HO8 := Lib.hid (show w8.ownsRow w.heap.size 47 1 (.slice A m c) m (ints .u16 acc) by have := HS8.out.own; rwa [HMl.out] at this)
              have hsz8 := (HS7.out.after hb8).fr.size
              have HM8 := Lib.hid HS7.out.rd.len
              generalize hnn : nums1 (x, a) = nn at *
              clear hnn hu hb8 p0 p1 HS7
              go_wp2_with (at_builtin; refine wpl_app rfl _ _ 24 rfl w.heap.size 47 (.int .u16 0) 2 Try.underlying24 (by kernel_rfl) rfl _ _ _ rfl HO8.out _ _ _ (ints .u16 nn) rfl ?c1 (ints_one _ _) ?c3 ?c4 ?c5 ?c6)
              case c1 => exact svsrc HSr.out
              case c3 => have := HLs.out; have := HN17.out; unfold maxLen; omega
              case c4 => have := HLs.out; have := HN17.out; omega
              case c5 => exact hsz8
              case c6 =>
                intro v' w9 ho hg _
                obtain ⟨A9, c9, rfl⟩ := own_slice ho
                rw [← ints_app] at ho
                have hN := HS8.out.app (v' := .slice A9 (m + nn.length) c9) (acc' := acc ++ nn) (by rw [List.length_append, HMl.out]; exact ho) hg
                have HN := Lib.hid hN
                have HMn := Lib.hid hN.rd.len
                clear ho hg hN
                go_wp2_with fail
                go_roundw
                case rel => exact ⟨l3, e3, acc ++ nn, HN.out, HRP.out.1⟩
                case measure => rw [HMn.out, HM.out]; exact HRP.out.2
        · exact absurd h1 hl0
end Go.Proofs.Ytonkecfgopbclaa
