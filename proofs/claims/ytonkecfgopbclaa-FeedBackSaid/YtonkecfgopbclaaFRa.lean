/- The walk of readAsks. -/
import Derived.Test.YtonkecfgopbclaaFRl
import Derived.Test.YtonkecfgopbclaaWireR3
import Derived.Test.YtonkecfgopbclaaWireR4
namespace Go.Proofs.Ytonkecfgopbclaa
open Go.RowKit

def cellsA (l : List (Nat × Nat)) : List Value := (l.map rowA).flatten
theorem cellsA_snoc (l : List (Nat × Nat)) (a : Nat × Nat) : cellsA l ++ rowA a = cellsA (l ++ [a]) := by simp [cellsA]
theorem rowA_len (l : List (Nat × Nat)) : ∀ r ∈ l.map rowA, r.length = 2 := by
  intro r hr
  obtain ⟨t, _, rfl⟩ := List.mem_map.1 hr
  rfl
theorem own_asks {w : World} {base : Nat} {e : TypeId} {v : Value} {n : Nat} {l : List (Nat × Nat)} (hn : l.length = n) (h : w.ownsRow base e 2 v n (cellsA l)) : AsS w v l :=
  own_rows (by simpa using hn) (rowA_len l) h
/-- what goes wrong when asks are read -/
def asksE (l : List UInt8) (e : Int) : Int := if l = [] ∨ l.length % 8 ≠ 0 then wrongE e 2 else 0
/-- a reader beside a row of asks that grows -/
structure RaS (w0 : World) (lo rb : Nat) (l : List UInt8) (e : Int) (v : Value) (acc : List (Nat × Nat)) (w : World) : Prop where
  rd : Rd lo w rb l e
  own : w.ownsRow w0.heap.size 68 2 v acc.length (cellsA acc)
  fr : Fr (F1 rb) w0 w
  lt : rb < w0.heap.size
section
variable {w0 : World} {lo rb : Nat} {l l2 : List UInt8} {e e2 : Int} {v v' : Value} {acc acc' : List (Nat × Nat)} {w w' : World}
theorem RaS.read (h : RaS w0 lo rb l e v acc w) (hp : RPost lo w rb l2 e2 w') : RaS w0 lo rb l2 e2 v acc w' := by
  have hlt := h.lt
  refine ⟨hp.1, hp.2.own h.own (fun k hk (hx : k = rb) => ?_), h.fr.trans hp.2 (fun x hx => .inl hx), hlt⟩
  have := (h.own.lt k hk).1
  omega
theorem RaS.after (h : RaS w0 lo rb l e v acc w) (hb : Below w.heap.size w w') : RaS w0 lo rb l e v acc w' :=
  ⟨h.rd.fr0 (Fr.of hb), (Fr.of hb).own h.own (fun _ _ h => h), h.fr.trans (Fr.of hb) (fun _ hx => hx.elim), h.lt⟩
theorem RaS.app (h : RaS w0 lo rb l e v acc w) (ho : w'.ownsRow w0.heap.size 68 2 v' acc'.length (cellsA acc')) (hg : w.grownBy w' v.ownBlock) : RaS w0 lo rb l e v' acc' w' := by
  have hlt := h.lt
  have hf := Fr.grown hg
  have hk : ∀ k, some k = v.ownBlock → w0.heap.size ≤ k := fun k hk => (h.own.lt k hk.symm).1
  exact ⟨h.rd.fr hf (fun k _ h2 hx => by have := hk k hx; omega), ho, h.fr.trans hf (fun k hx => .inr (hk k hx)), hlt⟩
end
def RaP (R : List UInt8) (E : Int) (l : List UInt8) (e : Int) (acc : List (Nat × Nat)) : Prop :=
  (E = 0 ∧ e = 0 ∧ decAs R = acc ++ decAs l ∧ l.length % 8 = 0 ∧ acc.length + l.length / 8 ≤ R.length / 8) ∨ (l = [] ∧ e = E ∧ E ≠ 0)
set_option maxHeartbeats 2000000 in
theorem readasks_any (lo rb : Nat) (R : List UInt8) (e : Int) (w : World) (hr : Rd lo w rb R e) (hl : R.length ≤ 1000) :
    Calls Try.prog 19 #[.pointer (some ⟨rb, 0, none⟩)] w fun r w' => ∃ u zs, r = .returned u ∧ w'.ownsRow w.heap.size 68 2 u zs.length (cellsA zs) ∧ RPost lo w rb [] (asksE R e) w' ∧ (asksE R e = 0 → zs = decAs R) := by
  have HR := Lib.hid hr
  have hlt := hr.lt.2
  have he := hr.2.1
  have hwe : wrongE e 2 ≠ 0 := by unfold wrongE; split <;> omega
  refine calls_q fun Q HQ => ?_
  obtain ⟨E, hE⟩ : ∃ E, E = asksE R e := ⟨_, rfl⟩
  rw [← hE] at HQ
  have hs0 : RaS w lo rb R e (.slice none 0 0) [] w := ⟨hr, World.ownsRow_nil _ _ _ _, Fr.refl _ _, hlt⟩
  have HE := Lib.hid hE
  have HS0 := Lib.hid hs0
  clear hs0 hE hr
  obtain ⟨m, hm⟩ : ∃ m, m = R.length := ⟨_, rfl⟩
  have HM0 := Lib.hid hm
  have HL := Lib.hid (fun (w : World) (h : Rd lo w rb R e) => rleft_any lo rb R e w h)
  rw [← hm] at HL hl
  go_enter Try.func19, Try.ntmps19
  go_upto_region 1 with fail
  go_cut [12] (fun y wx => y = .bool (decide (m = 0 ∨ m % 8 ≠ 0)) ∧ w = wx)
  case first =>
    clear hm
    by_cases h0 : m = 0
    · subst h0
      go_wp2_with fail
      refine (HL.out w HR.out).mono ?_
      rintro r w ⟨rfl, rfl⟩
      go_wp2_with fail
      go_meet
      case rel => simp
    · have h0i : ((m : Int) == 0) = false := by simp [h0]
      by_cases h8 : m % 8 = 0
      · have h8i : (m : Int) % 8 = 0 := by omega
        have HB2 := Lib.hid (show decide (m = 0 ∨ m % 8 ≠ 0) = false from decide_eq_false (by omega))
        clear h0 h8
        go_wp2_with fail
        refine (HL.out w HR.out).mono ?_
        rintro r w ⟨rfl, rfl⟩
        go_wp2_with fail
        refine (HL.out w HR.out).mono ?_
        rintro r w ⟨rfl, rfl⟩
        go_wp2_with fail
        go_meet
        case rel => exact ⟨by rw [HB2.out], rfl⟩
      · have h8i : ((m : Int) % 8 != 0) = true := by simp; omega
        have HB2 := Lib.hid (show decide (m = 0 ∨ m % 8 ≠ 0) = true from decide_eq_true (by omega))
        clear h0 h8
        go_wp2_with fail
        refine (HL.out w HR.out).mono ?_
        rintro r w ⟨rfl, rfl⟩
        go_wp2_with fail
        refine (HL.out w HR.out).mono ?_
        rintro r w ⟨rfl, rfl⟩
        go_wp2_with fail
        go_meet
        case rel => exact ⟨by rw [HB2.out], rfl⟩
  case rest =>
    obtain ⟨hu, rfl⟩ := hcut
    subst hu
    have hEm : E = if m = 0 ∨ m % 8 ≠ 0 then wrongE e 2 else 0 := by
      rw [HE.out, asksE, hm]
      have h1 : R = [] ↔ R.length = 0 := ⟨fun h => by rw [h]; rfl, List.eq_nil_of_length_eq_zero⟩
      simp only [h1]
    have HEm := Lib.hid hEm
    clear hEm hm
    go_upto_if 12 with fail
    go_cut [] (fun wx => ∃ l' e', RaS w lo rb l' e' (.slice none 0 0) [] wx ∧ RaP R E l' e' [])
    case first =>
      by_cases hb : m = 0 ∨ m % 8 ≠ 0
      · have HX := Lib.hid (show E = wrongE e 2 by rw [HEm.out, if_pos hb])
        have HB2 := Lib.hid (show decide (m = 0 ∨ m % 8 ≠ 0) = true from decide_eq_true hb)
        have HWe := Lib.hid hwe
        rw [HB2.out]
        clear hb hwe
        go_wp2_with fail
        refine (rwrong_any lo rb R e 2 w HR.out (by decide)).mono ?_
        rintro r w2 ⟨rfl, hp⟩
        have HS1 := Lib.hid (HS0.out.read hp)
        clear hp
        go_wp2_with fail
        go_meet
        case rel => exact ⟨[], wrongE e 2, HS1.out, .inr ⟨rfl, HX.out.symm, by rw [HX.out]; exact HWe.out⟩⟩
      · have HX := Lib.hid (show E = 0 by rw [HEm.out, if_neg hb])
        have HB2 := Lib.hid (show decide (m = 0 ∨ m % 8 ≠ 0) = false from decide_eq_false hb)
        have HEe := Lib.hid (show e = 0 by rcases Int.decEq e 0 with h | h; exact absurd (he h) (fun hR => hb (.inl (by rw [HM0.out, hR]; rfl))); exact h)
        have HR8 := Lib.hid (show R.length % 8 = 0 by have := HM0.out; omega)
        rw [HB2.out]
        clear hb hwe he
        go_wp2_with fail
        go_meet
        case rel => exact ⟨R, e, HS0.out, .inl ⟨HX.out, HEe.out, rfl, HR8.out, by simp⟩⟩
    case rest =>
      obtain ⟨l1, e1, hs1, hp1⟩ := hcut
      have HS1 := Lib.hid hs1
      have HP1 := Lib.hid hp1
      clear hs1 hp1 HS0 HR he hwe
      go_wp2_with fail
      go_loopw [3] (fun v wx => ∃ l' e' acc, RaS w lo rb l' e' v acc wx ∧ RaP R E l' e' acc) (fun _ wx => rdLen wx rb)
      case atStart => exact ⟨l1, e1, [], HS1.out, HP1.out⟩
      case round =>
        obtain ⟨l, e2, acc, hs, hp⟩ := hrel
        obtain ⟨A, c, rfl⟩ := own_slice hs.own
        have HS := Lib.hid hs
        have HM := Lib.hid hs.rd.len
        by_cases hl0 : l = []
        · subst hl0
          have hfin : RPost lo w rb [] E wr ∧ (E = 0 → acc = decAs R) := by
            rcases hp with ⟨h1, rfl, h2, _, _⟩ | ⟨_, rfl, h2⟩
            · rw [h1]
              exact ⟨⟨hs.rd, hs.fr⟩, fun _ => by rw [h2]; simp [decAs_nil]⟩
            · exact ⟨⟨hs.rd, hs.fr⟩, fun h => absurd h h2⟩
          have HF := Lib.hid hfin
          clear hs hp hfin
          go_wp2_with fail
          refine (rleft_any lo rb [] e2 wr HS.out.rd).mono ?_
          rintro r wr ⟨rfl, rfl⟩
          go_wp2_with fail
          exact HQ.out _ _ ⟨_, acc, rfl, HS.out.own, HF.out⟩
        · rcases hp with ⟨h1, rfl, h2, h5, h6⟩ | ⟨h1, _⟩
          · have hl8 : 8 ≤ l.length := by
              have : l.length ≠ 0 := fun h => hl0 (List.eq_nil_of_length_eq_zero h)
              omega
            rw [decAs_step l hl8] at h2
            have hrl := rawR_len 8 l hl8
            have H2 := Lib.hid h2
            have H1 := Lib.hid h1
            have hml : (0 : Int) < (l.length : Int) := by omega
            have H4 := Lib.hid (show (rawR 8 l).length % 8 = 0 ∧ acc.length + 1 + ((rawR 8 l).length / 8) ≤ R.length / 8 ∧ (rawR 8 l).length < l.length by rw [hrl]; omega)
            have hR5 := rawR_add 4 1 l (by decide)
            have hR8 := rawR_add 5 3 l (by decide)
            have hE4 := rawR_0' 4 l (by omega)
            have hE5 := rawR_0' 1 (rawR 4 l) (by rw [rawR_len 4 l (by omega)]; omega)
            have hE8 := rawR_0' 3 (rawR 5 l) (by rw [rawR_len 5 l (by omega)]; omega)
            clear hs hl0 h1 h2 h5 h6 hrl hl8
            go_wp2_with fail
            refine (rleft_any lo rb l 0 wr HS.out.rd).mono ?_
            rintro r wr ⟨rfl, rfl⟩
            go_wp2_with fail
            refine (rnum_any lo rb l 0 wr HS.out.rd).mono ?_
            rintro r w3 ⟨rfl, hp⟩
            rw [hE4] at hp
            have HS3 := Lib.hid (HS.out.read hp)
            clear hp
            go_wp2_with fail
            refine (rbyte_any lo rb (rawR 4 l) 0 w3 HS3.out.rd).mono ?_
            rintro r w4 ⟨rfl, hp⟩
            rw [hE5, hR5] at hp
            have HS4 := Lib.hid (HS3.out.read hp)
            clear hp HS3 hE4 hE5 hR5 HS
            have hd : decA l = (rdN 4 l, rdN 1 (rawR 4 l)) := rfl
            rw [hd] at H2
            clear hd
            generalize rdN 4 l = x at *
            generalize rdN 1 (rawR 4 l) = y at *
            have HS5 := Lib.hid (HS4.out.after (below_alloc (.cells #[.int .u32 (x : Nat), .int .u8 (y : Nat)] 68 (0, 0))))
            have hsz5 := HS5.out.fr.size
            have HLa := Lib.hid (show acc.length ≤ 1000 by have := H4.out.2.1; have := HM0.out; omega)
            clear HS4
            go_wp2_with (at_builtin; refine wpl_appk rfl _ _ 23 rfl w.heap.size 68 (.agg #[.int .u32 0, .int .u8 0]) 2 8 Try.underlying23 (by kernel_rfl) rfl (by decide) _ _ _ rfl HS5.out.own _ 1 1 (rowA (x, y)) rfl rfl ?c2 ?c3 ?c4 ?c5 ?c6 ?c7)
            case c2 => exact new_cells w4 [.int .u32 (x : Nat), .int .u8 (y : Nat)] 68
            case c3 => intro u hu; simp [rowA] at hu; rcases hu with rfl | rfl <;> rfl
            case c4 => have := HLa.out; unfold maxLen; omega
            case c5 => have := HLa.out; omega
            case c6 => exact hsz5
            case c7 =>
              intro v' w6 ho hg _
              obtain ⟨A6, c6, rfl⟩ := own_slice ho
              rw [cellsA_snoc] at ho
              have hN := HS5.out.app (v' := .slice A6 (acc.length + 1) c6) (acc' := acc ++ [(x, y)]) (by rw [List.length_append]; exact ho) hg
              have HN := Lib.hid hN
              clear ho hg hN HS5
              go_wp2_with fail
              refine (rthree_any lo rb (rawR 5 l) 0 w6 HN.out.rd).mono ?_
              rintro r w7 ⟨rfl, hp⟩
              rw [hE8, hR8] at hp
              have HS7 := Lib.hid (HN.out.read hp)
              have HM7 := Lib.hid (HN.out.read hp).rd.len
              clear hp HN hE8 hR8
              have HRP := Lib.hid (show RaP R E (rawR (5 + 3) l) 0 (acc ++ [(x, y)]) from .inl ⟨H1.out, rfl, by rw [H2.out]; simp, H4.out.1, by have := H4.out.2.1; rw [List.length_append]; simp; omega⟩)
              go_wp2_with fail
              go_roundw
              case rel => exact ⟨rawR 8 l, 0, acc ++ [(x, y)], by simpa using HS7.out, HRP.out⟩
              case measure => rw [HM7.out, HM.out]; exact H4.out.2.2
          · exact absurd h1 hl0
end Go.Proofs.Ytonkecfgopbclaa
