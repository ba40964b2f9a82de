/- The walk of probe.readNumbers. -/
import Derived.Test.YthomlikmjgeccaaPbClo
namespace Go.Proofs.Ythomlikmjgeccaa
open Go.RowKit

theorem PS.store {lo rb db rx dx sb sv : Nat} {s : RS} {w0 w : World} (h : PS lo rb db rx dx sb sv s w0 w) (b : Nat) (v : Value) (h0 : w0.heap.size ≤ b) (h1 : db < b) (h2 : b ≠ rx) (h3 : b ≠ dx) (h4 : b ≠ sb) :
    PS lo rb db rx dx sb sv s w0 (w.setCell ⟨b, 0, none⟩ v) := by
  have o1 := h.o1
  have hf := Fr.setCell w ⟨b, 0, none⟩ v
  have hn : ∀ k, b ≠ k → ¬ F1 (⟨b, 0, none⟩ : Addr).block k := fun k hk (h : k = b) => by omega
  exact ⟨h.rd.fr hf (fun k _ hk (h : k = b) => by omega), hf.heap h.d (hn _ (by omega)), hf.heap h.r (hn _ h2), hf.heap h.x (hn _ h3), hf.heap h.s (hn _ h4), h.fr.trans hf (fun k (h : k = b) => .inr (by omega)), h.o1, h.o2, h.o3, h.o4⟩
theorem PS.self {lo rb db rx dx sb sv : Nat} {s : RS} {w0 w : World} (h : PS lo rb db rx dx sb sv s w0 w) : PS lo rb db rx dx sb sv s w w :=
  ⟨h.rd, h.d, h.r, h.x, h.s, Fr.refl _ _, h.o1, h.o2, h.o3, h.o4⟩
theorem PS.trans {lo rb db rx dx sb sv : Nat} {s s' : RS} {w0 w w' : World} (h : PS lo rb db rx dx sb sv s w0 w) (k : PS lo rb db rx dx sb sv s' w w') : PS lo rb db rx dx sb sv s' w0 w' :=
  ⟨k.rd, k.d, k.r, k.x, k.s, h.fr.trans k.fr (fun _ h => .inl h), k.o1, k.o2, k.o3, k.o4⟩
/-- a byte's box beside them -/
def LB (lb n : Nat) (w : World) : Prop := w.heap[lb]? = some (.cells #[.int .u64 (n : Nat)] 45 (0, 0))
theorem LB.ps {lb n lo rb db rx dx sb sv : Nat} {s : RS} {w w' : World} (h : LB lb n w) (k : PS lo rb db rx dx sb sv s w w') (hb : db < lb) : LB lb n w' :=
  k.fr.heap h (fun hk => by have := k.o1; omega)
theorem LB.cell {lb n : Nat} {w : World} (h : LB lb n w) : w.cell? ⟨lb, 0, none⟩ = some (.int .u64 (n : Nat)) := obj_cell h 0
theorem rdLast_d (b : Bool) (s : RS) : (rdLast b s).d = s.d := by cases b <;> rfl
/-- what readNumbers leaves -/
def PbNumsPost (lo rb db : Nat) (s : RS) (w : World) (r : Ending) (w' : World) : Prop :=
  r = .returned (.tuple #[]) ∧ Rd lo w' rb (numsS s).l (numsS s).e ∧ w'.heap[db]? = some (numsS s).d.obj ∧ Fr (fun k => k = rb ∨ k = db) w w'
set_option maxHeartbeats 2000000 in
theorem pnums_any (lo rb db : Nat) (s : RS) (w : World) (hr : Rd lo w rb s.l s.e) (hd : w.heap[db]? = some s.d.obj) (ho : rb < db) :
    Calls Try.prog 21 #[.pointer (some ⟨rb, 0, none⟩), .pointer (some ⟨db, 0, none⟩)] w (PbNumsPost lo rb db s w) := by
  have hmf : ∀ (fn : Fn) (first cap : Array Value) (w : World), (Instr.makeFunc fn first cap).run Try.prog w = .ok (.func fn first cap) w := fun _ _ _ _ => rfl
  have hlt := byte_lt s
  have hdl := obj_lt hd
  have hf1 := Fr.alloc w (.cells #[.pointer (some ⟨rb, 0, none⟩)] 43)
  have hf2 := Fr.alloc (w.alloc (.cells #[.pointer (some ⟨rb, 0, none⟩)] 43)) (.cells #[.pointer (some ⟨db, 0, none⟩)] 50)
  have hf := hf1.trans hf2 (fun _ h => h.elim)
  have hx1 := hf2.heap (heap_alloc_new w (.cells #[.pointer (some ⟨rb, 0, none⟩)] 43)) (fun h => h)
  have hx2 := heap_alloc_new (w.alloc (.cells #[.pointer (some ⟨rb, 0, none⟩)] 43)) (.cells #[.pointer (some ⟨db, 0, none⟩)] 50)
  have hsz : (w.alloc (.cells #[.pointer (some ⟨rb, 0, none⟩)] 43)).heap.size = w.heap.size + 1 := by simp
  have hsz2 : ((w.alloc (.cells #[.pointer (some ⟨rb, 0, none⟩)] 43)).alloc (.cells #[.pointer (some ⟨db, 0, none⟩)] 50)).heap.size = w.heap.size + 2 := by simp
  rw [hsz] at hx2
  have hc := rbyte_any lo rb s.l s.e _ (hr.fr0 hf)
  have hd2 := hf.heap hd (fun h => h)
  rw [show rdN 1 s.l = s.byte from rfl] at hc
  have HC := Lib.hid hc
  have HF := Lib.hid (fun w1 (hp : RPost lo ((w.alloc (.cells #[.pointer (some ⟨rb, 0, none⟩)] 43)).alloc (.cells #[.pointer (some ⟨db, 0, none⟩)] 50)) rb (rawR 1 s.l) (rawE 1 s.l s.e) w1) => by
    have hn : ∀ k, rb < k → ¬ F1 rb k := fun k hk (h : k = rb) => by omega
    have hs := hp.2.size
    have ha := Fr.alloc w1 (.cells #[.int .u64 (s.byte : Nat)] 45)
    exact (show PS lo rb db w.heap.size (w.heap.size + 1) w1.heap.size s.byte s.next w (w1.alloc (.cells #[.int .u64 (s.byte : Nat)] 45)) from
      ⟨hp.1.fr0 ha, ha.heap (hp.2.heap hd2 (hn _ ho)) (fun h => h), ha.heap (hp.2.heap hx1 (hn _ (by omega))) (fun h => h), ha.heap (hp.2.heap hx2 (hn _ (by omega))) (fun h => h), heap_alloc_new _ _,
        ((hf.mono (fun _ h => h.elim)).trans hp.2 (fun k h => .inl (.inl h))).trans ha (fun _ h => h.elim), ho, hdl, by omega, by omega⟩))
  have hu := u64_id (u64_lt hlt)
  unfold PbNumsPost numsS numsB
  generalize s.byte = p at *
  clear hx1 hx2 hsz hsz2 hc hd2 hf1 hf2 hf hr hd
  obtain ⟨b7, hb7⟩ : ∃ b, bitN p 7 = b := ⟨_, rfl⟩
  obtain ⟨b6, hb6⟩ : ∃ b, bitN p 6 = b := ⟨_, rfl⟩
  obtain ⟨b5, hb5⟩ : ∃ b, bitN p 5 = b := ⟨_, rfl⟩
  obtain ⟨b4, hb4⟩ : ∃ b, bitN p 4 = b := ⟨_, rfl⟩
  rw [hb7, hb6, hb5, hb4]
  have B7 := Lib.hid hb7
  have B6 := Lib.hid hb6
  have B5 := Lib.hid hb5
  have B4 := Lib.hid hb4
  have HL := Lib.hid hlt
  clear hb7 hb6 hb5 hb4 hlt
  refine calls_q fun Q HQ => ?_
  go_enter Try.func21, Try.ntmps21
  go_wp2_with fail
  refine HC.out.mono ?_
  rintro e w1 ⟨rfl, hp⟩
  have h := HF.out w1 hp
  clear hp HF HC hdl
  go_upto_region 3 with fail
  generalize w1.alloc _ = w2 at *
  go_cut [] (fun wx => PS lo rb db w.heap.size (w.heap.size + 1) w1.heap.size p (rdPic b7 s.next) w wx)
  case first =>
    have kx := h.cx
    have z := h.z 3
    have c3 := h.c 3
    simp only [DD.cs, List.getElem?_toArray, List.getElem?_cons_succ, List.getElem?_cons_zero] at c3
    cases b7
    · have HT := Lib.hid (told_no 7 p (.func (.func 34) #[] #[.pointer (some ⟨w.heap.size, 0, none⟩), .pointer (some ⟨w.heap.size + 1, 0, none⟩)]) ⟨w1.heap.size, 0, none⟩ w2.drew h.drew.cs HL.out (by omega) B7.out)
      have HP := Lib.hid (fun k => (h.drewN k).put 3 (.int .i64 (-1)) { s.next.d with pic := -1 } rfl)
      clear h
      go_region_with (go_at_call 33; refine HT.out.mono ?_; rintro e w9 ⟨rfl, j, rfl⟩)
      all_goals (
        go_wp2_with fail
        go_meet
        case rel => exact HP.out _)
    · have HT := Lib.hid (told_yes2 7 p _ _ ⟨w1.heap.size, 0, none⟩ w2.drew (fun x w' => x = (picN s.next : Nat) ∧ PS lo rb db w.heap.size (w.heap.size + 1) w1.heap.size p (picR s.next) w w') h.drew.cs HL.out (by omega) B7.out (fun j => clo2 (h.drew.drewN j)))
      clear h
      go_region_with (go_at_call 33; refine HT.out.mono ?_; rintro e w9 ⟨x, rfl, hx, h9⟩; have kx9 := h9.cx; have z9 := h9.z 3; have c9 := h9.c 3; simp only [DD.cs, List.getElem?_toArray, List.getElem?_cons_succ, List.getElem?_cons_zero] at c9; have H9 := Lib.hid h9; clear h9)
      all_goals (
        go_wp2_with fail
        go_meet
        case rel =>
          subst hx
          have h := H9.out.put 3 (.int .i64 (picN s.next : Nat)) { (picR s.next).d with pic := picN s.next } rfl
          rw [← pic_eq] at h
          exact h)
  case rest =>
    generalize rdPic b7 s.next = s1 at *
    clear h
    have h := hcut
    clear hcut
    go_upto_region 4 with fail
    go_cut [] (fun wx => PS lo rb db w.heap.size (w.heap.size + 1) w1.heap.size p (rdBa b6 s1) w wx)
    case first =>
      have kx := h.cx
      have z := h.z 5
      have c3 := h.c 5
      simp only [DD.cs, List.getElem?_toArray, List.getElem?_cons_succ, List.getElem?_cons_zero] at c3
      cases b6
      · have HT := Lib.hid (told_no 6 p (.func (.func 35) #[] #[.pointer (some ⟨w.heap.size, 0, none⟩)]) ⟨w1.heap.size, 0, none⟩ wc.drew h.drew.cs HL.out (by omega) B6.out)
        have HP := Lib.hid (fun k => (h.drewN k).put 5 (.int .i64 (-1)) { s1.d with ba := -1 } rfl)
        clear h
        go_region_with (go_at_call 33; refine HT.out.mono ?_; rintro e w9 ⟨rfl, j, rfl⟩)
        all_goals (
          go_wp2_with fail
          go_meet
          case rel => exact HP.out _)
      · have HT := Lib.hid (told_yes3 6 p _ ⟨w1.heap.size, 0, none⟩ wc.drew (fun x w' => x = (s1.byte : Nat) ∧ PS lo rb db w.heap.size (w.heap.size + 1) w1.heap.size p s1.next w w') h.drew.cs HL.out (by omega) B6.out (fun j => clo3 (h.drew.drewN j)))
        clear h
        go_region_with (go_at_call 33; refine HT.out.mono ?_; rintro e w9 ⟨x, rfl, hx, h9⟩; have kx9 := h9.cx; have z9 := h9.z 5; have c9 := h9.c 5; simp only [DD.cs, List.getElem?_toArray, List.getElem?_cons_succ, List.getElem?_cons_zero] at c9; have H9 := Lib.hid h9; clear h9)
        all_goals (
          go_wp2_with fail
          go_meet
          case rel =>
            subst hx
            exact H9.out.put 5 (.int .i64 (s1.byte : Nat)) { s1.next.d with ba := s1.byte } rfl)
    case rest =>
      generalize rdBa b6 s1 = s2 at *
      clear h
      have h := hcut
      clear hcut
      go_upto_region 6 with fail
      have hsz := obj_lt h.r
      have hsz1 := obj_lt h.x
      have hsz2 := obj_lt h.s
      have hsz3 := obj_lt h.d
      have hsz4 := h.fr.size
      have h' := h.alloc (.cells #[.int .u64 0] 45)
      have hl := heap_alloc_new wc (.cells #[.int .u64 0] 45)
      have HN := Lib.hid (show w.heap.size ≤ wc.heap.size ∧ db < wc.heap.size ∧ wc.heap.size ≠ w.heap.size ∧ wc.heap.size ≠ w.heap.size + 1 ∧ wc.heap.size ≠ w1.heap.size from ⟨hsz4, hsz3, by omega, by omega, by omega⟩)
      clear h hsz hsz1 hsz2 hsz3 hsz4
      have h := h'
      clear h'
      generalize wc.alloc (.cells #[.int .u64 0] 45) = w3 at *
      generalize wc.heap.size = lb at *
      have HLb := Lib.hid hl
      clear hl
      have hs := h.cs
      go_cut [28] (fun s28 wx => s28 = .bool (b5 || b4) ∧ ∃ j, wx = w3.drewN j)
      case first =>
        have M5 := Lib.hid (fun w => marked_any p 5 w (u64_lt HL.out) (by omega))
        have M4 := Lib.hid (fun w => marked_any p 4 w (u64_lt HL.out) (by omega))
        rw [B5.out] at M5
        rw [B4.out] at M4
        cases b5
        · go_wp2_with fail
          refine (M5.out _).mono ?_
          rintro e w9 ⟨rfl, j1, rfl⟩
          go_wp2_with fail
          refine (M4.out _).mono ?_
          rintro e w9 ⟨rfl, j2, rfl⟩
          go_wp2_with fail
          all_goals (
            go_meet
            case rel => exact ⟨by simp [*], _, rfl⟩)
        · go_wp2_with fail
          refine (M5.out _).mono ?_
          rintro e w9 ⟨rfl, j1, rfl⟩
          go_wp2_with fail
          go_meet
          case rel => exact ⟨by simp, _, rfl⟩
      case rest =>
        obtain ⟨rfl, j, rfl⟩ := hcut
        have h' := h.drewN j
        have hl : LB lb 0 (w3.drewN j) := HLb.out
        generalize w3.drewN j = w4 at *
        clear h hs HLb
        have h := h'
        clear h'
        unfold numsT at HQ
        go_upto_if 28 with fail
        go_cut [] (fun wx => PS lo rb db w.heap.size (w.heap.size + 1) w1.heap.size p (rdLast (b5 || b4) s2) w wx ∧ LB lb (lastN8 (b5 || b4) s2) wx)
        case first =>
          generalize (b5 || b4) = b at *
          cases b
          · go_wp2_with fail
            go_meet
            case rel => exact ⟨h, hl⟩
          · have hr := h.cr
            have hc := ps_byte h.self
            have k1 := u64_id (u64_lt (byte_lt s2))
            have HC := Lib.hid hc
            have HH := Lib.hid h
            have HLL := Lib.hid hl
            clear hc h hl
            generalize hx : s2.byte = x at *
            have HX := Lib.hid hx
            clear hx
            go_wp2_with fail
            refine HC.out.mono ?_
            rintro e w5 ⟨rfl, h5⟩
            have hl5 := HLL.out.ps h5 HN.out.2.1
            have hP := (HH.out.trans h5).store lb (.int .u64 (x : Nat)) HN.out.1 HN.out.2.1 HN.out.2.2.1 HN.out.2.2.2.1 HN.out.2.2.2.2
            have hL := obj_set hl5 0 (.int .u64 (x : Nat))
            have kc := obj_cell hl5 0
            have kz := obj_frozen hl5 0
            simp only [List.getElem?_toArray, List.getElem?_cons_zero] at kc
            have HP := Lib.hid (And.intro hP (show LB lb x _ by simpa [LB] using hL))
            clear hP hL hl5 h5
            go_wp2_with fail
            go_meet
            case rel =>
              rw [show rdLast true s2 = s2.next from rfl, show lastN8 true s2 = x from HX.out]
              exact HP.out
        case rest =>
          have hn8 : lastN8 (b5 || b4) s2 < 256 := by unfold lastN8; split; exact byte_lt s2; omega
          rw [show s2.d = (rdLast (b5 || b4) s2).d from (rdLast_d _ _).symm] at HQ
          generalize rdLast (b5 || b4) s2 = s3 at *
          generalize lastN8 (b5 || b4) s2 = n8 at *
          clear h hl
          obtain ⟨h, hl⟩ := hcut
          have hdl := HN.out.2.1
          have hne : lb ≠ db := by omega
          go_upto_region 8 with fail
          go_cut [] (fun wx => PS lo rb db w.heap.size (w.heap.size + 1) w1.heap.size p (s3.with (rdTi b5 n8 s3.d)) w wx ∧ LB lb n8 wx)
          case first =>
            have kx := h.cx
            have z := h.z 6
            have c3 := h.c 6
            simp only [DD.cs, List.getElem?_toArray, List.getElem?_cons_succ, List.getElem?_cons_zero] at c3
            cases b5
            · have HT := Lib.hid (told_no 5 p (.func (.func 36) #[] #[.pointer (some ⟨lb, 0, none⟩), .pointer (some ⟨w.heap.size + 1, 0, none⟩)]) ⟨w1.heap.size, 0, none⟩ wc.drew h.drew.cs HL.out (by omega) B5.out)
              have HP := Lib.hid (fun k => And.intro ((h.drewN k).put 6 (.int .i64 (-1)) { s3.d with ti := -1 } rfl) (hl.ps (h.self.drewN k |>.put 6 (.int .i64 (-1)) { s3.d with ti := -1 } rfl) hdl))
              clear h hl
              go_region_with (go_at_call 33; refine HT.out.mono ?_; rintro e w9 ⟨rfl, j, rfl⟩)
              all_goals (
                go_wp2_with fail
                go_meet
                case rel => exact HP.out _)
            · have hd1 := h.drew
              have hl1 : LB lb n8 wc.drew := hl
              have HT := Lib.hid (told_yes4 5 p _ _ ⟨w1.heap.size, 0, none⟩ wc.drew (fun x w' => x = (n8 / 64 % 4 : Nat) ∧ PS lo rb db w.heap.size (w.heap.size + 1) w1.heap.size p (s3.with { s3.d with sy := bitN n8 5 }) wc.drew w') hd1.cs HL.out (by omega) B5.out (fun j => clo4 (hd1.self.drewN j) n8 ⟨lb, 0, none⟩ hn8 (show (wc.drew.drewN j).cell? _ = _ from hl1.cell) hne))
              have HH := Lib.hid (And.intro hd1 hl1)
              clear h hl hd1 hl1
              go_region_with (go_at_call 33; refine HT.out.mono ?_; rintro e w9 ⟨x, rfl, hx, h9⟩; have kx9 := h9.cx; have z9 := h9.z 6; have c9 := h9.c 6; simp only [DD.cs, List.getElem?_toArray, List.getElem?_cons_succ, List.getElem?_cons_zero] at c9; have H9 := Lib.hid h9; clear h9)
              all_goals (
                go_wp2_with fail
                go_meet
                case rel =>
                  subst hx
                  have h := H9.out.put 6 (.int .i64 (n8 / 64 % 4 : Nat)) { s3.d with sy := bitN n8 5, ti := (n8 / 64 % 4 : Nat) } rfl
                  exact ⟨HH.out.1.trans h, HH.out.2.ps h hdl⟩)
          case rest =>
            rw [show s3.with (rdKe b4 n8 (rdTi b5 n8 s3.d)) = (s3.with (rdTi b5 n8 s3.d)).with (rdKe b4 n8 (s3.with (rdTi b5 n8 s3.d)).d) from rfl] at HQ
            generalize s3.with (rdTi b5 n8 s3.d) = s4 at *
            clear h hl
            obtain ⟨h, hl⟩ := hcut
            go_upto_region 9 with fail
            have kx := h.cx
            have z := h.z 8
            have c3 := h.c 8
            simp only [DD.cs, List.getElem?_toArray, List.getElem?_cons_succ, List.getElem?_cons_zero] at c3
            cases b4
            · have HT := Lib.hid (told_no 4 p (.func (.func 37) #[] #[.pointer (some ⟨lb, 0, none⟩)]) ⟨w1.heap.size, 0, none⟩ wc.drew h.drew.cs HL.out (by omega) B4.out)
              have HP := Lib.hid (fun k => (h.drewN k).put 8 (.int .i64 (-1)) { s4.d with ke := -1 } rfl)
              clear h hl
              go_region_with (go_at_call 33; refine HT.out.mono ?_; rintro e w9 ⟨rfl, j, rfl⟩)
              all_goals (
                go_wp2_with fail
                go_end0
                have hp := HP.out (1 + j)
                exact HQ.out _ _ ⟨rfl, hp.rd, hp.d, hp.fr⟩)
            · have hd1 := h.drew
              have hl1 : LB lb n8 wc.drew := hl
              have HT := Lib.hid (told_yes5 4 p _ ⟨w1.heap.size, 0, none⟩ wc.drew (fun x w' => x = (n8 % 32 : Nat) ∧ ∃ j, w' = wc.drewN j) hd1.cs HL.out (by omega) B4.out (fun j => (clo5 (w := wc.drew.drewN j) n8 ⟨lb, 0, none⟩ hn8 (show (wc.drew.drewN j).cell? _ = _ from hl1.cell)).mono (by
                rintro e w' ⟨x, rfl, hx, k, rfl⟩
                exact ⟨x, rfl, hx, 1 + j + k, by simp⟩)))
              have HP := Lib.hid (fun k => (h.drewN k).put 8 (.int .i64 (n8 % 32 : Nat)) { s4.d with ke := (n8 % 32 : Nat) } rfl)
              clear h hl hd1 hl1
              go_region_with (go_at_call 33; refine HT.out.mono ?_; rintro e w9 ⟨x, rfl, hx, j, rfl⟩)
              all_goals (
                go_wp2_with fail
                go_end0
                subst hx
                have hp := HP.out j
                exact HQ.out _ _ ⟨rfl, hp.rd, hp.d, hp.fr⟩)
end Go.Proofs.Ythomlikmjgeccaa
