/- The walks of the closures that read one number each. -/
import Derived.Test.YthomlikmjgeccaaPbTold
namespace Go.Proofs.Ythomlikmjgeccaa
open Go.RowKit

section
variable {lo rb db rx dx sb sv : Nat} {s : RS} {w0 w : World}
/-- Base -/
theorem clo3 (h : PS lo rb db rx dx sb sv s w0 w) : Calls Try.prog 35 #[.pointer (some ⟨rx, 0, none⟩)] w fun e w' => ∃ x, e = .returned (.int .i64 x) ∧ (x = (s.byte : Nat) ∧ PS lo rb db rx dx sb sv s.next w0 w') := by
  have hr := h.cr
  have hc := ps_byte h
  have hlt := byte_lt s
  generalize s.byte = x at *
  have HC := Lib.hid hc
  clear hc h
  have hw : IntKind.i64.wrap (x : Int) = x := by simp [IntKind.wrap, IntKind.bits, IntKind.signed]; omega
  refine calls_q fun Q HQ => ?_
  go_enter Try.func35, Try.ntmps35
  go_wp2_with fail
  refine HC.out.mono ?_
  rintro e w1 ⟨rfl, hp⟩
  have HP := Lib.hid hp
  clear hp
  go_wp2_with fail
  exact HQ.out _ _ ⟨_, rfl, rfl, HP.out⟩
/-- Key -/
theorem clo5 (n : Nat) (a : Addr) (hn : n < 256) (hl : w.cell? a = some (.int .u64 (n : Nat))) : Calls Try.prog 37 #[.pointer (some a)] w fun e w' => ∃ x, e = .returned (.int .i64 x) ∧ (x = (n % 32 : Nat) ∧ ∃ j, w' = w.drewN j) := by
  have hf := field_any (n : Nat) 0 5 w (u64_lt hn)
  have he : fieldN (n : Int).toNat 0 5 = n % 32 := by
    unfold fieldN
    rw [if_pos (by decide), Int.toNat_natCast]
    simp
  rw [he] at hf
  have hx : n % 32 < 256 := by omega
  generalize n % 32 = x at *
  have HF := Lib.hid hf
  clear hf he
  have hw : IntKind.i64.wrap (x : Int) = x := by simp [IntKind.wrap, IntKind.bits, IntKind.signed]; omega
  refine calls_q fun Q HQ => ?_
  go_enter Try.func37, Try.ntmps37
  go_wp2_with fail
  refine HF.out.mono ?_
  rintro e w1 ⟨rfl, j, rfl⟩
  go_wp2_with fail
  exact HQ.out _ _ ⟨_, rfl, rfl, j, rfl⟩
/-- Tier, and Sync -/
theorem clo4 (h : PS lo rb db rx dx sb sv s w0 w) (n : Nat) (a : Addr) (hn : n < 256) (hl : w.cell? a = some (.int .u64 (n : Nat))) (ha : a.block ≠ db) :
    Calls Try.prog 36 #[.pointer (some a), .pointer (some ⟨dx, 0, none⟩)] w fun e w' => ∃ x, e = .returned (.int .i64 x) ∧ (x = (n / 64 % 4 : Nat) ∧ PS lo rb db rx dx sb sv (s.with { s.d with sy := bitN n 5 }) w0 w') := by
  have hf := fun w => field_any (n : Nat) 6 2 w (u64_lt hn)
  have hm := fun w => marked_any n 5 w (u64_lt hn) (by omega)
  have he : fieldN (n : Int).toNat 6 2 = n / 64 % 4 := by
    unfold fieldN
    rw [if_pos (by decide), Int.toNat_natCast]
    rfl
  simp only [he] at hf
  have hx : n / 64 % 4 < 256 := by omega
  generalize n / 64 % 4 = x at *
  have HF := Lib.hid hf
  have HM := Lib.hid hm
  have hw : IntKind.i64.wrap (x : Int) = x := by simp [IntKind.wrap, IntKind.bits, IntKind.signed]; omega
  have kx := h.cx
  have z := h.z 7
  have c7 := h.c 7
  have HH := Lib.hid h
  generalize hb : bitN n 5 = b at *
  simp only [DD.cs, List.getElem?_toArray, List.getElem?_cons_succ, List.getElem?_cons_zero] at c7
  have HP := Lib.hid (fun k => (h.drewN k).put 7 (.bool b) { s.d with sy := b } rfl)
  have HC := Lib.hid (fun k => (Fr.setCell (w.drewN k) ⟨db, 7, none⟩ (.bool b)).cell (show (w.drewN k).cell? a = _ from hl) ha)
  clear hf hm he h hb
  refine calls_q fun Q HQ => ?_
  go_enter Try.func36, Try.ntmps36
  go_wp2_with fail
  go_region_with (go_at_call 19; refine (HM.out _).mono ?_; rintro e w9 ⟨rfl, j, rfl⟩)
  all_goals (
    have h1 := HP.out (1 + j)
    have h2 := HC.out (1 + j)
    generalize (w.drewN (1 + j)).setCell ⟨db, 7, none⟩ (.bool b) = wf at *
    have H1 := Lib.hid h1
    clear h1 hl kx z c7
    go_wp2_with fail
    refine (HF.out _).mono ?_
    rintro e w1 ⟨rfl, j, rfl⟩
    go_wp2_with fail
    exact HQ.out _ _ ⟨_, rfl, rfl, H1.out.drewN _⟩)
/-- what the closure of Picture leaves, and tells -/
def picR (s : RS) : RS := if bitN s.byte 7 then s.next.next.with { s.d with wi := true } else s.next.with { s.d with wi := false }
def picN (s : RS) : Nat := if bitN s.byte 7 then layN s.next.byte 8 7 s.byte else s.byte
theorem pic_eq (s : RS) : rdPicB s = (picR s).with { (picR s).d with pic := picN s } := by
  unfold rdPicB picR picN
  split <;> rfl
theorem clo2 (h : PS lo rb db rx dx sb sv s w0 w) :
    Calls Try.prog 34 #[.pointer (some ⟨rx, 0, none⟩), .pointer (some ⟨dx, 0, none⟩)] w fun e w' => ∃ x, e = .returned (.int .i64 x) ∧ (x = (picN s : Nat) ∧ PS lo rb db rx dx sb sv (picR s) w0 w') := by
  have hr := h.cr
  have hc := ps_byte h
  have hlt := byte_lt s
  have hlt2 := byte_lt s.next
  have hm := fun w => marked_any s.byte 7 w (u64_lt hlt) (by omega)
  have HC := Lib.hid hc
  have hl := fun w => lay_any (s.next.byte : Nat) 8 7 (s.byte : Nat) w (u64_lt hlt2) (u64_lt hlt)
  simp only [Int.toNat_natCast] at hl
  have hlw := lay_wide s.byte s.next.byte hlt hlt2
  have hls : layN s.next.byte 8 7 s.byte < 65536 := by rw [hlw]; omega
  unfold picN picR
  have HM := Lib.hid hm
  have HL := Lib.hid hl
  have k1 := u64_id (u64_lt hlt)
  have k2 := u64_id (u64_lt hlt2)
  have k3 : IntKind.i64.wrap (s.byte : Int) = s.byte := by simp [IntKind.wrap, IntKind.bits, IntKind.signed]; omega
  have k4 : IntKind.i64.wrap (layN s.next.byte 8 7 s.byte : Int) = layN s.next.byte 8 7 s.byte := by simp [IntKind.wrap, IntKind.bits, IntKind.signed]; omega
  clear hc hm hl hlw hls hlt hlt2 h
  generalize layN s.next.byte 8 7 s.byte = x at *
  generalize hp : s.byte = p at *
  generalize hq : s.next.byte = q at *
  clear hp
  have HQ2 := Lib.hid hq
  clear hq
  generalize bitN p 7 = b at *
  refine calls_q fun Q HQ => ?_
  go_enter Try.func34, Try.ntmps34
  go_wp2_with fail
  refine HC.out.mono ?_
  rintro e w1 ⟨rfl, h1⟩
  have kx := h1.cx
  have z := h1.z 4
  have c4 := h1.c 4
  simp only [DD.cs, List.getElem?_toArray, List.getElem?_cons_succ, List.getElem?_cons_zero] at c4
  have HP := Lib.hid (fun k => (h1.drewN k).put 4 (.bool b) { s.d with wi := b } rfl)
  clear h1 hr
  go_wp2_with fail
  go_region_with (go_at_call 19; refine (HM.out _).mono ?_; rintro e w9 ⟨rfl, j, rfl⟩)
  all_goals (
    have h1 := HP.out (1 + j)
    generalize (w1.drewN (1 + j)).setCell ⟨db, 4, none⟩ (.bool b) = wf at *
    have kx := h1.cx
    have kr := h1.cr
    have c4 := h1.c 4
    simp only [RS.with, DD.cs, List.getElem?_toArray, List.getElem?_cons_succ, List.getElem?_cons_zero] at c4
    have hc := ps_byte h1
    rw [show ((s.next.with { s.d with wi := b }).byte : Nat) = q from HQ2.out] at hc
    have HC2 := Lib.hid hc
    have H1 := Lib.hid h1
    clear h1 hc HP
    cases b
    · go_wp2_with fail
      exact HQ.out _ _ ⟨_, rfl, rfl, H1.out⟩
    · go_wp2_with fail
      refine HC2.out.mono ?_
      rintro e w2 ⟨rfl, h2⟩
      have H2 := Lib.hid h2
      clear h2
      go_wp2_with fail
      refine (HL.out _).mono ?_
      rintro e w3 ⟨rfl, rfl⟩
      go_wp2_with fail
      exact HQ.out _ _ ⟨_, rfl, rfl, H2.out⟩)
end
end Go.Proofs.Ythomlikmjgeccaa
