/- The walks of the document's reader. -/
import Derived.Test.YthgajlmhgbhmlaaWireR
import Derived.Test.YthgajlmhgbhmlaaRawD
import Derived.Test.YthgajlmhgbhmlaaBRNum
import Derived.Test.YthgajlmhgbhmlaaStep
import Derived.Deep.RegionHeld3
namespace Go.Proofs.Ythgajlmhgbhmlaa
open Go.RowKit

/-- the document's reader in block rb, of bytes B that lie elsewhere: l is left, e went wrong -/
structure RRd (w : World) (rb : Nat) (vB : Value) (B l : List UInt8) (e : Int) (at_ : Nat) : Prop where
  box : w.heap[rb]? = some (.cells #[vB, .int .i64 (at_ : Nat), .int .i64 e] 80 (0, 0))
  le : at_ ≤ B.length
  bytes : BSx (fun k => k < rb) w vB B
  left : e = 0 → l = B.drop at_
  gone : e ≠ 0 → l = []
theorem RRd.fr {w w' : World} {rb : Nat} {vB : Value} {B l : List UInt8} {e : Int} {n : Nat} (h : RRd w rb vB B l e n) {F : Nat → Prop} (hf : Fr F w w') (hF : ∀ k, k ≤ rb → ¬ F k) : RRd w' rb vB B l e n :=
  ⟨hf.heap h.box (hF _ (Nat.le_refl _)), h.le, h.bytes.fr hf (fun k _ hk => hF k (Nat.le_of_lt hk)), h.left, h.gone⟩
theorem RRd.fr0 {w w' : World} {rb : Nat} {vB : Value} {B l : List UInt8} {e : Int} {n : Nat} (h : RRd w rb vB B l e n) (hf : Fr F0 w w') : RRd w' rb vB B l e n := h.fr hf (fun _ _ h => h)
theorem three_cells {w : World} {b : Nat} {x0 x1 x2 : Value} {t : TypeId} (h : w.heap[b]? = some (.cells #[x0, x1, x2] t (0, 0))) :
    w.cell? ⟨b, 0, none⟩ = some x0 ∧ w.cell? ⟨b, 1, none⟩ = some x1 ∧ w.cell? ⟨b, 2, none⟩ = some x2 := by
  have k := obj_cell h
  exact ⟨k 0, k 1, k 2⟩
def RRaw (w : World) (rb : Nat) (vB : Value) (B l : List UInt8) (e : Int) (n : Nat) (r : Ending) (w' : World) : Prop :=
  ∃ v at', r = .returned v ∧ BSx (fun k => w.heap.size ≤ k) w' v (rawL n l) ∧ RRd w' rb vB B (rawR n l) (rawE n l e) at' ∧ Fr (F1 rb) w w'
theorem rraw_nil {n : Nat} : rawL n [] = [] ∧ rawR n [] = [] := by
  unfold rawL rawR
  constructor <;> split <;> simp
theorem rawE_ne {n : Nat} {e : Int} (h : e ≠ 0) : rawE n [] e = e := by
  unfold rawE
  split
  · rfl
  · simp
theorem RRaw.drew {w w' : World} {rb : Nat} {vB : Value} {B l : List UInt8} {e : Int} {n : Nat} {r : Ending} (h : RRaw w rb vB B l e n r w') : RRaw w rb vB B l e n r w'.drew := by
  obtain ⟨v, at', hr, hb, hd, hf⟩ := h
  exact ⟨v, at', hr, hb.fr (Fr.drew _) (fun _ _ _ h => h), hd.fr0 (Fr.drew _), hf.trans (Fr.drew _) (fun _ h => h.elim)⟩
theorem RRd.cells {w : World} {rb : Nat} {vB : Value} {B l : List UInt8} {e : Int} {n base : Nat} (h : RRd w rb vB B l e n) (hb : base ≤ w.heap.size) :
    RRd w rb vB B l e n ∧ base ≤ w.heap.size ∧ w.cell? ⟨rb, 0, none⟩ = some vB ∧ w.cell? ⟨rb, 1, none⟩ = some (.int .i64 (n : Nat)) ∧ w.cell? ⟨rb, 2, none⟩ = some (.int .i64 e) := by
  obtain ⟨k0, k1, k2⟩ := three_cells h.box
  exact ⟨h, hb, k0, k1, k2⟩
set_option maxHeartbeats 2000000 in
theorem rrraw_any (rb : Nat) (vB : Value) (B l : List UInt8) (e : Int) (at_ n : Nat) (w : World) (hr : RRd w rb vB B l e at_) (hB : B.length ≤ 1000) (hn : n ≤ 1000000) :
    Calls Try.prog 46 #[.pointer (some ⟨rb, 0, none⟩), .int .i64 n] w (RRaw w rb vB B l e n) := by
  have HR := Lib.hid hr
  obtain ⟨A, c, rfl, hc, hcm, hrow⟩ := bs_parts hr.bytes.1
  obtain ⟨k0, k1, k2⟩ := three_cells hr.box
  have z1 := obj_frozen hr.box 1
  have z2 := obj_frozen hr.box 2
  have hle := hr.le
  refine calls_q fun Q HQ => ?_
  by_cases he : e = 0
  · have hl := hr.left he
    subst he
    subst hl
    have hlen : (B.drop at_).length = B.length - at_ := by simp
    by_cases hfit : n ≤ B.length - at_
    · by_cases hcap : c = at_
      · have HN0 := Lib.hid (show n = 0 by omega)
        obtain rfl : at_ = c := hcap.symm
        clear hrow
        have hn1 : at_ + n ≤ B.length := by omega
        have hn2 : at_ + n ≤ at_ := by omega
        have hn3 : at_ ≤ at_ := by omega
        have hwr : IntKind.i64.wrap ((at_ : Int) + (n : Int)) = (at_ : Int) + (n : Int) := by simp [IntKind.wrap, IntKind.bits, IntKind.signed]; omega
        have h1 : ¬ ((B.length : Int) - (at_ : Int)) < (n : Int) := by omega
        have hs1 : (0 : Int) ≤ (at_ : Int) := by omega
        have hs2 : (at_ : Int) ≤ (at_ : Int) + (n : Int) := by omega
        have hs3 : (at_ : Int) + (n : Int) ≤ (B.length : Int) := by omega
        have hs4 : (at_ : Int) + (n : Int) ≤ (at_ : Int) := by omega
        have HLen := Lib.hid hlen
        clear hlen
        go_enter Try.func46, Try.ntmps46
        go_wp2_with fail
        go_region
        have HRd := Lib.hid (HR.out.fr0 (Fr.drew w))
        have HFd := Lib.hid (Fr.drew w)
        have HBd := Lib.hid (show w.heap.size ≤ w.drew.heap.size from Nat.le_refl _)
        generalize w.drew = wd at *
        have HLt0 := Lib.hid (obj_lt hr.box)
        clear k0 k1 k2 z1 z2 hr
        obtain ⟨k0, k1, k2⟩ := three_cells HRd.out.box
        have HLt := Lib.hid (obj_lt HRd.out.box)
        go_wp2_with fail
        go_region_held3 (fun w' => RRd w' rb (.slice A B.length at_) B (B.drop at_) 0 at_ ∧ w.heap.size ≤ w'.heap.size ∧ w'.cell? ⟨rb, 0, none⟩ = some (.slice A B.length at_) ∧ w'.cell? ⟨rb, 1, none⟩ = some (.int .i64 (at_ : Nat)) ∧ w'.cell? ⟨rb, 2, none⟩ = some (.int .i64 0))
          (first | exact HR1.out.cells HS1.out | exact ((HRd.out.fr0 (Fr.alloc wd (.cells #[] 5))).fr0 (Fr.drew _)).cells (Nat.le_trans HBd.out (by simp)) | exact ((HRd.out.fr0 (Fr.drew _)).cells HBd.out)) (first
          | (have hh := (‹RRd _ _ _ _ _ _ _ ∧ _›)
             refine step_app rfl (.tmp 26) (.tmp 41) 28 rfl w.heap.size 5 (.int .u8 0) 1 Try.underlying28 (by kernel_rfl) rfl _ 0 [] rfl ((Fr.drew _).own (own_empty wd w.heap.size _ HBd.out) (fun _ _ h => h)) _ _ _ (c8 ((B.drop at_).take n)) rfl ⟨by rw [c8_len, List.length_take, HLen.out]; have := HN0.out; omega, fun hp => absurd hp (by have := HN0.out; omega)⟩ (c8_one _) (by unfold maxLen; omega) (by omega) hh.2.1 ?_
             intro v' w1 hown hg hblk
             have hfg := Fr.grown hg
             have hx : ∀ k, some k = (Value.slice (some ⟨wd.heap.size, 0, none⟩) 0 0).ownBlock → k = wd.heap.size := fun k hk => by simpa [Value.ownBlock] using hk
             have HR1 := Lib.hid (hh.1.fr hfg (fun k hk hy => by have := hx k hy; have := HLt.out; omega))
             have HS1 := Lib.hid (Nat.le_trans hh.2.1 hfg.size)
             have HF1 := Lib.hid (show Fr F0 wd w1 from (((Fr.alloc wd (.cells #[] 5)).trans (Fr.drew _) (fun _ h => .inl h)).trans hfg (fun k hk => .inr (by have := hx k hk; omega))))
             obtain ⟨A1, c1, rfl⟩ := own_slice hown
             have HO1 := Lib.hid (own_bsx hown)
             clear hown hg hblk hfg hx hh))
        clear k0 k1 k2
        obtain ⟨k0, k1, k2⟩ := three_cells HR1.out.box
        have z1 := obj_frozen HR1.out.box 1
        go_wp2_with fail
        have hsetx := obj_set HR1.out.box 1 (.int .i64 ((at_ : Int) + (n : Int)))
        have hfs : Fr (F1 rb) w1 (w1.setCell ⟨rb, 1, none⟩ (.int .i64 ((at_ : Int) + (n : Int)))) := Fr.setCell w1 ⟨rb, 1, none⟩ _
        have hE0 : rawE n (B.drop at_) 0 = 0 := rawE_drop (by omega)
        have hlen := HLen.out
        have hlt0 := HLt0.out
        refine HQ.out _ _ ⟨_, at_ + n, rfl, ?_, ⟨?_, by omega, HR1.out.bytes.fr hfs (fun k _ hk (h : k = rb) => by omega), fun _ => ?_, fun h => absurd hE0 h⟩, ((HFd.out.trans HF1.out (fun _ h => .inl h)).mono (fun _ h => h.elim)).trans hfs (fun _ h => .inl h)⟩
        · have h := HO1.out
          rw [Nat.zero_add] at h
          rw [rawL, if_pos (by omega)]
          exact h.fr hfs (fun k _ hk (hx : k = rb) => by omega)
        · rw [hE0]
          simpa using hsetx
        · rw [rawR, if_pos (by omega), List.drop_drop]
      · have HRow := Lib.hid hrow
        clear hrow
        have hn1 : at_ + n ≤ B.length := by omega
        have hn2 : at_ + n ≤ c := by omega
        have hn3 : at_ ≤ c := by omega
        have hwr : IntKind.i64.wrap ((at_ : Int) + (n : Int)) = (at_ : Int) + (n : Int) := by simp [IntKind.wrap, IntKind.bits, IntKind.signed]; omega
        have h1 : ¬ ((B.length : Int) - (at_ : Int)) < (n : Int) := by omega
        have hs1 : (0 : Int) ≤ (at_ : Int) := by omega
        have hs2 : (at_ : Int) ≤ (at_ : Int) + (n : Int) := by omega
        have hs3 : (at_ : Int) + (n : Int) ≤ (B.length : Int) := by omega
        have hs4 : (at_ : Int) + (n : Int) ≤ (c : Int) := by omega
        have HLen := Lib.hid hlen
        clear hlen
        go_enter Try.func46, Try.ntmps46
        go_wp2_with fail
        go_region
        have HRd := Lib.hid (HR.out.fr0 (Fr.drew w))
        have HFd := Lib.hid (Fr.drew w)
        have HBd := Lib.hid (show w.heap.size ≤ w.drew.heap.size from Nat.le_refl _)
        generalize w.drew = wd at *
        have HLt0 := Lib.hid (obj_lt hr.box)
        clear k0 k1 k2 z1 z2 hr
        obtain ⟨k0, k1, k2⟩ := three_cells HRd.out.box
        have HLt := Lib.hid (obj_lt HRd.out.box)
        go_wp2_with fail
        go_region_held3 (fun w' => RRd w' rb (.slice A B.length c) B (B.drop at_) 0 at_ ∧ w.heap.size ≤ w'.heap.size ∧ w'.cell? ⟨rb, 0, none⟩ = some (.slice A B.length c) ∧ w'.cell? ⟨rb, 1, none⟩ = some (.int .i64 (at_ : Nat)) ∧ w'.cell? ⟨rb, 2, none⟩ = some (.int .i64 0))
          (first | exact HR1.out.cells HS1.out | exact ((HRd.out.fr0 (Fr.alloc wd (.cells #[] 5))).fr0 (Fr.drew _)).cells (Nat.le_trans HBd.out (by simp)) | exact ((HRd.out.fr0 (Fr.drew _)).cells HBd.out)) (first
          | (have hh := (‹RRd _ _ _ _ _ _ _ ∧ _›)
             refine step_app rfl (.tmp 26) (.tmp 41) 28 rfl w.heap.size 5 (.int .u8 0) 1 Try.underlying28 (by kernel_rfl) rfl _ 0 [] rfl ((Fr.drew _).own (own_empty wd w.heap.size _ HBd.out) (fun _ _ h => h)) _ _ _ (c8 ((B.drop at_).take n)) rfl (src_of (by rw [List.length_take, HLen.out]; omega) (by obtain ⟨A3, c3, he3, _, _, hr3⟩ := hh.1.bytes.1; simp only [Value.slice.injEq] at he3; obtain ⟨rfl, _, _⟩ := he3; exact (hr3.drop at_).take n)) (c8_one _) (by unfold maxLen; omega) (by omega) hh.2.1 ?_
             intro v' w1 hown hg hblk
             have hfg := Fr.grown hg
             have hx : ∀ k, some k = (Value.slice (some ⟨wd.heap.size, 0, none⟩) 0 0).ownBlock → k = wd.heap.size := fun k hk => by simpa [Value.ownBlock] using hk
             have HR1 := Lib.hid (hh.1.fr hfg (fun k hk hy => by have := hx k hy; have := HLt.out; omega))
             have HS1 := Lib.hid (Nat.le_trans hh.2.1 hfg.size)
             have HF1 := Lib.hid (show Fr F0 wd w1 from (((Fr.alloc wd (.cells #[] 5)).trans (Fr.drew _) (fun _ h => .inl h)).trans hfg (fun k hk => .inr (by have := hx k hk; omega))))
             obtain ⟨A1, c1, rfl⟩ := own_slice hown
             have HO1 := Lib.hid (own_bsx hown)
             clear hown hg hblk hfg hx hh))
        clear k0 k1 k2
        obtain ⟨k0, k1, k2⟩ := three_cells HR1.out.box
        have z1 := obj_frozen HR1.out.box 1
        go_wp2_with fail
        have hsetx := obj_set HR1.out.box 1 (.int .i64 ((at_ : Int) + (n : Int)))
        have hfs : Fr (F1 rb) w1 (w1.setCell ⟨rb, 1, none⟩ (.int .i64 ((at_ : Int) + (n : Int)))) := Fr.setCell w1 ⟨rb, 1, none⟩ _
        have hE0 : rawE n (B.drop at_) 0 = 0 := rawE_drop (by omega)
        have hlen := HLen.out
        have hlt0 := HLt0.out
        refine HQ.out _ _ ⟨_, at_ + n, rfl, ?_, ⟨?_, by omega, HR1.out.bytes.fr hfs (fun k _ hk (h : k = rb) => by omega), fun _ => ?_, fun h => absurd hE0 h⟩, ((HFd.out.trans HF1.out (fun _ h => .inl h)).mono (fun _ h => h.elim)).trans hfs (fun _ h => .inl h)⟩
        · have h := HO1.out
          rw [Nat.zero_add] at h
          rw [rawL, if_pos (by omega)]
          exact h.fr hfs (fun k _ hk (hx : k = rb) => by omega)
        · rw [hE0]
          simpa using hsetx
        · rw [rawR, if_pos (by omega), List.drop_drop]
    · have h1 : ((B.length : Int) - (at_ : Int)) < (n : Int) := by omega
      have hset := obj_set hr.box 2 (.int .i64 3)
      have hfs : Fr (F1 rb) w (w.setCell ⟨rb, 2, none⟩ (.int .i64 3)) := Fr.setCell w ⟨rb, 2, none⟩ _
      have hp : RRaw w rb (.slice A B.length c) B (B.drop at_) 0 n (.returned (.slice none 0 0)) (w.setCell ⟨rb, 2, none⟩ (.int .i64 3)) := by
        refine ⟨_, at_, rfl, ?_, ⟨?_, hle, hr.bytes.fr hfs (fun k _ hk (h : k = rb) => by omega), ?_, ?_⟩, hfs⟩
        · rw [rawL, if_neg (by omega)]; exact BSx.nil _ _
        · rw [rawE, if_neg (by omega), if_pos rfl]; simpa using hset
        · rw [rawE, if_neg (by omega), if_pos rfl]; intro h; cases h
        · intro _; rw [rawR, if_neg (by omega)]
      have HP := Lib.hid hp
      clear hset hfs hp hr hrow hlen
      go_enter Try.func46, Try.ntmps46
      go_wp2_with fail
      go_region
      go_wp2_with fail
      exact HQ.out _ _ HP.out.drew
  · have hl := hr.gone he
    subst hl
    have hp : RRaw w rb (.slice A B.length c) B [] e n (.returned (.slice none 0 0)) w := by
      refine ⟨_, at_, rfl, ?_, ?_, Fr.refl _ _⟩
      · rw [rraw_nil.1]; exact BSx.nil _ _
      · rw [rraw_nil.2, rawE_ne he]; exact hr
    have HP := Lib.hid hp
    have he' : (e != 0) = true := by simp [he]
    clear hp hr hrow he
    go_enter Try.func46, Try.ntmps46
    go_wp2_with fail
    exact HQ.out _ _ HP.out
/-- what is left of a call of Number -/
def RNumP (w : World) (rb : Nat) (vB : Value) (B l : List UInt8) (e : Int) (n : Nat) (r : Ending) (w' : World) : Prop :=
  ∃ at', r = .returned (.int .u64 (rdN n l : Nat)) ∧ RRd w' rb vB B (rawR n l) (rawE n l e) at' ∧ Fr (F1 rb) w w'
set_option maxHeartbeats 1000000 in
theorem rrnum_any (rb : Nat) (vB : Value) (B l : List UInt8) (e : Int) (at_ n : Nat) (w : World) (hr : RRd w rb vB B l e at_) (hB : B.length ≤ 1000) (hn : n ≤ 8) :
    Calls Try.prog 31 #[.pointer (some ⟨rb, 0, none⟩), .int .i64 n] w (RNumP w rb vB B l e n) := by
  refine calls_q fun Q HQ => ?_
  go_enter Try.func31, Try.ntmps31
  go_wp2_with fail
  refine (rrraw_any rb vB B l e at_ n w hr hB (by omega)).mono ?_
  rintro r w1 ⟨v, at', rfl, hv, hd, hf⟩
  have HV := Lib.hid hv
  have HD := Lib.hid hd
  have HF := Lib.hid hf
  clear hv hd hf hr
  go_wp2_with fail
  have hlt := rdN_lt n l
  have hp : (256 : Nat) ^ n ≤ 256 ^ 8 := Nat.pow_le_pow_right (by decide) hn
  have hc := rnumber_any v (rawL n l) w1 HV.out.1
  rw [show beN (rawL n l) = rdN n l from rfl, Nat.mod_eq_of_lt (by omega)] at hc
  refine hc.mono ?_
  rintro r w2 ⟨rfl, rfl⟩
  clear hc hlt hp
  go_wp2_with fail
  exact HQ.out _ _ ⟨at', rfl, HD.out, HF.out⟩
end Go.Proofs.Ythgajlmhgbhmlaa
