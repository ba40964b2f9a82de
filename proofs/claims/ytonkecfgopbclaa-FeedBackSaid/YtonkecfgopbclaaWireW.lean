/- The walks of wire's Writer. -/
import Derived.Test.YtonkecfgopbclaaBBytes
import Derived.Test.YtonkecfgopbclaaClone
namespace Go.Proofs.Ytonkecfgopbclaa
open Go.RowKit

/-- a writer in block pb, what is written in a row of its own (block ob), all from block B on -/
def Wr (B : Nat) (w : World) (pb : Nat) (ob : Option Nat) (l : List UInt8) : Prop :=
  B ≤ pb ∧ ob ≠ some pb ∧ ∃ v, v.ownBlock = ob ∧ w.heap[pb]? = some (.cells #[v] 57 (0, 0)) ∧ w.ownsRow B 5 1 v l.length (c8 l)
/-- the blocks of a writer -/
def WF (pb : Nat) (ob : Option Nat) : Nat → Prop := fun k => k = pb ∨ some k = ob
theorem Wr.fr {B : Nat} {w w' : World} {pb : Nat} {ob : Option Nat} {l : List UInt8} (h : Wr B w pb ob l) {F : Nat → Prop} (hf : Fr F w w') (hF : ∀ k, WF pb ob k → ¬ F k) : Wr B w' pb ob l := by
  obtain ⟨h1, h2, v, rfl, h3, h4⟩ := h
  exact ⟨h1, h2, v, rfl, hf.heap h3 (hF _ (.inl rfl)), hf.own h4 (fun k hk => hF k (.inr hk.symm))⟩
theorem Wr.fr0 {B : Nat} {w w' : World} {pb : Nat} {ob : Option Nat} {l : List UInt8} (h : Wr B w pb ob l) (hf : Fr F0 w w') : Wr B w' pb ob l := h.fr hf (fun _ _ h => h)
theorem Wr.lt {B : Nat} {w : World} {pb : Nat} {ob : Option Nat} {l : List UInt8} (h : Wr B w pb ob l) : ∀ k, WF pb ob k → B ≤ k ∧ k < w.heap.size := by
  obtain ⟨h1, h2, v, rfl, h3, h4⟩ := h
  intro k hk
  rcases hk with rfl | hk
  · exact ⟨h1, obj_lt h3⟩
  · exact h4.lt k hk.symm
/-- what a call on a writer leaves -/
def WPost (B : Nat) (w : World) (pb : Nat) (ob : Option Nat) (l : List UInt8) (w' : World) : Prop :=
  ∃ ob', Wr B w' pb ob' l ∧ Fr (WF pb ob) w w' ∧ (ob' = ob ∨ ∃ k, ob' = some k ∧ w.heap.size ≤ k)
set_option maxHeartbeats 400000 in
theorem wraw_any (B pb : Nat) (ob : Option Nat) (l : List UInt8) (v : Value) (x : List UInt8) (w : World) (hw : Wr B w pb ob l) (hx : BS w v x) (hm : l.length + x.length ≤ 140737488355328) :
    Calls Try.prog 50 #[.pointer (some ⟨pb, 0, none⟩), v] w fun e w' => e = .returned (.tuple #[]) ∧ WPost B w pb ob (l ++ x) w' := by
  obtain ⟨A, c, rfl, hc, hcm, hr⟩ := bs_parts hx
  obtain ⟨hB, hne, u, rfl, hh, ho⟩ := hw
  have hlt := obj_lt hh
  refine calls_q fun Q HQ => ?_
  have hcell := obj_cell hh 0
  have hfz := obj_frozen hh 0
  obtain ⟨A0, c0, rfl⟩ := own_slice ho
  simp only [List.getElem?_toArray, List.getElem?_cons_zero] at hcell
  have HR := Lib.hid hr
  have HO := Lib.hid ho
  have HH := Lib.hid hh
  have HN := Lib.hid hne
  clear hr hx ho hh hne
  go_enter Try.func50, Try.ntmps50
  go_wp2_with (at_builtin; refine wpl_app rfl _ _ 27 rfl B 5 (.int .u8 0) 1 Try.underlying27 (by kernel_rfl) rfl _ _ _ rfl HO.out _ _ _ (c8 x) rfl ?c1 (c8_one _) ?c2 ?c3 ?c4 ?c5)
  case c1 => exact src_of rfl HR.out
  case c2 => unfold maxLen; omega
  case c3 => omega
  case c4 => omega
  case c5 =>
    intro v' w1 hown hg hblk
    have hf := Fr.grown hg
    have hnp : ¬ (some pb = (Value.slice A0 l.length c0).ownBlock) := fun h => HN.out h.symm
    have hh1 := hf.heap HH.out hnp
    have hcell1 := obj_cell hh1 0
    have hfz1 := obj_frozen hh1 0
    simp only [List.getElem?_toArray, List.getElem?_cons_zero] at hcell1
    have hset := obj_set hh1 0 v'
    have hs := Fr.setCell w1 ⟨pb, 0, none⟩ v'
    have hne' : v'.ownBlock ≠ some pb := by
      rcases hblk with h | h
      · rw [h]; exact HN.out
      · rw [h]; intro h; injection h; omega
    have hown' := hs.own hown (fun k hk (h : k = pb) => hne' (by rw [hk, h]))
    have hpost : WPost B w pb (Value.slice A0 l.length c0).ownBlock (l ++ x) (w1.setCell ⟨pb, 0, none⟩ v') := by
      refine ⟨v'.ownBlock, ⟨hB, hne', v', rfl, by simpa using hset, ?_⟩, (hf.mono (fun k hk => .inl (.inr hk))).trans hs (fun k hk => .inl (.inl hk)), ?_⟩
      · rw [c8_app, List.length_append]; exact hown'
      · rcases hblk with h | h
        · exact .inl h
        · exact .inr ⟨_, h, Nat.le_refl _⟩
    have HP := Lib.hid hpost
    obtain ⟨A', c', rfl⟩ := own_slice hown
    clear hown hg hblk hf hh1 hset hs hne' hown' hpost hnp
    go_wp2_with fail
    go_end0
    exact HQ.out _ _ ⟨rfl, HP.out⟩

theorem WPost.after {B : Nat} {w w1 w' : World} {pb : Nat} {ob : Option Nat} {l : List UInt8} (hb : Below w.heap.size w w1) (h : WPost B w1 pb ob l w') : WPost B w pb ob l w' := by
  obtain ⟨ob', h1, h2, h3⟩ := h
  refine ⟨ob', h1, (Fr.of hb).mono (fun _ h => h.elim) |>.trans h2 (fun _ h => .inl h), ?_⟩
  rcases h3 with h3 | ⟨k, h3, h4⟩
  · exact .inl h3
  · exact .inr ⟨k, h3, Nat.le_trans hb.size h4⟩
set_option maxHeartbeats 400000 in
theorem wnumber_any (B pb : Nat) (ob : Option Nat) (l : List UInt8) (n s : Int) (w : World) (hw : Wr B w pb ob l) (hn : U64 n) (hm : l.length ≤ 140737488300000) :
    Calls Try.prog 42 #[.pointer (some ⟨pb, 0, none⟩), .int .u64 n, .int .i64 s] w fun e w' => e = .returned (.tuple #[]) ∧ WPost B w pb ob (l ++ bytesI n.toNat s) w' := by
  refine calls_q fun Q HQ => ?_
  go_enter Try.func42, Try.ntmps42
  go_wp2_with fail
  refine (bytes_any n s w hn).mono ?_
  rintro e w1 ⟨v, rfl, hv, hb⟩
  have HV := Lib.hid hv
  have HB := Lib.hid hb
  clear hv hb
  go_wp2_with fail
  refine (wraw_any B pb ob l v (bytesI n.toNat s) w1 (hw.fr0 (Fr.of HB.out)) HV.out ?_).mono ?_
  · have : (bytesI n.toNat s).length ≤ 8 := by
      unfold bytesI; split
      · rw [bytesL_len]; omega
      · simp
    omega
  rintro e w2 ⟨rfl, hp⟩
  have HP := Lib.hid hp
  clear hp
  go_wp2_with fail
  go_end0
  exact HQ.out _ _ ⟨rfl, HP.out.after HB.out⟩
theorem u64_of {m n : Int} (h : Fits m n) (hm : m ≤ 18446744073709551616) : U64 n := ⟨h.lo, by have := h.hi; omega⟩
set_option maxHeartbeats 400000 in
theorem wbyte_any (B pb : Nat) (ob : Option Nat) (l : List UInt8) (n : Int) (w : World) (hw : Wr B w pb ob l) (hn : Fits 256 n) (hm : l.length ≤ 140737488300000) :
    Calls Try.prog 43 #[.pointer (some ⟨pb, 0, none⟩), .int .u8 n] w fun e w' => e = .returned (.tuple #[]) ∧ WPost B w pb ob (l ++ bytesI n.toNat 1) w' := by
  have hu := u64_of hn (by decide)
  have hw1 := u64_id hu
  refine calls_q fun Q HQ => ?_
  go_enter Try.func43, Try.ntmps43
  go_wp2_with fail
  refine (wnumber_any B pb ob l n 1 w hw hu hm).mono ?_
  rintro e w2 ⟨rfl, hp⟩
  have HP := Lib.hid hp
  clear hp
  go_wp2_with fail
  go_end0
  exact HQ.out _ _ ⟨rfl, HP.out⟩

set_option maxHeartbeats 400000 in
theorem wbytes_any (B pb : Nat) (ob : Option Nat) (l : List UInt8) (w : World) (hw : Wr B w pb ob l) (hm : l.length ≤ 140737488355328) :
    Calls Try.prog 28 #[.pointer (some ⟨pb, 0, none⟩)] w fun e w' => ∃ u, e = .returned u ∧ w'.ownsRow w.heap.size 5 1 u l.length (c8 l) ∧ Below w.heap.size w w' := by
  obtain ⟨hB, hne, u, rfl, hh, ho⟩ := hw
  have hcell := obj_cell hh 0
  have hfz := obj_frozen hh 0
  obtain ⟨A0, c0, rfl⟩ := own_slice ho
  simp only [List.getElem?_toArray, List.getElem?_cons_zero] at hcell
  have HO := Lib.hid (own_bs ho)
  clear hh ho hne
  refine calls_q fun Q HQ => ?_
  go_enter Try.func28, Try.ntmps28
  go_wp2_with fail
  refine (clone_any _ l w HO.out hm).mono ?_
  rintro e w1 ⟨v, rfl, hv, hb⟩
  have HV := Lib.hid hv
  have HB := Lib.hid hb
  clear hv hb
  go_wp2_with fail
  exact HQ.out _ _ ⟨_, rfl, HV.out, HB.out⟩
/-- a writer just made -/
theorem wr_new (w : World) : Wr w.heap.size (w.alloc (.cells #[.slice none 0 0] 57)) w.heap.size none [] :=
  ⟨Nat.le_refl _, by simp, _, rfl, heap_alloc_new _ _, World.ownsRow_nil _ _ _ _⟩
end Go.Proofs.Ytonkecfgopbclaa
