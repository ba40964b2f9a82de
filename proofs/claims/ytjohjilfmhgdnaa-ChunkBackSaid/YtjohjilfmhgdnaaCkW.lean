/- The walk of write: a chunk's bytes onto a writer. -/
import Derived.Test.YtjohjilfmhgdnaaCk
import Derived.Test.YtjohjilfmhgdnaaWireW
import Derived.Test.YtjohjilfmhgdnaaBLay
namespace Go.Proofs.Ytjohjilfmhgdnaa
open Go.RowKit

/-- a writer beside an object that stays, both since a call began -/
structure CW (B pb bx : Nat) (o : Obj) (ob0 : Option Nat) (w0 : World) (ob : Option Nat) (l : List UInt8) (w : World) : Prop where
  wr : Wr B w pb ob l
  box : w.heap[bx]? = some o
  nb : ¬ WF pb ob bx
  fr : Fr (WF pb ob0) w0 w
  ob : ob = ob0 ∨ ∃ k, ob = some k ∧ w0.heap.size ≤ k
section
variable {B pb bx : Nat} {o : Obj} {ob0 ob : Option Nat} {w0 w w' : World} {l l' : List UInt8}
theorem CW.step (h : CW B pb bx o ob0 w0 ob l w) (hp : WPost B w pb ob l' w') : ∃ ob', CW B pb bx o ob0 w0 ob' l' w' := by
  obtain ⟨ob', hw, hf, ho⟩ := hp
  have hlt := obj_lt h.box
  have hsz := h.fr.size
  refine ⟨ob', hw, hf.heap h.box h.nb, ?_, h.fr.trans hf (fun x hx => ?_), ?_⟩
  · rintro (hx | hx)
    · exact h.nb (.inl hx)
    · rcases ho with ho | ⟨k, ho, hk⟩
      · exact h.nb (.inr (by rw [← ho]; exact hx))
      · rw [ho] at hx; injection hx with hx; omega
  · rcases hx with hx | hx
    · exact .inl (.inl hx)
    · rcases h.ob with ho | ⟨k, ho, hk⟩
      · exact .inl (.inr (by rw [← ho]; exact hx))
      · rw [ho] at hx; injection hx with hx; exact .inr (by omega)
  · rcases ho with ho | ⟨k, ho, hk⟩
    · rw [ho]; exact h.ob
    · exact .inr ⟨k, ho, by omega⟩
theorem CW.post (h : CW B pb bx o ob0 w0 ob l w) : WPost B w0 pb ob0 l w := ⟨ob, h.wr, h.fr, h.ob⟩
theorem CW.new (h : Wr B w pb ob l) {cs : Array Value} {t : TypeId} : CW B pb w.heap.size (.cells cs t (0, 0)) ob w ob l (w.alloc (.cells cs t)) := by
  have hf := Fr.alloc w (.cells cs t)
  refine ⟨h.fr0 hf, heap_alloc_new _ _, fun hx => by have := (h.lt _ hx).2; omega, hf.mono (fun _ h => h.elim), .inl rfl⟩
theorem CW.bs (h : CW B pb bx o ob0 w0 ob l w) (hw : Wr B w0 pb ob0 l') {v : Value} {b : List UInt8} (hb : BSx (fun k => k < B) w0 v b) : BS w v b :=
  (hb.fr h.fr (fun k _ hk hF => by have := (hw.lt k hF).1; omega)).1
end
theorem lay_count : ∀ n : Fin 32, layN n.1 6 2 2 = 128 + n.1 := by decide +kernel
theorem layc (n : Nat) (h : n ≤ 31) : layN n 6 2 2 = 128 + n := lay_count ⟨n, by omega⟩
set_option maxHeartbeats 1000000 in
theorem cwrite_any (B pb : Nat) (ob : Option Nat) (l : List UInt8) (n y : Nat) (A : Option Addr) (c : Nat) (b : List UInt8) (w : World) (hw : Wr B w pb ob l) (hb : BSx (fun k => k < B) w (.slice A b.length c) b)
    (hr : rightC (n, y, b) = true) (hy : y < 256) (hl : l.length ≤ 100000) :
    Calls Try.prog 17 #[.pointer (some ⟨pb, 0, none⟩), .agg #[.int .u8 (n : Nat), .int .u8 (y : Nat), .slice A b.length c]] w fun e w' => e = .returned (.tuple #[]) ∧ WPost B w pb ob (l ++ encC (n, y, b)) w' := by
  have hri := right_iffC.1 hr
  simp only at hri
  obtain ⟨r1, r2, r3⟩ := hri
  have hs := CW.new hw (cs := #[.int .u8 (n : Nat), .int .u8 (y : Nat), .slice A b.length c]) (t := 37)
  have HS := Lib.hid hs
  have HB := Lib.hid (fun ob' l' w' (h : CW B pb w.heap.size (.cells #[.int .u8 (n : Nat), .int .u8 (y : Nat), .slice A b.length c] 37 (0, 0)) ob w ob' l' w') => h.bs hw hb)
  have hlay := fun w => lay_any (n : Nat) 6 2 2 w ⟨by omega, by omega⟩ ⟨by omega, by omega⟩
  rw [Int.toNat_natCast, show (2 : Int).toNat = 2 from rfl, layc n r1] at hlay
  have HLay := Lib.hid hlay
  have hu := u64_id (n := (n : Int)) ⟨by omega, by omega⟩
  have hw8 : IntKind.u8.wrap ((128 + n : Nat) : Int) = ((128 + n : Nat) : Int) := by rw [wrap_u8]; omega
  obtain ⟨x, hx⟩ : ∃ x : Nat, x = 128 + n := ⟨_, rfl⟩
  obtain ⟨u, hu4⟩ : ∃ u : Nat, u = b.length / 4 := ⟨_, rfl⟩
  have hu2 : u ≤ 49 := by omega
  have hq : (b.length : Int) / 4 = (u : Nat) := by omega
  have hx9 : x < 256 := by omega
  rw [← hx] at hw8 HLay
  have HE := Lib.hid (show l ++ encC (n, y, b) = l ++ bytesI x 1 ++ bytesI y 1 ++ bytesI u 2 ++ b by rw [encC, headC, hx, hu4]; simp)
  clear hw hb hr hs hlay hx hu4 r1
  refine calls_q fun Q HQ => ?_
  go_enter Try.func17, Try.ntmps17
  go_wp2_with fail
  refine (HLay.out _).mono ?_
  rintro e w1 ⟨rfl, rfl⟩
  go_wp2_with fail
  generalize w.alloc (.cells #[.int .u8 (n : Nat), .int .u8 (y : Nat), .slice A b.length c] 37) = wa at *
  generalize w.heap.size = bx at *
  refine (wbyte_any B pb ob l x wa HS.out.wr ⟨by omega, by omega⟩ (by omega)).mono ?_
  rintro e w2 ⟨rfl, hp⟩
  rw [Int.toNat_natCast] at hp
  obtain ⟨o2, h2⟩ := HS.out.step hp
  have k0 := obj_cell h2.box 1
  simp only [List.getElem?_toArray, List.getElem?_cons_succ, List.getElem?_cons_zero] at k0
  have H2 := Lib.hid h2
  clear HS hp h2
  go_wp2_with fail
  refine (wbyte_any B pb o2 _ y w2 H2.out.wr ⟨by omega, by omega⟩ (by rw [List.length_append, bytesI1]; simp; omega)).mono ?_
  rintro e w3 ⟨rfl, hp⟩
  rw [Int.toNat_natCast] at hp
  obtain ⟨o3, h3⟩ := H2.out.step hp
  have k2 := obj_cell h3.box 2
  simp only [List.getElem?_toArray, List.getElem?_cons_succ, List.getElem?_cons_zero] at k2
  have H3 := Lib.hid h3
  clear H2 hp h3 k0
  go_wp2_with fail
  refine (wshort_any B pb o3 _ u w3 H3.out.wr ⟨by omega, by omega⟩ (by rw [List.length_append, List.length_append, bytesI1, bytesI1]; simp; omega)).mono ?_
  rintro e w4 ⟨rfl, hp⟩
  rw [Int.toNat_natCast] at hp
  obtain ⟨o4, h4⟩ := H3.out.step hp
  have k3 := obj_cell h4.box 2
  simp only [List.getElem?_toArray, List.getElem?_cons_succ, List.getElem?_cons_zero] at k3
  have H4 := Lib.hid h4
  clear H3 hp h4 k2
  go_wp2_with fail
  refine (wraw_any B pb o4 _ _ b w4 H4.out.wr (HB.out _ _ _ H4.out) (by rw [List.length_append, List.length_append, List.length_append, bytesI1, bytesI1, bytesI2]; simp; omega)).mono ?_
  rintro e w5 ⟨rfl, hp⟩
  obtain ⟨o5, h5⟩ := H4.out.step hp
  have H5 := Lib.hid h5
  clear H4 hp h5 k3
  go_wp2_with fail
  go_end0
  refine HQ.out _ _ ⟨rfl, ?_⟩
  rw [HE.out]
  exact H5.out.post
end Go.Proofs.Ytjohjilfmhgdnaa
