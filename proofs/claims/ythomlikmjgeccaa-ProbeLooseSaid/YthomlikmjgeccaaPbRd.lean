/- The walks of probe's closures. -/
import Derived.Test.YthomlikmjgeccaaPbBy
import Derived.Deep.RegionWith
namespace Go.Proofs.Ythomlikmjgeccaa
open Go.RowKit

/-- a reader, a description that grows, the boxes of the two, and the byte that says what is told -/
structure PS (lo rb db rx dx sb sv : Nat) (s : RS) (w0 w : World) : Prop where
  rd : Rd lo w rb s.l s.e
  d : w.heap[db]? = some s.d.obj
  r : w.heap[rx]? = some (.cells #[.pointer (some ⟨rb, 0, none⟩)] 43 (0, 0))
  x : w.heap[dx]? = some (.cells #[.pointer (some ⟨db, 0, none⟩)] 50 (0, 0))
  s : w.heap[sb]? = some (.cells #[.int .u64 (sv : Nat)] 45 (0, 0))
  fr : Fr (fun k => k = rb ∨ k = db) w0 w
  o1 : rb < db
  o2 : db < rx
  o3 : db < dx
  o4 : db < sb
section
variable {lo rb db rx dx sb sv : Nat} {s : RS} {w0 w w' : World}
theorem PS.fr0 (h : PS lo rb db rx dx sb sv s w0 w) (hf : Fr F0 w w') : PS lo rb db rx dx sb sv s w0 w' :=
  ⟨h.rd.fr0 hf, hf.heap h.d (fun h => h), hf.heap h.r (fun h => h), hf.heap h.x (fun h => h), hf.heap h.s (fun h => h), h.fr.trans hf (fun _ h => h.elim), h.o1, h.o2, h.o3, h.o4⟩
theorem PS.drewN (h : PS lo rb db rx dx sb sv s w0 w) (n : Nat) : PS lo rb db rx dx sb sv s w0 (w.drewN n) := h.fr0 (Fr.drewN w n)
theorem PS.drew (h : PS lo rb db rx dx sb sv s w0 w) : PS lo rb db rx dx sb sv s w0 w.drew := h.fr0 (Fr.drew w)
theorem PS.alloc (h : PS lo rb db rx dx sb sv s w0 w) (o : Obj) : PS lo rb db rx dx sb sv s w0 (w.alloc o) := h.fr0 (Fr.alloc w o)
theorem PS.step (h : PS lo rb db rx dx sb sv s w0 w) {l : List UInt8} {e : Int} (hp : RPost lo w rb l e w') : PS lo rb db rx dx sb sv ⟨l, e, s.d⟩ w0 w' := by
  have h1 := h.o1; have h2 := h.o2; have h3 := h.o3; have h4 := h.o4
  have hn : ∀ k, rb < k → ¬ F1 rb k := fun k hk (h : k = rb) => by omega
  exact ⟨hp.1, hp.2.heap h.d (hn _ h1), hp.2.heap h.r (hn _ (by omega)), hp.2.heap h.x (hn _ (by omega)), hp.2.heap h.s (hn _ (by omega)), h.fr.trans hp.2 (fun _ h => .inl (.inl h)), h1, h2, h3, h4⟩
theorem PS.put (h : PS lo rb db rx dx sb sv s w0 w) (i : Nat) (v : Value) (d : DD) (hd : s.d.cs.setIfInBounds i v = d.cs) : PS lo rb db rx dx sb sv (s.with d) w0 (w.setCell ⟨db, i, none⟩ v) := by
  have h1 := h.o1; have h2 := h.o2; have h3 := h.o3; have h4 := h.o4
  have hf := Fr.setCell w ⟨db, i, none⟩ v
  have hn : ∀ k, db < k → ¬ F1 (⟨db, i, none⟩ : Addr).block k := fun k hk (h : k = db) => by omega
  have hs := obj_set h.d i v
  rw [hd] at hs
  exact ⟨h.rd.fr hf (fun k _ hk (h : k = db) => by omega), hs, hf.heap h.r (hn _ h2), hf.heap h.x (hn _ h3), hf.heap h.s (hn _ h4), h.fr.trans hf (fun _ h => .inl (.inr h)), h1, h2, h3, h4⟩
theorem PS.cr (h : PS lo rb db rx dx sb sv s w0 w) : w.cell? ⟨rx, 0, none⟩ = some (.pointer (some ⟨rb, 0, none⟩)) := obj_cell h.r 0
theorem PS.cx (h : PS lo rb db rx dx sb sv s w0 w) : w.cell? ⟨dx, 0, none⟩ = some (.pointer (some ⟨db, 0, none⟩)) := obj_cell h.x 0
theorem PS.cs (h : PS lo rb db rx dx sb sv s w0 w) : w.cell? ⟨sb, 0, none⟩ = some (.int .u64 (sv : Nat)) := obj_cell h.s 0
theorem PS.c (h : PS lo rb db rx dx sb sv s w0 w) (i : Nat) : w.cell? ⟨db, i, none⟩ = s.d.cs[i]? := obj_cell h.d i
theorem PS.z (h : PS lo rb db rx dx sb sv s w0 w) (i : Nat) : w.frozen? ⟨db, i, none⟩ = false := obj_frozen h.d i
theorem ps_byte (h : PS lo rb db rx dx sb sv s w0 w) : Calls Try.prog 18 #[.pointer (some ⟨rb, 0, none⟩)] w fun r w' => r = .returned (.int .u8 (s.byte : Nat)) ∧ PS lo rb db rx dx sb sv s.next w0 w' :=
  (rbyte_any lo rb s.l s.e w h.rd).mono fun _ _ hp => ⟨hp.1, h.step hp.2⟩
end
theorem Fr.cell {F : Nat → Prop} {w w' : World} (h : Fr F w w') {a : Addr} {v : Value} (hc : w.cell? a = some v) (hF : ¬ F a.block) : w'.cell? a = some v := by
  have hlt : a.block < w.heap.size := by
    rcases Nat.lt_or_ge a.block w.heap.size with h1 | h1
    · exact h1
    · unfold World.cell? at hc; rw [Array.getElem?_eq_none h1] at hc; cases hc
  rw [World.cell?_of_block (h.block a.block hlt hF)]
  exact hc
theorem byte_lt (s : RS) : s.byte < 256 := by have := rdN_lt 1 s.l; unfold RS.byte; omega

/-! ### told -/
theorem told_no (k n : Nat) (f : Value) (a : Addr) (w : World) (hc : w.cell? a = some (.int .u64 (n : Nat))) (hn : n < 256) (hk : k ≤ 62) (hb : bitN n k = false) :
    Calls Try.prog 33 #[.int .i64 (k : Nat), f, .pointer (some a)] w fun e w' => e = .returned (.int .i64 (-1)) ∧ ∃ j, w' = w.drewN j := by
  have hm := marked_any n k w (u64_lt hn) hk
  rw [hb] at hm
  have HM := Lib.hid hm
  clear hm hb
  refine calls_q fun Q HQ => ?_
  go_enter Try.func33, Try.ntmps33
  go_wp2_with fail
  refine HM.out.mono ?_
  rintro e w1 ⟨rfl, j, rfl⟩
  go_wp2_with fail
  exact HQ.out _ _ ⟨rfl, j, rfl⟩
end Go.Proofs.Ythomlikmjgeccaa
