/- The walk of layer 7's awake. -/
import Derived.Test.YtjohjilfmhgdnaaCkJ
import Derived.Test.YtjohjilfmhgdnaaCkSp
import Derived.Test.YtjohjilfmhgdnaaCkSm
namespace Go.Proofs.Ytjohjilfmhgdnaa
open Go.RowKit

/-- the chapter's example -/
def bA : List UInt8 := [129, 200, 0, 1, 1, 2, 3, 4]
def dA : DC := (1, 200, [1, 2, 3, 4])
def tA (b : Nat) : Ck := ⟨1, 200, .slice (some ⟨b, 0, none⟩) 4 4, [1, 2, 3, 4]⟩
theorem dA_right : rightC dA = true := by decide
theorem dA_enc : encs [dA] = bA := by decide
theorem dA_jo : joE [dA] = 0 ∧ joB [dA] = bA := by decide
theorem ckA (w : World) (b : Nat) (t : TypeId) (h : BS w (.slice (some ⟨b, 0, none⟩) 4 4) [1, 2, 3, 4]) :
    CkS (w.alloc (.cells #[.int .u8 1, .int .u8 200, .slice (some ⟨b, 0, none⟩) 4 4] t)) (.slice (some ⟨w.heap.size, 0, none⟩) 1 1) [tA b] := by
  have ho := own_lit w 0 t 3 1 (cellsC [tA b]) rfl (Nat.zero_le _) (by decide)
  refine own_chunks rfl ho (fun x hx => ?_)
  obtain rfl := List.mem_singleton.1 hx
  exact ⟨by show 1 < 256; decide, by show 200 < 256; decide, h.below (below_alloc _)⟩
theorem ckB (w : World) (b : Nat) (t : TypeId) (h : BS (w.alloc (.cells #[.int .u8 1, .int .u8 200, .slice (some ⟨b, 0, none⟩) 4 4] t)) (.slice (some ⟨b, 0, none⟩) 4 4) [1, 2, 3, 4]) :
    CkS (w.alloc (.cells #[.int .u8 1, .int .u8 200, .slice (some ⟨b, 0, none⟩) 4 4] t)) (.slice (some ⟨w.heap.size, 0, none⟩) 1 1) [tA b] := by
  have ho := own_lit w 0 t 3 1 (cellsC [tA b]) rfl (Nat.zero_le _) (by decide)
  refine own_chunks rfl ho (fun x hx => ?_)
  obtain rfl := List.mem_singleton.1 hx
  exact ⟨by show 1 < 256; decide, by show 200 < 256; decide, h⟩
theorem split_A {z : Int} {es : List DC} (h : SpR bA z es) : z = 0 ∧ es = [dA] :=
  h.back [dA] (by simp) (by decide) (by intro d hd; rw [List.mem_singleton.1 hd]; show 200 < 256; decide) (by decide) dA_enc.symm
abbrev boxA (b : Nat) : Obj := .cells #[.int .u8 1, .int .u8 200, .slice (some ⟨b, 0, none⟩) 4 4] 37 (0, 0)
structure AwS (w0 : World) (bx b : Nat) (u : Value) (m : Value) (tm : List Ck) (w : World) : Prop where
  c : w.heap[bx]? = some (boxA b)
  v : BS w (.slice (some ⟨b, 0, none⟩) 4 4) [1, 2, 3, 4]
  u : BS w u bA
  m : CkS w m tm
  below : Below w0.heap.size w0 w
theorem AwS.after {w0 w w' : World} {bx b : Nat} {u m : Value} {tm : List Ck} (h : AwS w0 bx b u m tm w) (hb : Below w.heap.size w w') : AwS w0 bx b u m tm w' :=
  ⟨(Fr.of hb).heap h.c (fun h => h), h.v.below hb, h.u.below hb, h.m.below hb, h.below.trans (hb.mono h.below.size)⟩
theorem AwS.alloc {w0 w : World} {bx b : Nat} {u m : Value} {tm : List Ck} (h : AwS w0 bx b u m tm w) (o : Obj) : AwS w0 bx b u m tm (w.alloc o) := h.after (below_alloc o)
theorem AwS.drew {w0 w : World} {bx b : Nat} {u m : Value} {tm : List Ck} (h : AwS w0 bx b u m tm w) : AwS w0 bx b u m tm w.drew := h.after (below_drewN (Below.refl _ _) 1)
theorem AwS.cells {w0 w : World} {bx b : Nat} {u m : Value} {tm : List Ck} (h : AwS w0 bx b u m tm w) :
    AwS w0 bx b u m tm w ∧ w.cell? ⟨bx, 0, none⟩ = some (.int .u8 1) ∧ w.cell? ⟨bx, 1, none⟩ = some (.int .u8 200) ∧ w.cell? ⟨bx, 2, none⟩ = some (.slice (some ⟨b, 0, none⟩) 4 4) := by
  have k := obj_cell h.c
  exact ⟨h, k 0, k 1, k 2⟩
theorem cright_is {r : Bool} (n y : Nat) (A : Option Addr) (c k : Nat) (b : List UInt8) (w : World) (hk : b.length = k) (hb : k ≤ 9223372036854775000) (h : rightC (n, y, b) = r) :
    Calls Try.prog 11 #[.agg #[.int .u8 (n : Nat), .int .u8 (y : Nat), .slice A k c]] w fun e w' => e = .returned (.bool r) ∧ Below w.heap.size w w' := by
  subst h; subst hk; exact cright_any n y A c b w hb
set_option maxHeartbeats 4000000 in
theorem awake7_any (w : World) : Calls Try.prog 4 #[] w fun e w' => e = .returned (.bool true) ∧ Below w.heap.size w w' := by
  refine calls_q fun Q HQ => ?_
  have hb1 : Below w.heap.size w (w.alloc (.cells #[.int .u8 1, .int .u8 2, .int .u8 3, .int .u8 4] 5)) := below_alloc _
  have h4 := BS.lit w [1, 2, 3, 4] 5 (by decide)
  have hsz : (w.alloc (.cells #[.int .u8 1, .int .u8 2, .int .u8 3, .int .u8 4] 5)).heap.size = w.heap.size + 1 := by rw [World.size_alloc]
  have hbx := heap_alloc_new (w.alloc (.cells #[.int .u8 1, .int .u8 2, .int .u8 3, .int .u8 4] 5)) (boxA w.heap.size)
  rw [hsz] at hbx
  have hb2 := hb1.alloc hb1.size (boxA w.heap.size)
  have h42 := h4.below (below_alloc (w := w.alloc (.cells #[.int .u8 1, .int .u8 2, .int .u8 3, .int .u8 4] 5)) (boxA w.heap.size))
  have H4 := Lib.hid h42
  have HX := Lib.hid hbx
  have HB := Lib.hid hb2
  have HSz := Lib.hid hsz
  clear hb1 h4 hsz hbx hb2 h42
  go_enter Try.func4, Try.ntmps4
  go_upto_region 2 with fail
  simp only [boxA, List.length_cons, List.length_nil] at H4 HX HB
  generalize hW : (w.alloc (.cells #[.int .u8 1, .int .u8 2, .int .u8 3, .int .u8 4] 5)).alloc (.cells #[.int .u8 1, .int .u8 200, .slice (some ⟨w.heap.size, 0, none⟩) 4 4] 37) = wx at *
  generalize w.heap.size + 1 = bx at *
  clear hW HSz
  have k0 := obj_cell HX.out 0
  have k1 := obj_cell HX.out 1
  have k2 := obj_cell HX.out 2
  simp only [List.getElem?_toArray, List.getElem?_cons_succ, List.getElem?_cons_zero] at k0 k1 k2
  have HC := Lib.hid (ckA wx w.heap.size 37 H4.out)
  go_wp2_with fail
  have hc := cjoin_any _ _ _ HC.out (by show 1 ≤ 1000; decide) (by intro t ht; rw [List.mem_singleton.1 ht]; show 4 ≤ 1000; decide)
  rw [show ds [tA w.heap.size] = [dA] from rfl] at hc
  unfold JoPost at hc
  rw [dA_jo.1, dA_jo.2] at hc
  refine hc.mono ?_
  rintro e w2 ⟨u, rfl, hu, hb⟩
  have hb1 := (below_alloc (w := wx) (.cells #[.int .u8 1, .int .u8 200, .slice (some ⟨w.heap.size, 0, none⟩) 4 4] 37)).trans (hb.mono (by simp))
  have H42 := Lib.hid (H4.out.below hb1)
  have HX2 := Lib.hid ((Fr.of hb1).heap HX.out (fun h => h))
  have HB2 := Lib.hid (HB.out.trans (hb1.mono HB.out.size))
  have HU2 := Lib.hid hu
  clear hc hu hb hb1 k0 k1 k2 H4 HX HB HC
  go_wp2_with fail
  refine (csplit_any _ bA _ HU2.out).mono ?_
  rintro e w3 ⟨m, z, tm, rfl, hm, hb, hr⟩
  obtain ⟨rfl, hds⟩ := split_A hr
  have HA3 := Lib.hid (show AwS w bx w.heap.size u m tm w3 from ⟨(Fr.of hb).heap HX2.out (fun h => h), H42.out.below hb, HU2.out.below hb, hm, HB2.out.trans (hb.mono HB2.out.size)⟩)
  have HDs := Lib.hid hds
  clear hm hb hr hds H42 HX2 HB2 HU2
  go_wp2_with fail
  refine (csplit_any _ [] _ (BS.nil _)).mono ?_
  rintro e w4 ⟨m2, z2, tm2, rfl, _, hb, hr⟩
  obtain rfl := hr.none rfl
  have HA := Lib.hid (HA3.out.after hb)
  clear hr hb HA3
  go_upto_region 5 with fail
  generalize w.heap.size = b0 at HA ⊢
  have hlm : tm.length ≤ 1000 := by have h := congrArg List.length HDs.out; rw [ds_len] at h; rw [h]; decide
  have HLm := Lib.hid hlm
  have HEq := Lib.hid (show decide (ds tm = ds [tA b0]) = true from decide_eq_true HDs.out)
  clear hlm
  go_region_held3 (fun w' => AwS w bx b0 u m tm w' ∧ w'.cell? ⟨bx, 0, none⟩ = some (.int .u8 1) ∧ w'.cell? ⟨bx, 1, none⟩ = some (.int .u8 200) ∧ w'.cell? ⟨bx, 2, none⟩ = some (.slice (some ⟨b0, 0, none⟩) 4 4)) (first | exact (((‹AwS w bx b0 u m tm _ ∧ _›).1).after (by assumption)).cells | exact (((‹AwS w bx b0 u m tm _ ∧ _›).1).alloc _).cells | exact (HA.out.drew).cells) (first
    | (go_at_call 8; have hh := (‹AwS w bx b0 u m tm _ ∧ _›).1; refine (rsame_is (r := true) _ _ bA bA _ hh.u (BS.lit _ bA 5 (by decide)) (by decide)).mono ?_; rintro e w9 ⟨rfl, hb⟩; clear hh)
    | (go_at_call 10; have hh := (‹AwS w bx b0 u m tm _ ∧ _›).1; refine (cown_any _ tm _ hh.m HLm.out).mono ?_; rintro e w9 ⟨ol, rfl, hol, hb⟩; have HO := Lib.hid hol; (first | have HLit := Lib.hid ((ckB _ _ 38 hh.v).below hb) | skip); clear hh hol)
    | (go_at_call 9; have hh := (‹AwS w bx b0 u m tm _ ∧ _›).1; (first | refine (csame_is (r := true) _ _ tm [tA b0] _ (HO.out.below (below_alloc _)) (ckB _ _ _ hh.v) HEq.out).mono ?_ | refine (csame_is (r := true) _ _ tm [tA b0] _ HO.out HLit.out HEq.out).mono ?_); rintro e w9 ⟨rfl, hb⟩; clear hh)
    | (go_at_call_of 11 b0; refine (cright_is (r := true) 1 200 _ _ 4 [1, 2, 3, 4] _ rfl (by decide) (by decide)).mono ?_; rintro e w9 ⟨rfl, hb⟩)
    | (go_at_call 11; refine (cright_is (r := false) 32 0 none 0 0 [] _ rfl (by decide) (by decide)).mono ?_; rintro e w9 ⟨rfl, hb⟩))
  all_goals
    have hh := (‹AwS w bx b0 u m tm _ ∧ _›).1
    go_wp2_with fail
    exact HQ.out _ _ ⟨rfl, hh.below⟩
end Go.Proofs.Ytjohjilfmhgdnaa
