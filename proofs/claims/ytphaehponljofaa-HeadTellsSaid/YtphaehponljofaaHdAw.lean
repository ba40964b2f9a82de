/- The walk of layer 4's awake. -/
import Derived.Test.YtphaehponljofaaHdSt
import Derived.Test.YtphaehponljofaaHdCut
import Derived.Deep.RegionHeld3
namespace Go.Proofs.Ytphaehponljofaa
open Go.RowKit

/-- the chapter's example -/
def dA : PD := ⟨false, 96, 258, 1, 2, [], false, 0, [], [7]⟩
def bA : List UInt8 := [128, 96, 1, 2, 0, 0, 0, 1, 0, 0, 0, 2, 7]
theorem dA_right : rightB dA = true := by decide
theorem dA_enc : encP dA = bA := by decide
theorem dA_few : dA.Few := ⟨by decide, by decide, by decide⟩
theorem dA_wf : dA.Wf := ⟨by decide, by decide, by decide, by decide, by decide, by decide⟩
theorem dA_read : readE bA = 0 ∧ readP bA = dA := by
  have h := read_cut2 (right_iff.1 dA_right) dA_wf [7] [7] (by decide) (by decide)
  rw [show headB dA ++ [7] = bA by decide] at h
  exact h
theorem nil_read : readE [] = 3 ∧ readP [] = PD.zero := by
  have h : readE [] = 3 := read_short [] (by decide)
  exact ⟨h, by rw [readP, if_neg (by rw [h]; decide)]⟩
/-- a packet of which the call knows where it lies -/
abbrev pA (b : Nat) : Obj := T29o (.bool false) (.int .u8 96) (.int .u16 258) (.int .u32 1) (.int .u32 2) (.slice none 0 0) (.bool false) (.int .u16 0) (.slice none 0 0) (.slice (some ⟨b, 0, none⟩) 1 1)
theorem pvA (w : World) (b : Nat) (h : BS w (.slice (some ⟨b, 0, none⟩) 1 1) [7]) :
    PV w (.agg #[.bool false, .int .u8 96, .int .u16 258, .int .u32 1, .int .u32 2, .slice none 0 0, .bool false, .int .u16 0, .slice none 0 0, .slice (some ⟨b, 0, none⟩) 1 1]) dA :=
  ⟨_, _, _, rfl, SV.nil w, BS.nil w, h⟩
theorem rsame_refl (v u : Value) (l : List UInt8) (w : World) (hv : BS w v l) (hu : BS w u l) :
    Calls Try.prog 14 #[v, u] w fun e w' => e = .returned (.bool true) ∧ Below w.heap.size w w' := by
  refine (rsame_any v u l l w hv hu).mono ?_
  rintro e w' ⟨rfl, n, rfl⟩
  exact ⟨by rw [beq_self_eq_true], below_drewN (Below.refl _ _) n⟩
theorem psame_refl (v u : Value) (a : PD) (w : World) (hv : PV w v a) (hu : PV w u a) :
    Calls Try.prog 15 #[v, u] w fun e w' => e = .returned (.bool true) ∧ Below w.heap.size w w' := by
  refine (psame_any v u a a w hv hu).mono ?_
  rintro e w' ⟨rfl, hb⟩
  exact ⟨by rw [show sameB a a = true from sameB_iff.2 rfl], hb⟩
theorem right_is {b : Bool} (v : Value) (d : PD) (w : World) (hv : PV w v d) (hf : d.Few) (h : rightB d = b) :
    Calls Try.prog 12 #[v] w fun e w' => e = .returned (.bool b) ∧ Below w.heap.size w w' := by
  subst h; exact right_any v d w hv hf
theorem control_is {b : Bool} (v : Value) (l : List UInt8) (w : World) (hv : BS w v l) (h : controlB l = b) :
    Calls Try.prog 16 #[v] w fun e w' => e = .returned (.bool b) ∧ Below w.heap.size w w' := by
  refine (control_any v l w hv).mono ?_
  rintro e w' ⟨rfl, n, rfl⟩
  exact ⟨by rw [h], below_drewN (Below.refl _ _) n⟩
def dP1 : PD := { PD.zero with prof := 1 }
theorem pv_P1 (w : World) : PV w (.agg #[.bool false, .int .u8 0, .int .u16 0, .int .u32 0, .int .u32 0, .slice none 0 0, .bool false, .int .u16 1, .slice none 0 0, .slice none 0 0]) dP1 :=
  ⟨.slice none 0 0, .slice none 0 0, .slice none 0 0, rfl, SV.nil w, BS.nil w, BS.nil w⟩
theorem own_raw (b0 b6 : Bool) (n1 n2 n3 n4 n7 : Int) (A5 A8 A9 : Option Addr) (l5 c5 l8 c8 l9 c9 : Nat) (w : World) :
    Calls Try.prog 9 #[.agg #[.bool b0, .int .u8 n1, .int .u16 n2, .int .u32 n3, .int .u32 n4, .slice A5 l5 c5, .bool b6, .int .u16 n7, .slice A8 l8 c8, .slice A9 l9 c9]] w fun e w' =>
      e = .returned (.agg #[.bool b0, .int .u8 n1, .int .u16 n2, .int .u32 n3, .int .u32 n4, .slice A5 l5 c5, .bool b6, .int .u16 n7, .slice A8 l8 c8, .slice A9 l9 c9]) ∧ Below w.heap.size w w' := by
  refine calls_q fun Q HQ => ?_
  go_enter Try.func9, Try.ntmps9
  go_wp2_with fail
  refine bodyPost_ret (v := .agg #[.bool b0, .int .u8 n1, .int .u16 n2, .int .u32 n3, .int .u32 n4, .slice A5 l5 c5, .bool b6, .int .u16 n7, .slice A8 l8 c8, .slice A9 l9 c9]) (by simp [results, Try.results9, go_sem]; try rfl) rfl ?_
  exact HQ.out _ _ ⟨rfl, (below_alloc _).alloc (by simp) _⟩
set_option maxHeartbeats 8000000 in
theorem awake4_any (w : World) : Calls Try.prog 5 #[] w fun e w' => e = .returned (.bool true) ∧ Below w.heap.size w w' := by
  refine calls_q fun Q HQ => ?_
  have hl7 := BS.lit w [7] 5 (by decide)
  have hs1 := World.size_alloc w (.cells #[.int .u8 7] 5)
  have hb1 : Below w.heap.size w (w.alloc (.cells #[.int .u8 7] 5)) := below_alloc _
  have H7 := Lib.hid (hl7.below (below_alloc (pA w.heap.size)))
  have HX1 := Lib.hid (heap_alloc_new (w.alloc (.cells #[.int .u8 7] 5)) (pA w.heap.size))
  have HB1 := Lib.hid (hb1.alloc hb1.size (pA w.heap.size))
  clear hl7 hb1
  go_enter Try.func5, Try.ntmps5
  go_wp2_with fail
  have hc := hbytes_any _ dA _ (pvA _ w.heap.size H7.out) dA_few dA_wf
  refine hc.mono ?_
  rintro e w2 ⟨u, rfl, hu, hb⟩
  rw [dA_right] at hu ⊢
  rw [if_pos rfl, dA_enc] at hu
  have hu := hu.1
  rw [if_pos rfl]
  have HB2 := Lib.hid (HB1.out.trans (hb.mono HB1.out.size))
  have HX2 := Lib.hid ((Fr.of hb).heap HX1.out (fun h => h))
  have H72 := Lib.hid (H7.out.below hb)
  obtain ⟨Au, cu, rfl, _, _, _⟩ := bs_parts hu
  have HU2 := Lib.hid hu
  clear hc hu hb HB1 HX1 H7
  go_wp2_with fail
  refine (hread_any _ bA _ HU2.out).mono ?_
  rintro e w3 ⟨vq, rfl, hq, hb⟩
  rw [dA_read.1]
  rw [dA_read.2] at hq
  have hq := hq.pv
  have HB3 := Lib.hid (HB2.out.trans (hb.mono HB2.out.size))
  have HX3 := Lib.hid ((Fr.of hb).heap HX2.out (fun h => h))
  have H73 := Lib.hid (H72.out.below hb)
  have HU3 := Lib.hid (HU2.out.below hb)
  obtain ⟨As, cs, Ae, ce, Ap, cp, rfl, _, _, _⟩ := hq.parts
  have HQ3 := Lib.hid hq
  clear hq hb HB2 HX2 H72 HU2
  unfold pcells
  go_wp2_with fail
  have hb4 := below_alloc (w := w3) (.cells #[.bool dA.m, .int .u8 (dA.ty : Nat), .int .u16 (dA.seq : Nat), .int .u32 (dA.st : Nat), .int .u32 (dA.so : Nat), .slice As dA.srcs.length cs, .bool dA.has, .int .u16 (dA.prof : Nat), .slice Ae dA.ex.length ce, .slice Ap dA.pl.length cp] 29 (0, 0))
  have HA0 := Lib.hid (show ASt w (w.heap.size + 1) w3.heap.size _ _ (.slice Au bA.length cu) bA _ dA _ dA (w3.alloc (.cells #[.bool dA.m, .int .u8 (dA.ty : Nat), .int .u16 (dA.seq : Nat), .int .u32 (dA.st : Nat), .int .u32 (dA.so : Nat), .slice As dA.srcs.length cs, .bool dA.has, .int .u16 (dA.prof : Nat), .slice Ae dA.ex.length ce, .slice Ap dA.pl.length cp] 29 (0, 0))) from
    ⟨by have h := (Fr.of hb4).heap HX3.out (fun h => h); rw [World.size_alloc] at h; exact h, heap_alloc_new w3 _, HU3.out.below hb4, pvA _ _ (H73.out.below hb4), HQ3.out.below hb4, HB3.out.trans (hb4.mono HB3.out.size)⟩)
  clear hb4 HX3 HU3 HQ3 HB3 H73
  refine (hread_any _ [] _ (BS.nil _)).mono ?_
  rintro e w5 ⟨vz, rfl, hz, hb⟩
  rw [nil_read.1]
  rw [nil_read.2] at hz
  have hz := hz.pv
  have HA5 := Lib.hid (HA0.out.after hb)
  obtain ⟨Zs, zs, Ze, ze, Zp, zp, rfl, _, _, _⟩ := hz.parts
  unfold pcells
  clear hz hb HA0
  go_wp2_with fail
  have HA := Lib.hid (HA5.out.alloc (.cells #[.bool PD.zero.m, .int .u8 (PD.zero.ty : Nat), .int .u16 (PD.zero.seq : Nat), .int .u32 (PD.zero.st : Nat), .int .u32 (PD.zero.so : Nat), .slice Zs PD.zero.srcs.length zs, .bool PD.zero.has, .int .u16 (PD.zero.prof : Nat), .slice Ze PD.zero.ex.length ze, .slice Zp PD.zero.pl.length zp] 29 (0, 0)))
  clear HA5
  generalize w5.alloc (.cells #[.bool PD.zero.m, .int .u8 (PD.zero.ty : Nat), .int .u16 (PD.zero.seq : Nat), .int .u32 (PD.zero.st : Nat), .int .u32 (PD.zero.so : Nat), .slice Zs PD.zero.srcs.length zs, .bool PD.zero.has, .int .u16 (PD.zero.prof : Nat), .slice Ze PD.zero.ex.length ze, .slice Zp PD.zero.pl.length zp] 29 (0, 0)) = wz at *
  generalize w.heap.size + 1 = b1 at *
  generalize w3.heap.size = b3 at *
  unfold pcells at *
  go_region_held3 (fun w' => ASt w b1 b3 (.cells #[.bool false, .int .u8 96, .int .u16 258, .int .u32 1, .int .u32 2, .slice none 0 0, .bool false, .int .u16 0, .slice none 0 0, .slice (some ⟨w.heap.size, 0, none⟩) 1 1] 29 (0, 0)) (.cells #[.bool dA.m, .int .u8 (dA.ty : Nat), .int .u16 (dA.seq : Nat), .int .u32 (dA.st : Nat), .int .u32 (dA.so : Nat), .slice As dA.srcs.length cs, .bool dA.has, .int .u16 (dA.prof : Nat), .slice Ae dA.ex.length ce, .slice Ap dA.pl.length cp] 29 (0, 0)) (.slice Au bA.length cu) bA (.agg #[.bool false, .int .u8 96, .int .u16 258, .int .u32 1, .int .u32 2, .slice none 0 0, .bool false, .int .u16 0, .slice none 0 0, .slice (some ⟨w.heap.size, 0, none⟩) 1 1]) dA (.agg #[.bool dA.m, .int .u8 (dA.ty : Nat), .int .u16 (dA.seq : Nat), .int .u32 (dA.st : Nat), .int .u32 (dA.so : Nat), .slice As dA.srcs.length cs, .bool dA.has, .int .u16 (dA.prof : Nat), .slice Ae dA.ex.length ce, .slice Ap dA.pl.length cp]) dA w' ∧ w'.cell? ⟨b1, 0, none⟩ = some (.bool false) ∧ w'.cell? ⟨b1, 1, none⟩ = some (.int .u8 96) ∧ w'.cell? ⟨b1, 2, none⟩ = some (.int .u16 258) ∧ w'.cell? ⟨b1, 3, none⟩ = some (.int .u32 1) ∧ w'.cell? ⟨b1, 4, none⟩ = some (.int .u32 2) ∧ w'.cell? ⟨b1, 5, none⟩ = some (.slice none 0 0) ∧ w'.cell? ⟨b1, 6, none⟩ = some (.bool false) ∧ w'.cell? ⟨b1, 7, none⟩ = some (.int .u16 0) ∧ w'.cell? ⟨b1, 8, none⟩ = some (.slice none 0 0) ∧ w'.cell? ⟨b1, 9, none⟩ = some (.slice (some ⟨w.heap.size, 0, none⟩) 1 1) ∧ w'.cell? ⟨b3, 0, none⟩ = some (.bool dA.m) ∧ w'.cell? ⟨b3, 1, none⟩ = some (.int .u8 (dA.ty : Nat)) ∧ w'.cell? ⟨b3, 2, none⟩ = some (.int .u16 (dA.seq : Nat)) ∧ w'.cell? ⟨b3, 3, none⟩ = some (.int .u32 (dA.st : Nat)) ∧ w'.cell? ⟨b3, 4, none⟩ = some (.int .u32 (dA.so : Nat)) ∧ w'.cell? ⟨b3, 5, none⟩ = some (.slice As dA.srcs.length cs) ∧ w'.cell? ⟨b3, 6, none⟩ = some (.bool dA.has) ∧ w'.cell? ⟨b3, 7, none⟩ = some (.int .u16 (dA.prof : Nat)) ∧ w'.cell? ⟨b3, 8, none⟩ = some (.slice Ae dA.ex.length ce) ∧ w'.cell? ⟨b3, 9, none⟩ = some (.slice Ap dA.pl.length cp)) (first | exact (((‹ASt w b1 b3 _ _ _ _ _ _ _ _ _ ∧ _›).1).after (by assumption)).cells | exact (((‹ASt w b1 b3 _ _ _ _ _ _ _ _ _ ∧ _›).1).alloc _).cells | exact (HA.out.drew).cells) (first
    | (go_at_call 14; have hh := (‹ASt w b1 b3 _ _ _ _ _ _ _ _ _ ∧ _›).1; refine (rsame_refl _ _ bA _ hh.u (BS.lit _ bA 5 (by decide))).mono ?_; rintro e w9 ⟨rfl, hb⟩; clear hh)
    | (go_at_call 9; have hh := (‹ASt w b1 b3 _ _ _ _ _ _ _ _ _ ∧ _›).1; refine (own_raw _ _ _ _ _ _ _ _ _ _ _ _ _ _ _ _ _).mono ?_; rintro e w9 ⟨rfl, hb⟩; clear hh)
    | (go_at_call 15; have hh := (‹ASt w b1 b3 _ _ _ _ _ _ _ _ _ ∧ _›).1; refine (psame_refl _ _ dA _ hh.p1 hh.p4).mono ?_; rintro e w9 ⟨rfl, hb⟩; clear hh)
    | (go_at_call_of 12 w; have hh := (‹ASt w b1 b3 _ _ _ _ _ _ _ _ _ ∧ _›).1; refine (right_is _ dA _ hh.p1 dA_few dA_right).mono ?_; rintro e w9 ⟨rfl, hb⟩; clear hh)
    | (go_at_call 12; have hh := (‹ASt w b1 b3 _ _ _ _ _ _ _ _ _ ∧ _›).1; refine (right_is (b := false) _ dP1 _ (pv_P1 _) ⟨by decide, by decide, by decide⟩ (by decide)).mono ?_; rintro e w9 ⟨rfl, hb⟩; clear hh)
    | (go_at_call_of 16 Au; have hh := (‹ASt w b1 b3 _ _ _ _ _ _ _ _ _ ∧ _›).1; refine (control_is (b := false) _ bA _ hh.u (by decide)).mono ?_; rintro e w9 ⟨rfl, hb⟩; clear hh)
    | (go_at_call 16; have hh := (‹ASt w b1 b3 _ _ _ _ _ _ _ _ _ ∧ _›).1; refine (control_is (b := true) _ [0, 200] _ (BS.lit _ [0, 200] 5 (by decide)) (by decide)).mono ?_; rintro e w9 ⟨rfl, hb⟩; clear hh))
  have hh := (‹ASt w b1 b3 _ _ _ _ _ _ _ _ _ ∧ _›).1
  go_wp2_with fail
  exact HQ.out _ _ ⟨rfl, hh.below⟩
end Go.Proofs.Ytphaehponljofaa
