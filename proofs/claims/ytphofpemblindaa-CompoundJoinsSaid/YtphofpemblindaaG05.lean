/- Laid together: RpW, WireR3, WireR4, RpR, RpV, Nv, RpWr, CkRt. -/
import Derived.Test.YtphofpemblindaaG02
import Derived.Test.YtphofpemblindaaG04
import Derived.Test.YtphofpemblindaaG01
import Derived.Deep.RegionHeld3
import Derived.Deep.Cut
import Derived.Deep.DeepCutAuto
/- The walks of writeInfo and writeBlock: numbers onto a writer. -/
namespace Go.Proofs.Ytphofpemblindaa
open Go.RowKit

theorem cells5 {w : World} {b : Nat} {x0 x1 x2 x3 x4 : Value} {t : TypeId} (h : w.heap[b]? = some (.cells #[x0, x1, x2, x3, x4] t (0, 0))) :
    w.cell? ⟨b, 0, none⟩ = some x0 ∧ w.cell? ⟨b, 1, none⟩ = some x1 ∧ w.cell? ⟨b, 2, none⟩ = some x2 ∧ w.cell? ⟨b, 3, none⟩ = some x3 ∧ w.cell? ⟨b, 4, none⟩ = some x4 := by
  have k := obj_cell h
  exact ⟨k 0, k 1, k 2, k 3, k 4⟩
theorem cells7 {w : World} {b : Nat} {x0 x1 x2 x3 x4 x5 x6 : Value} {t : TypeId} (h : w.heap[b]? = some (.cells #[x0, x1, x2, x3, x4, x5, x6] t (0, 0))) :
    w.cell? ⟨b, 0, none⟩ = some x0 ∧ w.cell? ⟨b, 1, none⟩ = some x1 ∧ w.cell? ⟨b, 2, none⟩ = some x2 ∧ w.cell? ⟨b, 3, none⟩ = some x3 ∧ w.cell? ⟨b, 4, none⟩ = some x4 ∧ w.cell? ⟨b, 5, none⟩ = some x5 ∧ w.cell? ⟨b, 6, none⟩ = some x6 := by
  have k := obj_cell h
  exact ⟨k 0, k 1, k 2, k 3, k 4, k 5, k 6⟩
/-- a number of four bytes, of a field -/
theorem wnum_n (B pb : Nat) (ob : Option Nat) (l : List UInt8) (n : Nat) (w : World) (hw : Wr B w pb ob l) (hn : n < 4294967296) (hm : l.length ≤ 140737488300000) :
    Calls Try.prog 75 #[.pointer (some ⟨pb, 0, none⟩), .int .u32 (n : Nat)] w fun e w' => e = .returned (.tuple #[]) ∧ WPost B w pb ob (l ++ bytesL n 4) w' := by
  have h := wnum_any B pb ob l n w hw ⟨by omega, by omega⟩ hm
  rw [Int.toNat_natCast, show (bytesI n 4) = bytesL n 4 from bytesI_n n 4 (by decide)] at h
  exact h
theorem wbyte_n (B pb : Nat) (ob : Option Nat) (l : List UInt8) (n : Nat) (w : World) (hw : Wr B w pb ob l) (hn : n < 256) (hm : l.length ≤ 140737488300000) :
    Calls Try.prog 62 #[.pointer (some ⟨pb, 0, none⟩), .int .u8 (n : Nat)] w fun e w' => e = .returned (.tuple #[]) ∧ WPost B w pb ob (l ++ bytesL n 1) w' := by
  have h := wbyte_any B pb ob l n w hw ⟨by omega, by omega⟩ hm
  rw [Int.toNat_natCast, show (bytesI n 1) = bytesL n 1 from bytesI_n n 1 (by decide)] at h
  exact h
theorem wthree_m (B pb : Nat) (ob : Option Nat) (l : List UInt8) (m : Int) (w : World) (hw : Wr B w pb ob l) (hm : l.length ≤ 140737488300000) :
    Calls Try.prog 83 #[.pointer (some ⟨pb, 0, none⟩), .int .u32 (IntKind.u32.wrap m)] w fun e w' => e = .returned (.tuple #[]) ∧ WPost B w pb ob (l ++ bytesL (m24 m) 3) w' := by
  have hb : bytesL (m24 m) 3 = bytesI (IntKind.u32.wrap m).toNat 3 := by
    rw [show bytesI (IntKind.u32.wrap m).toNat 3 = bytesL (IntKind.u32.wrap m).toNat 3 from bytesI_n _ 3 (by decide), ← bytesL_mod (IntKind.u32.wrap m).toNat 3]
    congr 1
    rw [wrap_u32]
    unfold m24
    omega
  rw [hb]
  exact wthree_any B pb ob l _ w hw ⟨by rw [wrap_u32]; omega, by rw [wrap_u32]; omega⟩ hm
set_option maxHeartbeats 1000000 in
theorem winfo_any (B pb : Nat) (ob : Option Nat) (l : List UInt8) (i0 i1 i2 i3 i4 : Nat) (w : World) (hw : Wr B w pb ob l) (a0 : i0 < 4294967296) (a1 : i1 < 4294967296) (a2 : i2 < 4294967296) (a3 : i3 < 4294967296) (a4 : i4 < 4294967296) (hl : l.length ≤ 100000) :
    Calls Try.prog 76 #[.pointer (some ⟨pb, 0, none⟩), .agg #[.int .u32 (i0 : Nat), .int .u32 (i1 : Nat), .int .u32 (i2 : Nat), .int .u32 (i3 : Nat), .int .u32 (i4 : Nat)]] w fun e w' => e = .returned (.tuple #[]) ∧ WPost B w pb ob (l ++ (encI ⟨true, 0, i0, i1, i2, i3, i4, []⟩)) w' := by
  have HS := Lib.hid (CW.new hw (cs := #[.int .u32 (i0 : Nat), .int .u32 (i1 : Nat), .int .u32 (i2 : Nat), .int .u32 (i3 : Nat), .int .u32 (i4 : Nat)]) (t := 31))
  have HE := Lib.hid (show l ++ (encI ⟨true, 0, i0, i1, i2, i3, i4, []⟩) = l ++ bytesL i0 4 ++ bytesL i1 4 ++ bytesL i2 4 ++ bytesL i3 4 ++ bytesL i4 4 by simp [encI])
  clear hw
  refine calls_q fun Q HQ => ?_
  rw [HE.out] at HQ
  clear HE
  go_enter Try.func76, Try.ntmps76
  go_wp2_with fail
  generalize w.alloc (.cells #[.int .u32 (i0 : Nat), .int .u32 (i1 : Nat), .int .u32 (i2 : Nat), .int .u32 (i3 : Nat), .int .u32 (i4 : Nat)] 31) = w1 at *
  generalize w.heap.size = bx at *
  refine (wnum_n B pb ob _ i0 w1 HS.out.wr a0 (by omega)).mono ?_
  rintro e w2 ⟨rfl, hp⟩
  obtain ⟨o2, h2⟩ := HS.out.step hp
  have H2 := Lib.hid h2
  clear HS hp h2
  obtain ⟨k0, k1, k2, k3, k4⟩ := cells5 H2.out.box
  go_wp2_with fail
  refine (wnum_n B pb o2 _ i1 w2 H2.out.wr a1 (by simp only [List.length_append, bytesL_len]; omega)).mono ?_
  rintro e w3 ⟨rfl, hp⟩
  obtain ⟨o3, h3⟩ := H2.out.step hp
  have H3 := Lib.hid h3
  clear H2 hp h3 k0 k1 k2 k3 k4
  obtain ⟨k0, k1, k2, k3, k4⟩ := cells5 H3.out.box
  go_wp2_with fail
  refine (wnum_n B pb o3 _ i2 w3 H3.out.wr a2 (by simp only [List.length_append, bytesL_len]; omega)).mono ?_
  rintro e w4 ⟨rfl, hp⟩
  obtain ⟨o4, h4⟩ := H3.out.step hp
  have H4 := Lib.hid h4
  clear H3 hp h4 k0 k1 k2 k3 k4
  obtain ⟨k0, k1, k2, k3, k4⟩ := cells5 H4.out.box
  go_wp2_with fail
  refine (wnum_n B pb o4 _ i3 w4 H4.out.wr a3 (by simp only [List.length_append, bytesL_len]; omega)).mono ?_
  rintro e w5 ⟨rfl, hp⟩
  obtain ⟨o5, h5⟩ := H4.out.step hp
  have H5 := Lib.hid h5
  clear H4 hp h5 k0 k1 k2 k3 k4
  obtain ⟨k0, k1, k2, k3, k4⟩ := cells5 H5.out.box
  go_wp2_with fail
  refine (wnum_n B pb o5 _ i4 w5 H5.out.wr a4 (by simp only [List.length_append, bytesL_len]; omega)).mono ?_
  rintro e w6 ⟨rfl, hp⟩
  obtain ⟨o6, h6⟩ := H5.out.step hp
  have H6 := Lib.hid h6
  clear H5 hp h6 k0 k1 k2 k3 k4
  go_wp2_with fail
  go_end0
  exact HQ.out _ _ ⟨rfl, H6.out.post⟩
set_option maxHeartbeats 1000000 in
theorem wblock_any (B pb : Nat) (ob : Option Nat) (l : List UInt8) (s p : Nat) (m : Int) (h j la d : Nat) (w : World) (hw : Wr B w pb ob l) (hb : DB.Ok ⟨s, p, m, h, j, la, d⟩) (hl : l.length ≤ 100000) :
    Calls Try.prog 77 #[.pointer (some ⟨pb, 0, none⟩), .agg #[.int .u32 (s : Nat), .int .u8 (p : Nat), .int .i32 m, .int .u32 (h : Nat), .int .u32 (j : Nat), .int .u32 (la : Nat), .int .u32 (d : Nat)]] w fun e w' => e = .returned (.tuple #[]) ∧ WPost B w pb ob (l ++ (encB ⟨s, p, m, h, j, la, d⟩)) w' := by
  have HS := Lib.hid (CW.new hw (cs := #[.int .u32 (s : Nat), .int .u8 (p : Nat), .int .i32 m, .int .u32 (h : Nat), .int .u32 (j : Nat), .int .u32 (la : Nat), .int .u32 (d : Nat)]) (t := 86))
  have HE := Lib.hid (show l ++ (encB ⟨s, p, m, h, j, la, d⟩) = l ++ bytesL s 4 ++ bytesL p 1 ++ bytesL (m24 m) 3 ++ bytesL h 4 ++ bytesL j 4 ++ bytesL la 4 ++ bytesL d 4 by simp [encB])
  clear hw
  refine calls_q fun Q HQ => ?_
  rw [HE.out] at HQ
  clear HE
  go_enter Try.func77, Try.ntmps77
  go_wp2_with fail
  generalize w.alloc (.cells #[.int .u32 (s : Nat), .int .u8 (p : Nat), .int .i32 m, .int .u32 (h : Nat), .int .u32 (j : Nat), .int .u32 (la : Nat), .int .u32 (d : Nat)] 86) = w1 at *
  generalize w.heap.size = bx at *
  refine (wnum_n B pb ob _ s w1 HS.out.wr hb.s (by omega)).mono ?_
  rintro e w2 ⟨rfl, hp⟩
  obtain ⟨o2, h2⟩ := HS.out.step hp
  have H2 := Lib.hid h2
  clear HS hp h2
  obtain ⟨k0, k1, k2, k3, k4, k5, k6⟩ := cells7 H2.out.box
  go_wp2_with fail
  refine (wbyte_n B pb o2 _ p w2 H2.out.wr hb.p (by simp only [List.length_append, bytesL_len]; omega)).mono ?_
  rintro e w3 ⟨rfl, hp⟩
  obtain ⟨o3, h3⟩ := H2.out.step hp
  have H3 := Lib.hid h3
  clear H2 hp h3 k0 k1 k2 k3 k4 k5 k6
  obtain ⟨k0, k1, k2, k3, k4, k5, k6⟩ := cells7 H3.out.box
  go_wp2_with fail
  refine (wthree_m B pb o3 _ m w3 H3.out.wr (by simp [bytesL_len]; omega)).mono ?_
  rintro e w4 ⟨rfl, hp⟩
  obtain ⟨o4, h4⟩ := H3.out.step hp
  have H4 := Lib.hid h4
  clear H3 hp h4 k0 k1 k2 k3 k4 k5 k6
  obtain ⟨k0, k1, k2, k3, k4, k5, k6⟩ := cells7 H4.out.box
  go_wp2_with fail
  refine (wnum_n B pb o4 _ h w4 H4.out.wr hb.h (by simp only [List.length_append, bytesL_len]; omega)).mono ?_
  rintro e w5 ⟨rfl, hp⟩
  obtain ⟨o5, h5⟩ := H4.out.step hp
  have H5 := Lib.hid h5
  clear H4 hp h5 k0 k1 k2 k3 k4 k5 k6
  obtain ⟨k0, k1, k2, k3, k4, k5, k6⟩ := cells7 H5.out.box
  go_wp2_with fail
  refine (wnum_n B pb o5 _ j w5 H5.out.wr hb.j (by simp only [List.length_append, bytesL_len]; omega)).mono ?_
  rintro e w6 ⟨rfl, hp⟩
  obtain ⟨o6, h6⟩ := H5.out.step hp
  have H6 := Lib.hid h6
  clear H5 hp h6 k0 k1 k2 k3 k4 k5 k6
  obtain ⟨k0, k1, k2, k3, k4, k5, k6⟩ := cells7 H6.out.box
  go_wp2_with fail
  refine (wnum_n B pb o6 _ la w6 H6.out.wr hb.l (by simp only [List.length_append, bytesL_len]; omega)).mono ?_
  rintro e w7 ⟨rfl, hp⟩
  obtain ⟨o7, h7⟩ := H6.out.step hp
  have H7 := Lib.hid h7
  clear H6 hp h7 k0 k1 k2 k3 k4 k5 k6
  obtain ⟨k0, k1, k2, k3, k4, k5, k6⟩ := cells7 H7.out.box
  go_wp2_with fail
  refine (wnum_n B pb o7 _ d w7 H7.out.wr hb.d (by simp only [List.length_append, bytesL_len]; omega)).mono ?_
  rintro e w8 ⟨rfl, hp⟩
  obtain ⟨o8, h8⟩ := H7.out.step hp
  have H8 := Lib.hid h8
  clear H7 hp h8 k0 k1 k2 k3 k4 k5 k6
  go_wp2_with fail
  go_end0
  exact HQ.out _ _ ⟨rfl, H8.out.post⟩
end Go.Proofs.Ytphofpemblindaa
/- The walk of Three of wire's Reader. -/
namespace Go.Proofs.Ytphofpemblindaa
open Go.RowKit
set_option maxHeartbeats 400000 in
theorem rthree_any (lo rb : Nat) (l : List UInt8) (e : Int) (w : World) (hr : Rd lo w rb l e) :
    Calls Try.prog 70 #[.pointer (some ⟨rb, 0, none⟩)] w fun r w' => r = .returned (.int .u32 (rdN 3 l : Nat)) ∧ RPost lo w rb (rawR 3 l) (rawE 3 l e) w' := by
  have hmf : ∀ (fn : Fn) (first cap : Array Value) (w : World), (Instr.makeFunc fn first cap).run Try.prog w = .ok (.func fn first cap) w := fun _ _ _ _ => rfl
  have hn := numfrom_any lo rb 3 l e w hr (by decide)
  have hlt := rdN_lt 3 l
  have HN := Lib.hid hn
  clear hn
  refine calls_q fun Q HQ => ?_
  go_enter Try.func70, Try.ntmps70
  go_wp2_with fail
  refine HN.out.mono ?_
  rintro r w1 ⟨rfl, hp⟩
  have HP := Lib.hid hp
  clear hp
  go_wp2_with fail
  refine HQ.out _ _ ⟨ret_int ?_, HP.out⟩
  first | rfl | (rw [wrap_u32]; omega)
end Go.Proofs.Ytphofpemblindaa
/- The walk of Num of wire's Reader. -/
namespace Go.Proofs.Ytphofpemblindaa
open Go.RowKit
set_option maxHeartbeats 400000 in
theorem rnum_any (lo rb : Nat) (l : List UInt8) (e : Int) (w : World) (hr : Rd lo w rb l e) :
    Calls Try.prog 52 #[.pointer (some ⟨rb, 0, none⟩)] w fun r w' => r = .returned (.int .u32 (rdN 4 l : Nat)) ∧ RPost lo w rb (rawR 4 l) (rawE 4 l e) w' := by
  have hmf : ∀ (fn : Fn) (first cap : Array Value) (w : World), (Instr.makeFunc fn first cap).run Try.prog w = .ok (.func fn first cap) w := fun _ _ _ _ => rfl
  have hn := numfrom_any lo rb 4 l e w hr (by decide)
  have hlt := rdN_lt 4 l
  have HN := Lib.hid hn
  clear hn
  refine calls_q fun Q HQ => ?_
  go_enter Try.func52, Try.ntmps52
  go_wp2_with fail
  refine HN.out.mono ?_
  rintro r w1 ⟨rfl, hp⟩
  have HP := Lib.hid hp
  clear hp
  go_wp2_with fail
  refine HQ.out _ _ ⟨ret_int ?_, HP.out⟩
  first | rfl | (rw [wrap_u32]; omega)
end Go.Proofs.Ytphofpemblindaa
/- The walks of readInfo and readBlock: numbers from a reader. -/
namespace Go.Proofs.Ytphofpemblindaa
open Go.RowKit

theorem objs5 {w : World} {b : Nat} {x0 x1 x2 x3 x4 : Value} {t : TypeId} (h : w.heap[b]? = some (.cells #[x0, x1, x2, x3, x4] t (0, 0))) (y0 y1 y2 y3 y4 : Value) :
    ∀ w', w' = ((((w.setCell ⟨b, 0, none⟩ y0).setCell ⟨b, 1, none⟩ y1).setCell ⟨b, 2, none⟩ y2).setCell ⟨b, 3, none⟩ y3).setCell ⟨b, 4, none⟩ y4 → w'.heap[b]? = some (.cells #[y0, y1, y2, y3, y4] t (0, 0)) ∧ Fr (F1 b) w w' := by
  rintro _ rfl
  have h0 := obj_set h 0 y0
  have h1 := obj_set h0 1 y1
  have h2 := obj_set h1 2 y2
  have h3 := obj_set h2 3 y3
  have h4 := obj_set h3 4 y4
  refine ⟨by simpa using h4, ?_⟩
  have f0 : Fr (F1 b) w (w.setCell ⟨b, 0, none⟩ y0) := Fr.setCell w ⟨b, 0, none⟩ y0
  have f1 := f0.trans (Fr.setCell _ ⟨b, 1, none⟩ y1) (fun _ h => .inl h)
  have f2 := f1.trans (Fr.setCell _ ⟨b, 2, none⟩ y2) (fun _ h => .inl h)
  have f3 := f2.trans (Fr.setCell _ ⟨b, 3, none⟩ y3) (fun _ h => .inl h)
  have f4 := f3.trans (Fr.setCell _ ⟨b, 4, none⟩ y4) (fun _ h => .inl h)
  exact f4
theorem objs7 {w : World} {b : Nat} {x0 x1 x2 x3 x4 x5 x6 : Value} {t : TypeId} (h : w.heap[b]? = some (.cells #[x0, x1, x2, x3, x4, x5, x6] t (0, 0))) (y0 y1 y2 y3 y4 y5 y6 : Value) :
    ∀ w', w' = ((((((w.setCell ⟨b, 0, none⟩ y0).setCell ⟨b, 1, none⟩ y1).setCell ⟨b, 2, none⟩ y2).setCell ⟨b, 3, none⟩ y3).setCell ⟨b, 4, none⟩ y4).setCell ⟨b, 5, none⟩ y5).setCell ⟨b, 6, none⟩ y6 → w'.heap[b]? = some (.cells #[y0, y1, y2, y3, y4, y5, y6] t (0, 0)) ∧ Fr (F1 b) w w' := by
  rintro _ rfl
  have h0 := obj_set h 0 y0
  have h1 := obj_set h0 1 y1
  have h2 := obj_set h1 2 y2
  have h3 := obj_set h2 3 y3
  have h4 := obj_set h3 4 y4
  have h5 := obj_set h4 5 y5
  have h6 := obj_set h5 6 y6
  refine ⟨by simpa using h6, ?_⟩
  have f0 : Fr (F1 b) w (w.setCell ⟨b, 0, none⟩ y0) := Fr.setCell w ⟨b, 0, none⟩ y0
  have f1 := f0.trans (Fr.setCell _ ⟨b, 1, none⟩ y1) (fun _ h => .inl h)
  have f2 := f1.trans (Fr.setCell _ ⟨b, 2, none⟩ y2) (fun _ h => .inl h)
  have f3 := f2.trans (Fr.setCell _ ⟨b, 3, none⟩ y3) (fun _ h => .inl h)
  have f4 := f3.trans (Fr.setCell _ ⟨b, 4, none⟩ y4) (fun _ h => .inl h)
  have f5 := f4.trans (Fr.setCell _ ⟨b, 5, none⟩ y5) (fun _ h => .inl h)
  have f6 := f5.trans (Fr.setCell _ ⟨b, 6, none⟩ y6) (fun _ h => .inl h)
  exact f6
theorem objs8 {w : World} {b : Nat} {x0 x1 x2 x3 x4 x5 x6 x7 : Value} {t : TypeId} (h : w.heap[b]? = some (.cells #[x0, x1, x2, x3, x4, x5, x6, x7] t (0, 0))) (y0 y1 y2 y3 y4 y5 y6 y7 : Value) :
    ∀ w', w' = (((((((w.setCell ⟨b, 0, none⟩ y0).setCell ⟨b, 1, none⟩ y1).setCell ⟨b, 2, none⟩ y2).setCell ⟨b, 3, none⟩ y3).setCell ⟨b, 4, none⟩ y4).setCell ⟨b, 5, none⟩ y5).setCell ⟨b, 6, none⟩ y6).setCell ⟨b, 7, none⟩ y7 → w'.heap[b]? = some (.cells #[y0, y1, y2, y3, y4, y5, y6, y7] t (0, 0)) ∧ Fr (F1 b) w w' := by
  rintro _ rfl
  have h0 := obj_set h 0 y0
  have h1 := obj_set h0 1 y1
  have h2 := obj_set h1 2 y2
  have h3 := obj_set h2 3 y3
  have h4 := obj_set h3 4 y4
  have h5 := obj_set h4 5 y5
  have h6 := obj_set h5 6 y6
  have h7 := obj_set h6 7 y7
  refine ⟨by simpa using h7, ?_⟩
  have f0 : Fr (F1 b) w (w.setCell ⟨b, 0, none⟩ y0) := Fr.setCell w ⟨b, 0, none⟩ y0
  have f1 := f0.trans (Fr.setCell _ ⟨b, 1, none⟩ y1) (fun _ h => .inl h)
  have f2 := f1.trans (Fr.setCell _ ⟨b, 2, none⟩ y2) (fun _ h => .inl h)
  have f3 := f2.trans (Fr.setCell _ ⟨b, 3, none⟩ y3) (fun _ h => .inl h)
  have f4 := f3.trans (Fr.setCell _ ⟨b, 4, none⟩ y4) (fun _ h => .inl h)
  have f5 := f4.trans (Fr.setCell _ ⟨b, 5, none⟩ y5) (fun _ h => .inl h)
  have f6 := f5.trans (Fr.setCell _ ⟨b, 6, none⟩ y6) (fun _ h => .inl h)
  have f7 := f6.trans (Fr.setCell _ ⟨b, 7, none⟩ y7) (fun _ h => .inl h)
  exact f7
theorem frz7 {w : World} {b : Nat} {cs : Array Value} {t : TypeId} (h : w.heap[b]? = some (.cells cs t (0, 0))) :
    w.frozen? ⟨b, 0, none⟩ = false ∧ w.frozen? ⟨b, 1, none⟩ = false ∧ w.frozen? ⟨b, 2, none⟩ = false ∧ w.frozen? ⟨b, 3, none⟩ = false ∧ w.frozen? ⟨b, 4, none⟩ = false ∧ w.frozen? ⟨b, 5, none⟩ = false ∧ w.frozen? ⟨b, 6, none⟩ = false ∧ w.frozen? ⟨b, 7, none⟩ = false := by
  have z := obj_frozen h
  exact ⟨z 0, z 1, z 2, z 3, z 4, z 5, z 6, z 7⟩
/-- a reader, and an object made since the call began -/
structure RB (w0 : World) (lo rb bx : Nat) (o : Obj) (L : List UInt8) (e : Int) (w : World) : Prop where
  rd : Rd lo w rb L e
  res : w.heap[bx]? = some o
  fr : Fr (F1 rb) w0 w
  o0 : rb < w0.heap.size
  o1 : w0.heap.size ≤ bx
section
variable {w0 : World} {lo rb bx : Nat} {o : Obj} {L L' : List UInt8} {e e' : Int} {w w' : World}
theorem RB.step (h : RB w0 lo rb bx o L e w) (hp : RPost lo w rb L' e' w') : RB w0 lo rb bx o L' e' w' := by
  have h1 := h.o0; have h2 := h.o1
  exact ⟨hp.1, hp.2.heap h.res (fun (h : bx = rb) => by omega), h.fr.trans hp.2 (fun _ h => .inl h), h1, h2⟩
theorem RB.fr0 (h : RB w0 lo rb bx o L e w) (hf : Fr F0 w w') : RB w0 lo rb bx o L e w' :=
  ⟨h.rd.fr0 hf, hf.heap h.res (fun h => h), h.fr.trans hf (fun _ h => h.elim), h.o0, h.o1⟩
theorem RB.new (hr : Rd lo w rb L e) (cs : Array Value) (t : TypeId) : RB w lo rb w.heap.size (.cells cs t (0, 0)) L e (w.alloc (.cells cs t (0, 0))) := by
  have hf := Fr.alloc w (.cells cs t (0, 0))
  exact ⟨hr.fr0 hf, heap_alloc_new _ _, hf.mono (fun _ h => h.elim), hr.lt.2, Nat.le_refl _⟩
theorem RB.post (h : RB w0 lo rb bx o L e w) (hf : Fr (F1 bx) w w') : RPost lo w0 rb L e w' := by
  have h1 := h.o0; have h2 := h.o1
  exact ⟨h.rd.fr hf (fun k _ hk (hx : k = bx) => by omega), h.fr.trans hf (fun k (hk : k = bx) => .inr (by omega))⟩
end
set_option maxHeartbeats 1000000 in
theorem rinfo_any (lo rb : Nat) (l : List UInt8) (e : Int) (w : World) (hr : Rd lo w rb l e) :
    Calls Try.prog 53 #[.pointer (some ⟨rb, 0, none⟩)] w fun r w' => r = .returned (.agg #[.int .u32 (rdN 4 l : Nat), .int .u32 (rdN 4 (rawR 4 l) : Nat), .int .u32 (rdN 4 (rawR 8 l) : Nat), .int .u32 (rdN 4 (rawR 12 l) : Nat), .int .u32 (rdN 4 (rawR 16 l) : Nat)]) ∧ RPost lo w rb (rawR 20 l) (rawE 20 l e) w' := by
  have HS := Lib.hid (RB.new hr #[.int .u32 0, .int .u32 0, .int .u32 0, .int .u32 0, .int .u32 0] 31)
  have HA1 := Lib.hid (show rawR 4 (rawR 4 l) = rawR 8 l ∧ ∀ e, rawE 4 (rawR 4 l) (rawE 4 l e) = rawE 8 l e from ⟨rawR_add 4 4 l (by decide), fun e => rawE_add 4 4 l e (by decide)⟩)
  have HA2 := Lib.hid (show rawR 4 (rawR 8 l) = rawR 12 l ∧ ∀ e, rawE 4 (rawR 8 l) (rawE 8 l e) = rawE 12 l e from ⟨rawR_add 8 4 l (by decide), fun e => rawE_add 8 4 l e (by decide)⟩)
  have HA3 := Lib.hid (show rawR 4 (rawR 12 l) = rawR 16 l ∧ ∀ e, rawE 4 (rawR 12 l) (rawE 12 l e) = rawE 16 l e from ⟨rawR_add 12 4 l (by decide), fun e => rawE_add 12 4 l e (by decide)⟩)
  have HA4 := Lib.hid (show rawR 4 (rawR 16 l) = rawR 20 l ∧ ∀ e, rawE 4 (rawR 16 l) (rawE 16 l e) = rawE 20 l e from ⟨rawR_add 16 4 l (by decide), fun e => rawE_add 16 4 l e (by decide)⟩)
  clear hr
  refine calls_q fun Q HQ => ?_
  go_enter Try.func53, Try.ntmps53
  go_wp2_with fail
  rw [show w.alloc (Obj.cells #[.int .u32 0, .int .u32 0, .int .u32 0, .int .u32 0, .int .u32 0] 31) = w.alloc (.cells #[.int .u32 0, .int .u32 0, .int .u32 0, .int .u32 0, .int .u32 0] 31 (0, 0)) from rfl] at *
  generalize w.alloc (.cells #[.int .u32 0, .int .u32 0, .int .u32 0, .int .u32 0, .int .u32 0] 31 (0, 0)) = w1 at *
  generalize w.heap.size = bx at *
  refine (rnum_any lo rb l e w1 HS.out.rd).mono ?_
  rintro r w2 ⟨rfl, hp⟩
  have h2 := HS.out.step hp
  have H2 := Lib.hid h2
  clear HS hp h2
  go_wp2_with fail
  refine (rnum_any lo rb _ _ w2 H2.out.rd).mono ?_
  rintro r w3 ⟨rfl, hp⟩
  have h3 := H2.out.step hp
  rw [HA1.out.1, HA1.out.2] at h3
  have H3 := Lib.hid h3
  clear H2 hp h3
  go_wp2_with fail
  refine (rnum_any lo rb _ _ w3 H3.out.rd).mono ?_
  rintro r w4 ⟨rfl, hp⟩
  have h4 := H3.out.step hp
  rw [HA2.out.1, HA2.out.2] at h4
  have H4 := Lib.hid h4
  clear H3 hp h4
  go_wp2_with fail
  refine (rnum_any lo rb _ _ w4 H4.out.rd).mono ?_
  rintro r w5 ⟨rfl, hp⟩
  have h5 := H4.out.step hp
  rw [HA3.out.1, HA3.out.2] at h5
  have H5 := Lib.hid h5
  clear H4 hp h5
  go_wp2_with fail
  refine (rnum_any lo rb _ _ w5 H5.out.rd).mono ?_
  rintro r w6 ⟨rfl, hp⟩
  have h6 := H5.out.step hp
  rw [HA4.out.1, HA4.out.2] at h6
  have H6 := Lib.hid h6
  clear H5 hp h6
  obtain ⟨k0, k1, k2, k3, k4⟩ := cells5 H6.out.res
  obtain ⟨z0, z1, z2, z3, z4, z5, z6, z7⟩ := frz7 H6.out.res
  go_wp2_with fail
  generalize hW : World.setCell _ _ _ = wf
  obtain ⟨hx, hfx⟩ := objs5 H6.out.res _ _ _ _ _ wf hW.symm
  clear hW k0 k1 k2 k3 k4 z0 z1 z2 z3 z4 z5 z6 z7
  obtain ⟨k0, k1, k2, k3, k4⟩ := cells5 hx
  refine bodyPost_ret (v := .agg #[.int .u32 (rdN 4 l : Nat), .int .u32 (rdN 4 (rawR 4 l) : Nat), .int .u32 (rdN 4 (rawR 8 l) : Nat), .int .u32 (rdN 4 (rawR 12 l) : Nat), .int .u32 (rdN 4 (rawR 16 l) : Nat)]) (by simp [results, Try.results53, go_sem, k0, k1, k2, k3, k4]; try rfl) rfl ?_
  exact HQ.out _ _ ⟨rfl, H6.out.post hfx⟩
set_option maxHeartbeats 1000000 in
theorem rblock_any (lo rb : Nat) (l : List UInt8) (e : Int) (w : World) (hr : Rd lo w rb l e) :
    Calls Try.prog 54 #[.pointer (some ⟨rb, 0, none⟩)] w fun r w' => r = .returned (.agg #[.int .u32 ((decB l).s : Nat), .int .u8 ((decB l).p : Nat), .int .i32 (decB l).m, .int .u32 ((decB l).h : Nat), .int .u32 ((decB l).j : Nat), .int .u32 ((decB l).l : Nat), .int .u32 ((decB l).d : Nat)]) ∧ RPost lo w rb (rawR 24 l) (rawE 24 l e) w' := by
  have HS := Lib.hid (RB.new hr #[.int .u32 0, .int .u8 0, .int .i32 0, .int .u32 0, .int .u32 0, .int .u32 0, .int .u32 0] 86)
  have HA1 := Lib.hid (show rawR 1 (rawR 4 l) = rawR 5 l ∧ ∀ e, rawE 1 (rawR 4 l) (rawE 4 l e) = rawE 5 l e from ⟨rawR_add 4 1 l (by decide), fun e => rawE_add 4 1 l e (by decide)⟩)
  have HA2 := Lib.hid (show rawR 3 (rawR 5 l) = rawR 8 l ∧ ∀ e, rawE 3 (rawR 5 l) (rawE 5 l e) = rawE 8 l e from ⟨rawR_add 5 3 l (by decide), fun e => rawE_add 5 3 l e (by decide)⟩)
  have HA3 := Lib.hid (show rawR 4 (rawR 8 l) = rawR 12 l ∧ ∀ e, rawE 4 (rawR 8 l) (rawE 8 l e) = rawE 12 l e from ⟨rawR_add 8 4 l (by decide), fun e => rawE_add 8 4 l e (by decide)⟩)
  have HA4 := Lib.hid (show rawR 4 (rawR 12 l) = rawR 16 l ∧ ∀ e, rawE 4 (rawR 12 l) (rawE 12 l e) = rawE 16 l e from ⟨rawR_add 12 4 l (by decide), fun e => rawE_add 12 4 l e (by decide)⟩)
  have HA5 := Lib.hid (show rawR 4 (rawR 16 l) = rawR 20 l ∧ ∀ e, rawE 4 (rawR 16 l) (rawE 16 l e) = rawE 20 l e from ⟨rawR_add 16 4 l (by decide), fun e => rawE_add 16 4 l e (by decide)⟩)
  have HA6 := Lib.hid (show rawR 4 (rawR 20 l) = rawR 24 l ∧ ∀ e, rawE 4 (rawR 20 l) (rawE 20 l e) = rawE 24 l e from ⟨rawR_add 20 4 l (by decide), fun e => rawE_add 20 4 l e (by decide)⟩)
  have ht := rdN_lt 3 (rawR 5 l)
  have hsg := signed24 (rdN 3 (rawR 5 l)) (by simpa using ht)
  generalize hT : rdN 3 (rawR 5 l) = tn at *
  have HT := Lib.hid hT
  have HSg := Lib.hid (fun w => signed_any tn 24 w ⟨by omega, by omega⟩)
  have hu := u64_id (n := (tn : Int)) ⟨by omega, by omega⟩
  have hi : IntKind.i32.wrap (signedN tn 24) = signedN tn 24 := by
    rw [hsg]; split <;> (simp [IntKind.wrap, IntKind.bits, IntKind.signed]; omega)
  clear hT hsg ht
  clear hr
  refine calls_q fun Q HQ => ?_
  go_enter Try.func54, Try.ntmps54
  go_wp2_with fail
  rw [show w.alloc (Obj.cells #[.int .u32 0, .int .u8 0, .int .i32 0, .int .u32 0, .int .u32 0, .int .u32 0, .int .u32 0] 86) = w.alloc (.cells #[.int .u32 0, .int .u8 0, .int .i32 0, .int .u32 0, .int .u32 0, .int .u32 0, .int .u32 0] 86 (0, 0)) from rfl] at *
  generalize w.alloc (.cells #[.int .u32 0, .int .u8 0, .int .i32 0, .int .u32 0, .int .u32 0, .int .u32 0, .int .u32 0] 86 (0, 0)) = w1 at *
  generalize w.heap.size = bx at *
  refine (rnum_any lo rb l e w1 HS.out.rd).mono ?_
  rintro r w2 ⟨rfl, hp⟩
  have h2 := HS.out.step hp
  have H2 := Lib.hid h2
  clear HS hp h2
  go_wp2_with fail
  refine (rbyte_any lo rb _ _ w2 H2.out.rd).mono ?_
  rintro r w3 ⟨rfl, hp⟩
  have h3 := H2.out.step hp
  rw [HA1.out.1, HA1.out.2] at h3
  have H3 := Lib.hid h3
  clear H2 hp h3
  go_wp2_with fail
  refine (rthree_any lo rb _ _ w3 H3.out.rd).mono ?_
  rintro r w4 ⟨rfl, hp⟩
  have h4 := H3.out.step hp
  rw [HA2.out.1, HA2.out.2] at h4
  have H4 := Lib.hid h4
  clear H3 hp h4
  rw [HT.out]
  go_wp2_with fail
  refine (HSg.out _).mono ?_
  rintro r wq ⟨rfl, hq⟩
  have hq2 := hq.symm
  subst hq2
  rw [Int.toNat_natCast]
  go_wp2_with fail
  refine (rnum_any lo rb _ _ w4 H4.out.rd).mono ?_
  rintro r w5 ⟨rfl, hp⟩
  have h5 := H4.out.step hp
  rw [HA3.out.1, HA3.out.2] at h5
  have H5 := Lib.hid h5
  clear H4 hp h5
  go_wp2_with fail
  refine (rnum_any lo rb _ _ w5 H5.out.rd).mono ?_
  rintro r w6 ⟨rfl, hp⟩
  have h6 := H5.out.step hp
  rw [HA4.out.1, HA4.out.2] at h6
  have H6 := Lib.hid h6
  clear H5 hp h6
  go_wp2_with fail
  refine (rnum_any lo rb _ _ w6 H6.out.rd).mono ?_
  rintro r w7 ⟨rfl, hp⟩
  have h7 := H6.out.step hp
  rw [HA5.out.1, HA5.out.2] at h7
  have H7 := Lib.hid h7
  clear H6 hp h7
  go_wp2_with fail
  refine (rnum_any lo rb _ _ w7 H7.out.rd).mono ?_
  rintro r w8 ⟨rfl, hp⟩
  have h8 := H7.out.step hp
  rw [HA6.out.1, HA6.out.2] at h8
  have H8 := Lib.hid h8
  clear H7 hp h8
  obtain ⟨k0, k1, k2, k3, k4, k5, k6⟩ := cells7 H8.out.res
  obtain ⟨z0, z1, z2, z3, z4, z5, z6, z7⟩ := frz7 H8.out.res
  go_wp2_with fail
  generalize hW : World.setCell _ _ _ = wf
  obtain ⟨hx, hfx⟩ := objs7 H8.out.res _ _ _ _ _ _ _ wf hW.symm
  clear hW k0 k1 k2 k3 k4 k5 k6 z0 z1 z2 z3 z4 z5 z6 z7
  obtain ⟨k0, k1, k2, k3, k4, k5, k6⟩ := cells7 hx
  refine bodyPost_ret (v := .agg #[.int .u32 ((decB l).s : Nat), .int .u8 ((decB l).p : Nat), .int .i32 (decB l).m, .int .u32 ((decB l).h : Nat), .int .u32 ((decB l).j : Nat), .int .u32 ((decB l).l : Nat), .int .u32 ((decB l).d : Nat)]) (by simp [results, Try.results54, go_sem, k0, k1, k2, k3, k4, k5, k6]; rw [← HT.out]; exact ⟨rfl, rfl, rfl, rfl, rfl, rfl, rfl⟩) rfl ?_
  exact HQ.out _ _ ⟨rfl, H8.out.post hfx⟩
end Go.Proofs.Ytphofpemblindaa
/- Reports as values: a slice of blocks; the walks of most and Right. -/
namespace Go.Proofs.Ytphofpemblindaa
open Go.RowKit

/-- a slice of blocks -/
def BlS (w : World) (v : Value) (bs : List DB) : Prop := RowsV 7 w v (bs.map DB.row) ∧ ∀ b ∈ bs, b.Ok
theorem BlS.fr {w w' : World} {v : Value} {bs : List DB} (h : BlS w v bs) {F : Nat → Prop} (hf : Fr F w w') (hF : ∀ b, b < w.heap.size → ¬ F b) : BlS w' v bs := ⟨h.1.fr hf hF, h.2⟩
theorem BlS.below {w w' : World} {v : Value} {bs : List DB} (h : BlS w v bs) (hb : Below w.heap.size w w') : BlS w' v bs := h.fr (Fr.of hb) (fun _ _ h => h)
theorem BlS.nil (w : World) : BlS w (.slice none 0 0) [] := ⟨⟨none, 0, rfl, Nat.le_refl _, Nat.zero_le _, fun h => absurd h (by simp)⟩, fun b hb => absurd hb (by simp)⟩
theorem BlS.parts {w : World} {v : Value} {bs : List DB} (h : BlS w v bs) : ∃ A c, v = .slice A bs.length c ∧ bs.length ≤ c ∧ c ≤ 9223372036854775807 ∧ (0 < bs.length → ∃ b o, A = some ⟨b, o, none⟩ ∧ b < w.heap.size) := by
  obtain ⟨⟨A, c, rfl, h1, h2, h3⟩, _⟩ := h
  have hl : (bs.map DB.row).length = bs.length := List.length_map ..
  refine ⟨A, c, by rw [hl], by omega, by unfold maxLen at h2; omega, fun hp => ?_⟩
  obtain ⟨b, o, rfl, hb, _⟩ := h3 (by omega)
  exact ⟨b, o, rfl, hb⟩
/-- the cells of one of them -/
theorem BlS.at {w : World} {b o : Nat} {n c : Nat} {bs : List DB} (h : BlS w (.slice (some ⟨b, o, none⟩) n c) bs) (i : Nat) (hi : i < bs.length) :
    w.cell? ⟨b, o + i * 7, none⟩ = some (.int .u32 (bs[i].s : Nat)) ∧ w.cell? ⟨b, o + i * 7 + 1, none⟩ = some (.int .u8 (bs[i].p : Nat)) ∧ w.cell? ⟨b, o + i * 7 + 2, none⟩ = some (.int .i32 bs[i].m) ∧ w.cell? ⟨b, o + i * 7 + 3, none⟩ = some (.int .u32 (bs[i].h : Nat)) ∧
      w.cell? ⟨b, o + i * 7 + 4, none⟩ = some (.int .u32 (bs[i].j : Nat)) ∧ w.cell? ⟨b, o + i * 7 + 5, none⟩ = some (.int .u32 (bs[i].l : Nat)) ∧ w.cell? ⟨b, o + i * 7 + 6, none⟩ = some (.int .u32 (bs[i].d : Nat)) := by
  obtain ⟨⟨A, c', he, _, _, hr⟩, _⟩ := h
  simp only [Value.slice.injEq] at he
  obtain ⟨b', o', hA, _, hc⟩ := hr (by simp; omega)
  rw [hA] at he
  simp only [Option.some.injEq, Addr.mk.injEq, and_true] at he
  obtain ⟨⟨rfl, rfl⟩, _⟩ := he
  have := fun j u hu => hc i (by simpa using hi) j u (by simpa using hu)
  exact ⟨this 0 _ rfl, this 1 _ rfl, this 2 _ rfl, this 3 _ rfl, this 4 _ rfl, this 5 _ rfl, this 6 _ rfl⟩
set_option maxHeartbeats 400000 in
theorem most_any (sd : Bool) (w : World) : Calls Try.prog 37 #[.bool sd] w fun e w' => e = .returned (.int .i64 (mostN sd : Nat)) ∧ w' = w := by
  refine calls_q fun Q HQ => ?_
  cases sd
  all_goals
    go_enter Try.func37, Try.ntmps37
    go_wp2_with fail
    exact HQ.out _ _ ⟨rfl, rfl⟩
set_option maxHeartbeats 1000000 in
theorem rpright_any (sd : Bool) (so i0 i1 i2 i3 i4 : Nat) (bl : List DB) (A : Option Addr) (c : Nat) (w : World) (h : BlS w (.slice A bl.length c) bl) :
    Calls Try.prog 19 #[.agg #[.bool sd, .int .u32 (so : Nat), .int .u32 (i0 : Nat), .int .u32 (i1 : Nat), .int .u32 (i2 : Nat), .int .u32 (i3 : Nat), .int .u32 (i4 : Nat), .slice A bl.length c]] w
      fun e w' => e = .returned (.bool (rightR ⟨sd, so, i0, i1, i2, i3, i4, bl⟩)) ∧ Below w.heap.size w w' := by
  have HT := Lib.hid h
  obtain ⟨_, _, he, _, _, hA⟩ := h.parts
  simp only [Value.slice.injEq, true_and] at he
  obtain ⟨rfl, rfl⟩ := he
  have HA := Lib.hid hA
  clear h hA
  refine calls_q fun Q HQ => ?_
  by_cases hz : sd = true ∨ (i0 = 0 ∧ i1 = 0 ∧ i2 = 0 ∧ i3 = 0 ∧ i4 = 0)
  · have HN := Lib.hid (show (sd || noInfo ⟨sd, so, i0, i1, i2, i3, i4, bl⟩) = true by
      rcases hz with rfl | ⟨rfl, rfl, rfl, rfl, rfl⟩
      · rfl
      · simp [noInfo])
    have HM := Lib.hid (fun w => most_any sd w)
    by_cases hl : ((mostN sd : Nat) : Int) < (bl.length : Int)
    · have HR := Lib.hid (show rightR ⟨sd, so, i0, i1, i2, i3, i4, bl⟩ = false by
        rw [rightR]; simp; intro _ h; omega)
      clear HN
      rcases hz with rfl | ⟨rfl, rfl, rfl, rfl, rfl⟩
      rotate_left
      cases sd
      all_goals
        go_enter Try.func19, Try.ntmps19
        go_wp2_with fail
        go_quiet ((go_at_call 37; exact Calls.quiet_of_same (HM.out _)))
        go_wp2_with fail
        exact HQ.out _ _ ⟨ret_bool HR.out.symm, below_drewN (below_alloc _) _⟩
    · rcases hz with rfl | ⟨rfl, rfl, rfl, rfl, rfl⟩
      rotate_left
      cases sd
      all_goals
        go_enter Try.func19, Try.ntmps19
        go_wp2_with fail
        go_quiet ((go_at_call 37; exact Calls.quiet_of_same (HM.out _)))
        go_wp2_with fail
        go_loopw [26] (fun i wr => ∃ j : Nat, j ≤ bl.length ∧ i = .int .i64 j ∧ Below w.heap.size w wr ∧ (∀ k (h : k < bl.length), k < j → missB bl[k] = true)) (fun i _ => bl.length - (intOf i).toNat)
        case atStart => exact ⟨0, Nat.zero_le _, rfl, below_drewN (below_alloc _) _, fun k _ hk => by omega⟩
        case round =>
          obtain ⟨j, hj, rfl, hb, hall⟩ := hrel
          have HB := Lib.hid hb
          have HL := Lib.hid hall
          clear hb hall
          by_cases hlt : j < bl.length
          · obtain ⟨b, o, rfl, hbl⟩ := HA.out (by omega)
            obtain ⟨c0, c1, c2, c3, c4, c5, c6⟩ := (HT.out.below HB.out).at j hlt
            have hbl2 := Nat.lt_of_lt_of_le hbl HB.out.size
            have h0 : (0 : Int) ≤ (j : Int) := by omega
            have h1 : (j : Int) < (bl.length : Int) := by omega
            have HMs := Lib.hid (show missB bl[j] = decide (-8388608 ≤ bl[j].m ∧ bl[j].m ≤ 8388607) from rfl)
            have HAl := Lib.hid (fun h : missB bl[j] = false => (List.all_eq_false.2 ⟨bl[j], List.getElem_mem hlt, by simp [h]⟩ : bl.all missB = false))
            obtain ⟨mi, hmi⟩ : ∃ mi, bl[j].m = mi := ⟨_, rfl⟩
            rw [hmi] at c2 HMs
            clear hmi
            by_cases hm0 : mi < -8388608
            · go_wp2_with fail
              refine HQ.out _ _ ⟨ret_bool ?_, HB.out.alloc HB.out.size _⟩
              rw [rightR, HAl.out (by rw [HMs.out]; simp; omega)]; simp
            · by_cases hm1 : (8388607 : Int) < mi
              · go_wp2_with fail
                refine HQ.out _ _ ⟨ret_bool ?_, HB.out.alloc HB.out.size _⟩
                rw [rightR, HAl.out (by rw [HMs.out]; simp; omega)]; simp
              · go_wp2_with fail
                go_roundw
                case rel =>
                  refine ⟨j + 1, by omega, by go_num, HB.out.alloc HB.out.size _, fun k hk hkj => ?_⟩
                  by_cases hkj2 : k = j
                  · subst hkj2; rw [HMs.out]; simp; omega
                  · exact HL.out k hk (by omega)
                case measure => simp [intOf]; omega
          · have : j = bl.length := by omega
            subst this
            go_wp2_with fail
            refine HQ.out _ _ ⟨ret_bool ?_, HB.out⟩
            symm
            rw [rightR, HN.out, Bool.true_and, Bool.and_eq_true, decide_eq_true_eq, List.all_eq_true]
            refine ⟨Int.ofNat_le.1 hl, fun t ht => ?_⟩
            obtain ⟨k, hk, rfl⟩ := List.getElem_of_mem ht
            exact HL.out k hk hk
  · have HN := Lib.hid (show rightR ⟨sd, so, i0, i1, i2, i3, i4, bl⟩ = false by
      have h1 : sd = false := by cases sd <;> simp_all
      have h2 : noInfo ⟨sd, so, i0, i1, i2, i3, i4, bl⟩ = false := by
        simp only [noInfo, decide_eq_false_iff_not]; exact fun h => hz (.inr h)
      rw [rightR, h2]; simp [h1])
    obtain rfl : sd = false := by cases sd <;> simp_all
    rcases (show i0 ≠ 0 ∨ (i0 = 0 ∧ i1 ≠ 0) ∨ (i0 = 0 ∧ i1 = 0 ∧ i2 ≠ 0) ∨ (i0 = 0 ∧ i1 = 0 ∧ i2 = 0 ∧ i3 ≠ 0) ∨ (i0 = 0 ∧ i1 = 0 ∧ i2 = 0 ∧ i3 = 0 ∧ i4 ≠ 0) by omega) with hi | ⟨rfl, hi⟩ | ⟨rfl, rfl, hi⟩ | ⟨rfl, rfl, rfl, hi⟩ | ⟨rfl, rfl, rfl, rfl, hi⟩
    all_goals
      clear hz
      go_enter Try.func19, Try.ntmps19
      go_wp2_with fail
      go_quiet (fail)
      go_wp2_with fail
      exact HQ.out _ _ ⟨ret_bool HN.out.symm, below_drewN (below_alloc _) _⟩
end Go.Proofs.Ytphofpemblindaa
/- Slices whose memory is new. -/
namespace Go.Proofs.Ytphofpemblindaa
open Go.RowKit

/-- a slice whose block, if it has one, is not below -/
def NewV (B : Nat) (v : Value) : Prop := ∀ k, v.ownBlock = some k → B ≤ k
theorem NewV.nil (B n c : Nat) : NewV B (.slice none n c) := fun k hk => by simp [Value.ownBlock] at hk
theorem NewV.mono {B C : Nat} {v : Value} (h : NewV B v) (hC : C ≤ B) : NewV C v := fun k hk => Nat.le_trans hC (h k hk)
theorem own_newv {w : World} {base B : Nat} {e : TypeId} {size : Nat} {v : Value} {n : Nat} {xs : List Value} (h : w.ownsRow base e size v n xs) (hB : B ≤ base) : NewV B v :=
  fun k hk => Nat.le_trans hB (h.lt k hk).1
end Go.Proofs.Ytphofpemblindaa
/- The walk of report.Write. -/
namespace Go.Proofs.Ytphofpemblindaa
open Go.RowKit

def wrE (r : DR) : Int := if rightR r then 0 else 1
def wrC (r : DR) : DC := if rightR r then chunkR r else (0, 0, [])
/-- what Write answers -/
def WritePost (w : World) (r : DR) (e : Ending) (w' : World) : Prop :=
  ∃ u, e = .returned (.tuple #[.agg #[.int .u8 ((wrC r).1 : Nat), .int .u8 ((wrC r).2.1 : Nat), u], .int .i64 (wrE r)]) ∧ BS w' u (wrC r).2.2 ∧ Below w.heap.size w w'
/-- .. and where its bytes lie -/
def WritePostX (w : World) (r : DR) (e : Ending) (w' : World) : Prop :=
  ∃ u, e = .returned (.tuple #[.agg #[.int .u8 ((wrC r).1 : Nat), .int .u8 ((wrC r).2.1 : Nat), u], .int .i64 (wrE r)]) ∧ BS w' u (wrC r).2.2 ∧ Below w.heap.size w w' ∧ NewV w.heap.size u
abbrev zeroC8 : Obj := .cells #[.int .u8 0, .int .u8 0, .slice none 0 0] 40 (0, 0)
/-- a writer; the report's cells, the result's, and a chunk's -/
structure RWs (w0 : World) (bx rx cb pb : Nat) (orp oc : Obj) (ob : Option Nat) (l : List UInt8) (w : World) : Prop where
  wr : Wr pb w pb ob l
  rp : w.heap[bx]? = some orp
  res : w.heap[rx]? = some zeroC8
  c : w.heap[cb]? = some oc
  below : Below w0.heap.size w0 w
  o0 : w0.heap.size ≤ bx
  o1 : bx < rx
  o2 : rx < cb
  o3 : cb < pb
section
variable {w0 w w' : World} {bx rx cb pb : Nat} {orp oc : Obj} {ob : Option Nat} {l l' : List UInt8}
theorem RWs.step (h : RWs w0 bx rx cb pb orp oc ob l w) (hp : WPost pb w pb ob l' w') : ∃ ob', RWs w0 bx rx cb pb orp oc ob' l' w' := by
  obtain ⟨ob', hw, hf, _⟩ := hp
  have h0 := h.o0; have h1 := h.o1; have h2 := h.o2; have h3 := h.o3
  have hlt := h.wr.lt
  have key : ∀ k, k < pb → ¬ WF pb ob k := fun k hk hx => by have := (hlt k hx).1; omega
  exact ⟨ob', hw, hf.heap h.rp (key _ (by omega)), hf.heap h.res (key _ (by omega)), hf.heap h.c (key _ (by omega)), h.below.trans (hf.below h.below.size (fun k hk => by have := (hlt k hk).1; omega)), h0, h1, h2, h3⟩
theorem RWs.fr0 (h : RWs w0 bx rx cb pb orp oc ob l w) (hb : Below w.heap.size w w') : RWs w0 bx rx cb pb orp oc ob l w' :=
  ⟨h.wr.fr0 (Fr.of hb), (Fr.of hb).heap h.rp (fun h => h), (Fr.of hb).heap h.res (fun h => h), (Fr.of hb).heap h.c (fun h => h), h.below.trans (hb.mono h.below.size), h.o0, h.o1, h.o2, h.o3⟩
theorem RWs.set {cs : Array Value} {t : TypeId} (h : RWs w0 bx rx cb pb orp (.cells cs t (0, 0)) ob l w) (i : Nat) (u : Value) : RWs w0 bx rx cb pb orp (.cells (cs.setIfInBounds i u) t (0, 0)) ob l (w.setCell ⟨cb, i, none⟩ u) := by
  have h0 := h.o0; have h1 := h.o1; have h2 := h.o2; have h3 := h.o3
  have hf : Fr (F1 cb) w (w.setCell ⟨cb, i, none⟩ u) := Fr.setCell w ⟨cb, i, none⟩ u
  have hlt := h.wr.lt
  exact ⟨h.wr.fr hf (fun k hk (hx : k = cb) => by have := (hlt k hk).1; omega), hf.heap h.rp (fun (hx : bx = cb) => by omega), hf.heap h.res (fun (hx : rx = cb) => by omega), obj_set h.c i u, h.below.trans (hf.below h.below.size (fun k (hk : k = cb) => by omega)), h0, h1, h2, h3⟩
end
theorem cells8 {w : World} {b : Nat} {x0 x1 x2 x3 x4 x5 x6 x7 : Value} {t : TypeId} (h : w.heap[b]? = some (.cells #[x0, x1, x2, x3, x4, x5, x6, x7] t (0, 0))) :
    w.cell? ⟨b, 0, none⟩ = some x0 ∧ w.cell? ⟨b, 1, none⟩ = some x1 ∧ w.cell? ⟨b, 2, none⟩ = some x2 ∧ w.cell? ⟨b, 3, none⟩ = some x3 ∧ w.cell? ⟨b, 4, none⟩ = some x4 ∧ w.cell? ⟨b, 5, none⟩ = some x5 ∧ w.cell? ⟨b, 6, none⟩ = some x6 ∧ w.cell? ⟨b, 7, none⟩ = some x7 := by
  have k := obj_cell h
  exact ⟨k 0, k 1, k 2, k 3, k 4, k 5, k 6, k 7⟩
theorem cells3 {w : World} {b : Nat} {x0 x1 x2 : Value} {t : TypeId} (h : w.heap[b]? = some (.cells #[x0, x1, x2] t (0, 0))) :
    w.cell? ⟨b, 0, none⟩ = some x0 ∧ w.cell? ⟨b, 1, none⟩ = some x1 ∧ w.cell? ⟨b, 2, none⟩ = some x2 ∧ w.frozen? ⟨b, 0, none⟩ = false ∧ w.frozen? ⟨b, 1, none⟩ = false ∧ w.frozen? ⟨b, 2, none⟩ = false := by
  have k := obj_cell h
  have z := obj_frozen h
  exact ⟨k 0, k 1, k 2, z 0, z 1, z 2⟩
theorem objs3 {w : World} {b : Nat} {x0 x1 x2 : Value} {t : TypeId} (h : w.heap[b]? = some (.cells #[x0, x1, x2] t (0, 0))) (y0 y1 y2 : Value) :
    ∀ w', w' = ((w.setCell ⟨b, 0, none⟩ y0).setCell ⟨b, 1, none⟩ y1).setCell ⟨b, 2, none⟩ y2 → w'.heap[b]? = some (.cells #[y0, y1, y2] t (0, 0)) ∧ Fr (F1 b) w w' := by
  rintro _ rfl
  have h0 := obj_set h 0 y0
  have h1 := obj_set h0 1 y1
  have h2 := obj_set h1 2 y2
  refine ⟨by simpa using h2, ?_⟩
  have f0 : Fr (F1 b) w (w.setCell ⟨b, 0, none⟩ y0) := Fr.setCell w ⟨b, 0, none⟩ y0
  have f1 : Fr (F1 b) w ((w.setCell ⟨b, 0, none⟩ y0).setCell ⟨b, 1, none⟩ y1) := f0.trans (Fr.setCell _ ⟨b, 1, none⟩ y1) (fun _ h => .inl h)
  exact f1.trans (Fr.setCell _ ⟨b, 2, none⟩ y2) (fun _ h => .inl h)
theorem encBs_take (bl : List DB) (j : Nat) (h : j < bl.length) : encBs (bl.take (j + 1)) = encBs (bl.take j) ++ encB bl[j] := by
  rw [List.take_succ_eq_append_getElem h, encBs_snoc]
set_option maxHeartbeats 2000000 in
theorem rpwrite_x (sd : Bool) (so i0 i1 i2 i3 i4 : Nat) (bl : List DB) (A : Option Addr) (c : Nat) (w : World) (h : BlS w (.slice A bl.length c) bl) (ho : DR.Ok ⟨sd, so, i0, i1, i2, i3, i4, bl⟩) :
    Calls Try.prog 60 #[.agg #[.bool sd, .int .u32 (so : Nat), .int .u32 (i0 : Nat), .int .u32 (i1 : Nat), .int .u32 (i2 : Nat), .int .u32 (i3 : Nat), .int .u32 (i4 : Nat), .slice A bl.length c]] w
      (WritePostX w ⟨sd, so, i0, i1, i2, i3, i4, bl⟩) := by
  have HT := Lib.hid h
  have HO := Lib.hid ho
  obtain ⟨_, _, he, _, _, hA⟩ := h.parts
  simp only [Value.slice.injEq, true_and] at he
  obtain ⟨rfl, rfl⟩ := he
  have HA := Lib.hid hA
  have hbx := heap_alloc_new w (.cells #[.bool sd, .int .u32 (so : Nat), .int .u32 (i0 : Nat), .int .u32 (i1 : Nat), .int .u32 (i2 : Nat), .int .u32 (i3 : Nat), .int .u32 (i4 : Nat), .slice A bl.length c] 34 (0, 0))
  have hb1 := below_alloc (w := w) (.cells #[.bool sd, .int .u32 (so : Nat), .int .u32 (i0 : Nat), .int .u32 (i1 : Nat), .int .u32 (i2 : Nat), .int .u32 (i3 : Nat), .int .u32 (i4 : Nat), .slice A bl.length c] 34 (0, 0))
  have hrx := heap_alloc_new (w.alloc (.cells #[.bool sd, .int .u32 (so : Nat), .int .u32 (i0 : Nat), .int .u32 (i1 : Nat), .int .u32 (i2 : Nat), .int .u32 (i3 : Nat), .int .u32 (i4 : Nat), .slice A bl.length c] 34 (0, 0))) zeroC8
  have hbx2 := (Fr.alloc (w.alloc (.cells #[.bool sd, .int .u32 (so : Nat), .int .u32 (i0 : Nat), .int .u32 (i1 : Nat), .int .u32 (i2 : Nat), .int .u32 (i3 : Nat), .int .u32 (i4 : Nat), .slice A bl.length c] 34 (0, 0))) zeroC8).heap hbx (fun h => h)
  have hb2 := hb1.alloc hb1.size zeroC8
  rw [World.size_alloc] at hrx
  have HX := Lib.hid hbx2
  have HRx := Lib.hid hrx
  have HB := Lib.hid hb2
  clear h ho hA hbx hb1 hrx hbx2 hb2
  refine calls_q fun Q HQ => ?_
  unfold WritePostX at HQ
  go_enter Try.func60, Try.ntmps60
  go_wp2_with fail
  have HS := Lib.hid (show w.heap.size < w.heap.size + 1 ∧ w.heap.size + 1 < ((w.alloc (.cells #[.bool sd, .int .u32 (so : Nat), .int .u32 (i0 : Nat), .int .u32 (i1 : Nat), .int .u32 (i2 : Nat), .int .u32 (i3 : Nat), .int .u32 (i4 : Nat), .slice A bl.length c] 34 (0, 0))).alloc zeroC8).heap.size by simp)
  rw [show (w.alloc (.cells #[.bool sd, .int .u32 (so : Nat), .int .u32 (i0 : Nat), .int .u32 (i1 : Nat), .int .u32 (i2 : Nat), .int .u32 (i3 : Nat), .int .u32 (i4 : Nat), .slice A bl.length c] 34)).alloc (Obj.cells #[.int .u8 0, .int .u8 0, .slice none 0 0] 40) = (w.alloc (.cells #[.bool sd, .int .u32 (so : Nat), .int .u32 (i0 : Nat), .int .u32 (i1 : Nat), .int .u32 (i2 : Nat), .int .u32 (i3 : Nat), .int .u32 (i4 : Nat), .slice A bl.length c] 34 (0, 0))).alloc zeroC8 from rfl] at *
  generalize hbx : w.heap.size = bx at HX HRx HS ⊢
  have HBx := Lib.hid (show w.heap.size ≤ bx by omega)
  clear hbx
  generalize (w.alloc (.cells #[.bool sd, .int .u32 (so : Nat), .int .u32 (i0 : Nat), .int .u32 (i1 : Nat), .int .u32 (i2 : Nat), .int .u32 (i3 : Nat), .int .u32 (i4 : Nat), .slice A bl.length c] 34 (0, 0))).alloc zeroC8 = wa at *
  obtain ⟨rx, hrx⟩ : ∃ rx, rx = bx + 1 := ⟨_, rfl⟩
  rw [← hrx] at HRx HS ⊢
  clear hrx
  refine (rpright_any sd so i0 i1 i2 i3 i4 bl A c _ (HT.out.below HB.out)).mono ?_
  rintro e w1 ⟨rfl, hb⟩
  have HX1 := Lib.hid ((Fr.of hb).heap HX.out (fun h => h))
  have HRx1 := Lib.hid ((Fr.of hb).heap HRx.out (fun h => h))
  have HB1 := Lib.hid (HB.out.trans (hb.mono HB.out.size))
  have HS1 := Lib.hid (show bx < rx ∧ rx < w1.heap.size by have := HS.out; have := hb.size; omega)
  clear hb HX HRx HB HS
  by_cases hr : rightR ⟨sd, so, i0, i1, i2, i3, i4, bl⟩ = true
  · have HC := Lib.hid (show wrC ⟨sd, so, i0, i1, i2, i3, i4, bl⟩ = (bl.length, typR sd, encR ⟨sd, so, i0, i1, i2, i3, i4, bl⟩) ∧ wrE ⟨sd, so, i0, i1, i2, i3, i4, bl⟩ = 0 by rw [wrC, wrE, if_pos hr, if_pos hr]; exact ⟨rfl, rfl⟩)
    rw [hr]
    have hl8 : bl.length ≤ 8 := by
      have h := (rightR_iff.1 hr).2.1
      unfold mostN at h
      split at h <;> simp only at h <;> omega
    have hw8 : IntKind.u8.wrap (bl.length : Int) = (bl.length : Int) := by rw [wrap_u8]; omega
    obtain ⟨k0, k1, k2, k3, k4, k5, k6, k7⟩ := cells8 HX1.out
    go_upto_region 5 with fail
    have hs : RWs w bx rx w1.heap.size (w1.heap.size + 1) (.cells #[.bool sd, .int .u32 (so : Nat), .int .u32 (i0 : Nat), .int .u32 (i1 : Nat), .int .u32 (i2 : Nat), .int .u32 (i3 : Nat), .int .u32 (i4 : Nat), .slice A bl.length c] 34 (0, 0)) (.cells #[.int .u8 (bl.length : Nat), .int .u8 201, .slice none 0 0] 40 (0, 0)) none [] ((w1.alloc (.cells #[.int .u8 (bl.length : Nat), .int .u8 201, .slice none 0 0] 40)).alloc (.cells #[.slice none 0 0] 105)) := by
      have h1 := heap_alloc_new w1 (.cells #[.int .u8 (bl.length : Nat), .int .u8 201, .slice none 0 0] 40 (0, 0))
      have f1 := Fr.alloc w1 (.cells #[.int .u8 (bl.length : Nat), .int .u8 201, .slice none 0 0] 40 (0, 0))
      have f2 := Fr.alloc (w1.alloc (.cells #[.int .u8 (bl.length : Nat), .int .u8 201, .slice none 0 0] 40 (0, 0))) (.cells #[.slice none 0 0] 105 (0, 0))
      have hw := wr_new (w1.alloc (.cells #[.int .u8 (bl.length : Nat), .int .u8 201, .slice none 0 0] 40 (0, 0)))
      rw [World.size_alloc] at hw
      have hb := (HB1.out.alloc HB1.out.size (.cells #[.int .u8 (bl.length : Nat), .int .u8 201, .slice none 0 0] 40 (0, 0)))
      exact ⟨hw, f2.heap (f1.heap HX1.out (fun h => h)) (fun h => h), f2.heap (f1.heap HRx1.out (fun h => h)) (fun h => h), f2.heap h1 (fun h => h), hb.alloc hb.size _, HBx.out, HS1.out.1, HS1.out.2, Nat.lt_succ_self _⟩
    have HS := Lib.hid hs
    generalize (w1.alloc (.cells #[.int .u8 (bl.length : Nat), .int .u8 201, .slice none 0 0] 40)).alloc (.cells #[.slice none 0 0] 105) = w2 at *
    generalize w1.heap.size + 1 = pb at *
    generalize w1.heap.size = cb at *
    clear hs k0 k1 k2 k3 k4 k5 k6 k7 HX1 HRx1 HB1 HS1 HBx hr
    obtain ⟨k0, k1, k2, k3, k4, k5, k6, k7⟩ := cells8 HS.out.rp
    go_wp2_with fail
    refine (wnum_n pb pb none [] so w2 HS.out.wr HO.out.so (by decide)).mono ?_
    rintro e w3 ⟨rfl, hp⟩
    obtain ⟨o3, h3⟩ := HS.out.step hp
    have HS3 := Lib.hid h3
    clear HS hp h3 k0 k1 k2 k3 k4 k5 k6 k7
    obtain ⟨k0, k1, k2, k3, k4, k5, k6, k7⟩ := cells8 HS3.out.rp
    go_upto_if 21 with fail
    go_cut [] (fun wx => ∃ o9, RWs w bx rx cb pb (.cells #[.bool sd, .int .u32 (so : Nat), .int .u32 (i0 : Nat), .int .u32 (i1 : Nat), .int .u32 (i2 : Nat), .int .u32 (i3 : Nat), .int .u32 (i4 : Nat), .slice A bl.length c] 34 (0, 0)) (.cells #[.int .u8 (bl.length : Nat), .int .u8 (typR sd : Nat), .slice none 0 0] 40 (0, 0)) o9 (headR ⟨sd, so, i0, i1, i2, i3, i4, bl⟩) wx)
    case first =>
      cases sd
      · have h4 := HS3.out
        rw [show [] ++ bytesL so 4 = headR ⟨false, so, i0, i1, i2, i3, i4, bl⟩ by simp [headR]] at h4
        have HS4 := Lib.hid h4
        clear h4 HS3
        go_wp2_with fail
        go_meet
        case rel => exact ⟨_, HS4.out⟩
      · obtain ⟨m0, m1, m2, z0, z1, z2⟩ := cells3 HS3.out.c
        have h4 := HS3.out.set 1 (.int .u8 200)
        rw [show (#[Value.int .u8 (bl.length : Nat), .int .u8 201, .slice none 0 0].setIfInBounds 1 (.int .u8 200)) = #[.int .u8 (bl.length : Nat), .int .u8 200, .slice none 0 0] from rfl] at h4
        have HS4 := Lib.hid h4
        clear h4 HS3
        go_upto_region 8 with fail
        generalize w3.setCell ⟨cb, 1, none⟩ (.int .u8 200) = w4 at *
        clear m0 m1 m2 z0 z1 z2 k0 k1 k2 k3 k4 k5 k6 k7
        obtain ⟨k0, k1, k2, k3, k4, k5, k6, k7⟩ := cells8 HS4.out.rp
        go_wp2_with fail
        refine (winfo_any pb pb o3 _ i0 i1 i2 i3 i4 w4 HS4.out.wr HO.out.i0 HO.out.i1 HO.out.i2 HO.out.i3 HO.out.i4 (by simp [bytesL_len])).mono ?_
        rintro e w5 ⟨rfl, hp⟩
        obtain ⟨o5, h5⟩ := HS4.out.step hp
        rw [show [] ++ bytesL so 4 ++ encI ⟨true, 0, i0, i1, i2, i3, i4, []⟩ = headR ⟨true, so, i0, i1, i2, i3, i4, bl⟩ by simp [headR, encI]] at h5
        have HS5 := Lib.hid h5
        clear h5 hp HS4
        go_wp2_with fail
        go_meet
        case rel => exact ⟨_, HS5.out⟩
    case rest =>
      obtain ⟨o9, h9⟩ := hcut
      have HS9 := Lib.hid h9
      clear h9 HS3 k0 k1 k2 k3 k4 k5 k6 k7
      generalize wc = w9 at *
      obtain ⟨k0, k1, k2, k3, k4, k5, k6, k7⟩ := cells8 HS9.out.rp
      have HHl := Lib.hid (show (headR ⟨sd, so, i0, i1, i2, i3, i4, bl⟩).length ≤ 24 by rw [headR_len]; unfold aheadN; split <;> decide)
      have HEn := Lib.hid (show encR ⟨sd, so, i0, i1, i2, i3, i4, bl⟩ = headR ⟨sd, so, i0, i1, i2, i3, i4, bl⟩ ++ encBs bl from rfl)
      have HOb := Lib.hid (show ∀ b ∈ bl, b.Ok from HO.out.bl)
      go_wp2_with fail
      clear k0 k1 k2 k3 k4 k5 k6 k7
      generalize headR ⟨sd, so, i0, i1, i2, i3, i4, bl⟩ = H at *
      go_loopw [29] (fun i wr => ∃ (j : Nat) (ob : Option Nat), j ≤ bl.length ∧ i = .int .i64 j ∧ RWs w bx rx cb pb (.cells #[.bool sd, .int .u32 (so : Nat), .int .u32 (i0 : Nat), .int .u32 (i1 : Nat), .int .u32 (i2 : Nat), .int .u32 (i3 : Nat), .int .u32 (i4 : Nat), .slice A bl.length c] 34 (0, 0)) (.cells #[.int .u8 (bl.length : Nat), .int .u8 (typR sd : Nat), .slice none 0 0] 40 (0, 0)) ob (H ++ encBs (bl.take j)) wr) (fun i _ => bl.length - (intOf i).toNat)
      case atStart => exact ⟨0, o9, Nat.zero_le _, rfl, by simpa [encBs] using HS9.out⟩
      case round =>
        obtain ⟨j, ob, hj, rfl, hs⟩ := hrel
        have HS := Lib.hid hs
        clear hs
        by_cases hlt : j < bl.length
        · obtain ⟨b, o, rfl, hbl⟩ := HA.out (by omega)
          obtain ⟨c0, c1, c2, c3, c4, c5, c6⟩ := (HT.out.below HS.out.below).at j hlt
          have hbl2 := Nat.lt_of_lt_of_le hbl HS.out.below.size
          have h0 : (0 : Int) ≤ (j : Int) := by omega
          have h1 : (j : Int) < (bl.length : Int) := by omega
          have hst := encBs_take bl j hlt
          have hok := HOb.out _ (List.getElem_mem hlt)
          have hle : (encBs (bl.take j)).length = 24 * j := by rw [encBs_len]; simp; omega
          have hHl := HHl.out
          generalize bl[j] = bj at *
          obtain ⟨s, p, m, h, jj, la, d⟩ := bj
          have HSt := Lib.hid hst
          have HOk := Lib.hid hok
          have HLn := Lib.hid (show (H ++ encBs (bl.take j)).length ≤ 100000 by rw [List.length_append]; omega)
          clear hst hok hle hHl
          have HS2 := Lib.hid (HS.out.fr0 (below_alloc (.cells #[.int .u32 (s : Nat), .int .u8 (p : Nat), .int .i32 m, .int .u32 (h : Nat), .int .u32 (jj : Nat), .int .u32 (la : Nat), .int .u32 (d : Nat)] 86 (0, 0))))
          go_wp2_with fail
          refine (wblock_any pb pb ob _ s p m h jj la d _ HS2.out.wr HOk.out HLn.out).mono ?_
          rintro e w5 ⟨rfl, hp⟩
          obtain ⟨o5, h5⟩ := HS2.out.step hp
          rw [List.append_assoc, ← HSt.out] at h5
          have HS5 := Lib.hid h5
          clear h5 hp HS HS2
          go_wp2_with fail
          go_roundw
          case rel => exact ⟨j + 1, o5, by omega, by go_num, HS5.out⟩
          case measure => simp [intOf]; omega
        · have : j = bl.length := by omega
          subst this
          rw [List.take_length, ← HEn.out] at HS
          have hle : (encR ⟨sd, so, i0, i1, i2, i3, i4, bl⟩).length ≤ 1000 := by rw [encR_len]; unfold aheadN; simp only; split <;> omega
          have HLe := Lib.hid hle
          clear hle
          generalize encR ⟨sd, so, i0, i1, i2, i3, i4, bl⟩ = E at *
          go_wp2_with fail
          refine (wbytes_any pb pb ob _ wr HS.out.wr (by have := HLe.out; omega)).mono ?_
          rintro e w3 ⟨u, rfl, hu, hb⟩
          obtain ⟨Au, cu, rfl⟩ := own_slice hu
          have hux := own_bsx hu
          have HNv := Lib.hid (own_newv hu HS.out.below.size)
          have hcl := obj_lt HS.out.c
          have hrl := obj_lt HS.out.res
          have HS3 := Lib.hid (HS.out.fr0 hb)
          have hf2 := Fr.setCell w3 ⟨cb, 2, none⟩ (.slice Au E.length cu)
          have hux2 := hux.fr hf2 (fun k _ hk (hx : k = cb) => by omega)
          have hs4 := HS3.out.set 2 (.slice Au E.length cu)
          rw [show (#[Value.int .u8 (bl.length : Nat), .int .u8 (typR sd : Nat), .slice none 0 0].setIfInBounds 2 (.slice Au E.length cu)) = #[.int .u8 (bl.length : Nat), .int .u8 (typR sd : Nat), .slice Au E.length cu] from rfl] at hs4
          have HU := Lib.hid (hux2.mono (G' := fun k => k ≠ rx) (fun k _ hk hx => by omega))
          have HS4 := Lib.hid hs4
          obtain ⟨m0, m1, m2, z0, z1, z2⟩ := cells3 HS3.out.c
          clear HS hs4 hf2 hux hux2 hu hb hcl hrl HS3
          go_upto_region 15 with fail
          generalize w3.setCell ⟨cb, 2, none⟩ (.slice Au E.length cu) = w4 at *
          clear m0 m1 m2 z0 z1 z2
          obtain ⟨m0, m1, m2, _, _, _⟩ := cells3 HS4.out.c
          obtain ⟨n0, n1, n2, z0, z1, z2⟩ := cells3 HS4.out.res
          go_wp2_with fail
          generalize hW : World.setCell _ _ _ = wf
          obtain ⟨hx, hfx⟩ := objs3 HS4.out.res _ _ _ wf hW.symm
          clear hW m0 m1 m2 n0 n1 n2 z0 z1 z2
          obtain ⟨m0, m1, m2, _, _, _⟩ := cells3 hx
          refine bodyPost_ret (v := .tuple #[.agg #[.int .u8 (bl.length : Nat), .int .u8 (typR sd : Nat), .slice Au E.length cu], .int .i64 0]) (by simp [results, Try.results60, go_sem, m0, m1, m2]; try rfl) rfl ?_
          refine HQ.out _ _ ⟨.slice Au E.length cu, by rw [HC.out.1, HC.out.2], by rw [HC.out.1]; exact (HU.out.fr hfx (fun k _ hk (hx : k = rx) => hk hx)).1, ?_⟩
          have h0 := HS4.out.o0
          have h1 := HS4.out.o1
          exact ⟨HS4.out.below.trans (hfx.below HS4.out.below.size (fun k (hk : k = rx) => by omega)), HNv.out⟩
  · have hr' : rightR ⟨sd, so, i0, i1, i2, i3, i4, bl⟩ = false := by simpa using hr
    have HC := Lib.hid (show wrC ⟨sd, so, i0, i1, i2, i3, i4, bl⟩ = (0, 0, []) ∧ wrE ⟨sd, so, i0, i1, i2, i3, i4, bl⟩ = 1 by rw [wrC, wrE, if_neg hr, if_neg hr]; exact ⟨rfl, rfl⟩)
    rw [hr']
    obtain ⟨m0, m1, m2, z0, z1, z2⟩ := cells3 HRx1.out
    clear hr hr'
    go_wp2_with fail
    generalize hW : World.setCell _ _ _ = wf
    obtain ⟨hx, hfx⟩ := objs3 HRx1.out _ _ _ wf hW.symm
    clear hW m0 m1 m2 z0 z1 z2
    obtain ⟨m0, m1, m2, z0, z1, z2⟩ := cells3 hx
    refine bodyPost_ret (v := .tuple #[.agg #[.int .u8 0, .int .u8 0, .slice none 0 0], .int .i64 1]) (by simp [results, Try.results60, go_sem, m0, m1, m2]; try rfl) rfl ?_
    exact HQ.out _ _ ⟨.slice none 0 0, by rw [HC.out.1, HC.out.2]; rfl, by rw [HC.out.1]; exact BS.nil _, HB1.out.trans (hfx.below HB1.out.size (fun k (hk : k = rx) => by have := HS1.out; have := HBx.out; omega)), NewV.nil _ _ _⟩
theorem rpwrite_any (sd : Bool) (so i0 i1 i2 i3 i4 : Nat) (bl : List DB) (A : Option Addr) (c : Nat) (w : World) (h : BlS w (.slice A bl.length c) bl) (ho : DR.Ok ⟨sd, so, i0, i1, i2, i3, i4, bl⟩) :
    Calls Try.prog 60 #[.agg #[.bool sd, .int .u32 (so : Nat), .int .u32 (i0 : Nat), .int .u32 (i1 : Nat), .int .u32 (i2 : Nat), .int .u32 (i3 : Nat), .int .u32 (i4 : Nat), .slice A bl.length c]] w
      (WritePost w ⟨sd, so, i0, i1, i2, i3, i4, bl⟩) :=
  (rpwrite_x sd so i0 i1 i2 i3 i4 bl A c w h ho).mono fun _ _ ⟨u, he, hu, hb, _⟩ => ⟨u, he, hu, hb⟩
end Go.Proofs.Ytphofpemblindaa
/- The walks of size and Right. -/
namespace Go.Proofs.Ytphofpemblindaa
open Go.RowKit
set_option maxHeartbeats 400000 in
theorem csize_any (n y : Nat) (A : Option Addr) (c : Nat) (b : List UInt8) (w : World) (hb : b.length ≤ 9223372036854775000) :
    Calls Try.prog 42 #[.agg #[.int .u8 (n : Nat), .int .u8 (y : Nat), .slice A b.length c]] w fun e w' => e = .returned (.int .i64 (4 + b.length : Nat)) ∧ Below w.heap.size w w' := by
  refine calls_q fun Q HQ => ?_
  go_enter Try.func42, Try.ntmps42
  go_wp2_with fail
  exact HQ.out _ _ ⟨ret_int (by omega), below_alloc _⟩
set_option maxHeartbeats 400000 in
theorem cright_any (n y : Nat) (A : Option Addr) (c : Nat) (b : List UInt8) (w : World) (hb : b.length ≤ 9223372036854775000) :
    Calls Try.prog 41 #[.agg #[.int .u8 (n : Nat), .int .u8 (y : Nat), .slice A b.length c]] w fun e w' => e = .returned (.bool (rightC (n, y, b))) ∧ Below w.heap.size w w' := by
  have HS := Lib.hid (fun w => csize_any n y A c b w hb)
  refine calls_q fun Q HQ => ?_
  by_cases h31 : (n : Int) ≤ 31
  · by_cases h4 : (b.length : Int) % 4 = 0
    · go_enter Try.func41, Try.ntmps41
      go_wp2_with fail
      refine (HS.out _).mono ?_
      rintro e w1 ⟨rfl, hb1⟩
      have HB := Lib.hid ((below_alloc (w := w) (.cells #[.int .u8 (n : Nat), .int .u8 (y : Nat), .slice A b.length c] 40)).trans (hb1.mono (by simp)))
      clear hb1
      go_wp2_with fail
      all_goals (refine HQ.out _ _ ⟨ret_bool ?_, HB.out⟩; rw [rightC, Bool.eq_iff_iff]; simp; try omega)
    · go_enter Try.func41, Try.ntmps41
      go_wp2_with fail
      refine HQ.out _ _ ⟨ret_bool ?_, below_alloc _⟩
      rw [rightC, Bool.eq_iff_iff]; simp; omega
  · go_enter Try.func41, Try.ntmps41
    go_wp2_with fail
    refine HQ.out _ _ ⟨ret_bool ?_, below_alloc _⟩
    rw [rightC, Bool.eq_iff_iff]; simp; omega
end Go.Proofs.Ytphofpemblindaa
