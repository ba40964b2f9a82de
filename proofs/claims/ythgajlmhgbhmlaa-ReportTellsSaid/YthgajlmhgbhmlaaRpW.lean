/- The walks of writeInfo and writeBlock: numbers onto a writer. -/
import Derived.Test.YthgajlmhgbhmlaaRp
import Derived.Test.YthgajlmhgbhmlaaCW
import Derived.Test.YthgajlmhgbhmlaaWireW3
import Derived.Test.YthgajlmhgbhmlaaWireW4
namespace Go.Proofs.Ythgajlmhgbhmlaa
open Go.RowKit

theorem cells5 {w : World} {b : Nat} {x0 x1 x2 x3 x4 : Value} {t : TypeId} (h : w.heap[b]? = some (.cells #[x0, x1, x2, x3, x4] t (0, 0))) :
    w.cell? ⟨b, 0, none⟩ = some x0 ∧ w.cell? ⟨b, 1, none⟩ = some x1 ∧ w.cell? ⟨b, 2, none⟩ = some x2 ∧ w.cell? ⟨b, 3, none⟩ = some x3 ∧ w.cell? ⟨b, 4, none⟩ = some x4 := by
  have k := obj_cell h
  exact ⟨k 0, k 1, k 2, k 3, k 4⟩
theorem cells7 {w : World} {b : Nat} {x0 x1 x2 x3 x4 x5 x6 : Value} {t : TypeId} (h : w.heap[b]? = some (.cells #[x0, x1, x2, x3, x4, x5, x6] t (0, 0))) :
    w.cell? ⟨b, 0, none⟩ = some x0 ∧ w.cell? ⟨b, 1, none⟩ = some x1 ∧ w.cell? ⟨b, 2, none⟩ = some x2 ∧ w.cell? ⟨b, 3, none⟩ = some x3 ∧ w.cell? ⟨b, 4, none⟩ = some x4 ∧ w.cell? ⟨b, 5, none⟩ = some x5 ∧ w.cell? ⟨b, 6, none⟩ = some x6 := by
  have k := obj_cell h
  exact ⟨k 0, k 1, k 2, k 3, k 4, k 5, k 6⟩
/-- a number of four bytes, of a field -/
theorem wnum_n (B pb : Nat) (ob : Option Nat) (l : List UInt8) (n : Nat) (w : World) (hw : Wr B w pb ob l) (hn : n < 4294967296) (hm : l.length ≤ 140737488300000) :
    Calls Try.prog 18 #[.pointer (some ⟨pb, 0, none⟩), .int .u32 (n : Nat)] w fun e w' => e = .returned (.tuple #[]) ∧ WPost B w pb ob (l ++ bytesL n 4) w' := by
  have h := wnum_any B pb ob l n w hw ⟨by omega, by omega⟩ hm
  rw [Int.toNat_natCast, show (bytesI n 4) = bytesL n 4 from bytesI_n n 4 (by decide)] at h
  exact h
theorem wbyte_n (B pb : Nat) (ob : Option Nat) (l : List UInt8) (n : Nat) (w : World) (hw : Wr B w pb ob l) (hn : n < 256) (hm : l.length ≤ 140737488300000) :
    Calls Try.prog 37 #[.pointer (some ⟨pb, 0, none⟩), .int .u8 (n : Nat)] w fun e w' => e = .returned (.tuple #[]) ∧ WPost B w pb ob (l ++ bytesL n 1) w' := by
  have h := wbyte_any B pb ob l n w hw ⟨by omega, by omega⟩ hm
  rw [Int.toNat_natCast, show (bytesI n 1) = bytesL n 1 from bytesI_n n 1 (by decide)] at h
  exact h
theorem wthree_m (B pb : Nat) (ob : Option Nat) (l : List UInt8) (m : Int) (w : World) (hw : Wr B w pb ob l) (hm : l.length ≤ 140737488300000) :
    Calls Try.prog 38 #[.pointer (some ⟨pb, 0, none⟩), .int .u32 (IntKind.u32.wrap m)] w fun e w' => e = .returned (.tuple #[]) ∧ WPost B w pb ob (l ++ bytesL (m24 m) 3) w' := by
  have hb : bytesL (m24 m) 3 = bytesI (IntKind.u32.wrap m).toNat 3 := by
    rw [show bytesI (IntKind.u32.wrap m).toNat 3 = bytesL (IntKind.u32.wrap m).toNat 3 from bytesI_n _ 3 (by decide), ← bytesL_mod (IntKind.u32.wrap m).toNat 3]
    congr 1
    rw [wrap_u32]
    unfold m24
    omega
  rw [hb]
  exact wthree_any B pb ob l _ w hw ⟨by rw [wrap_u32]; omega, by rw [wrap_u32]; omega⟩ hm
set_option maxHeartbeats 1000000 in
theorem winfo_any (B pb : Nat) (ob : Option Nat) (l : List UInt8) (i0 i1 i2 i3 i4 : Nat) (w : World) (hw : Wr B w pb ob l) (a0 : i0 < 4294967296) (a1 : i1 < 4294967296) (a2 : i2 < 4294967296) (a3 : i3 < 4294967296) (a4 : i4 < 4294967296) (hl : l.length ≤ 100000) :
    Calls Try.prog 19 #[.pointer (some ⟨pb, 0, none⟩), .agg #[.int .u32 (i0 : Nat), .int .u32 (i1 : Nat), .int .u32 (i2 : Nat), .int .u32 (i3 : Nat), .int .u32 (i4 : Nat)]] w fun e w' => e = .returned (.tuple #[]) ∧ WPost B w pb ob (l ++ (encI ⟨true, 0, i0, i1, i2, i3, i4, []⟩)) w' := by
  have HS := Lib.hid (CW.new hw (cs := #[.int .u32 (i0 : Nat), .int .u32 (i1 : Nat), .int .u32 (i2 : Nat), .int .u32 (i3 : Nat), .int .u32 (i4 : Nat)]) (t := 24))
  have HE := Lib.hid (show l ++ (encI ⟨true, 0, i0, i1, i2, i3, i4, []⟩) = l ++ bytesL i0 4 ++ bytesL i1 4 ++ bytesL i2 4 ++ bytesL i3 4 ++ bytesL i4 4 by simp [encI])
  clear hw
  refine calls_q fun Q HQ => ?_
  rw [HE.out] at HQ
  clear HE
  go_enter Try.func19, Try.ntmps19
  go_wp2_with fail
  generalize w.alloc (.cells #[.int .u32 (i0 : Nat), .int .u32 (i1 : Nat), .int .u32 (i2 : Nat), .int .u32 (i3 : Nat), .int .u32 (i4 : Nat)] 24) = w1 at *
  generalize w.heap.size = bx at *
  refine (wnum_n B pb ob _ i0 w1 HS.out.wr a0 (by omega)).mono ?_
  rintro e w2 ⟨rfl, hp⟩
  obtain ⟨o2, h2⟩ := HS.out.step hp
  have H2 := Lib.hid h2
  clear HS hp h2
  obtain ⟨k0, k1, k2, k3, k4⟩ := cells5 H2.out.box
  go_wp2_with fail
  refine (wnum_n B pb o2 _ i1 w2 H2.out.wr a1 (by simp only [List.length_append, bytesL_len]; omega)).mono ?_
  rintro e w3 ⟨rfl, hp⟩
  obtain ⟨o3, h3⟩ := H2.out.step hp
  have H3 := Lib.hid h3
  clear H2 hp h3 k0 k1 k2 k3 k4
  obtain ⟨k0, k1, k2, k3, k4⟩ := cells5 H3.out.box
  go_wp2_with fail
  refine (wnum_n B pb o3 _ i2 w3 H3.out.wr a2 (by simp only [List.length_append, bytesL_len]; omega)).mono ?_
  rintro e w4 ⟨rfl, hp⟩
  obtain ⟨o4, h4⟩ := H3.out.step hp
  have H4 := Lib.hid h4
  clear H3 hp h4 k0 k1 k2 k3 k4
  obtain ⟨k0, k1, k2, k3, k4⟩ := cells5 H4.out.box
  go_wp2_with fail
  refine (wnum_n B pb o4 _ i3 w4 H4.out.wr a3 (by simp only [List.length_append, bytesL_len]; omega)).mono ?_
  rintro e w5 ⟨rfl, hp⟩
  obtain ⟨o5, h5⟩ := H4.out.step hp
  have H5 := Lib.hid h5
  clear H4 hp h5 k0 k1 k2 k3 k4
  obtain ⟨k0, k1, k2, k3, k4⟩ := cells5 H5.out.box
  go_wp2_with fail
  refine (wnum_n B pb o5 _ i4 w5 H5.out.wr a4 (by simp only [List.length_append, bytesL_len]; omega)).mono ?_
  rintro e w6 ⟨rfl, hp⟩
  obtain ⟨o6, h6⟩ := H5.out.step hp
  have H6 := Lib.hid h6
  clear H5 hp h6 k0 k1 k2 k3 k4
  go_wp2_with fail
  go_end0
  exact HQ.out _ _ ⟨rfl, H6.out.post⟩
set_option maxHeartbeats 1000000 in
theorem wblock_any (B pb : Nat) (ob : Option Nat) (l : List UInt8) (s p : Nat) (m : Int) (h j la d : Nat) (w : World) (hw : Wr B w pb ob l) (hb : DB.Ok ⟨s, p, m, h, j, la, d⟩) (hl : l.length ≤ 100000) :
    Calls Try.prog 20 #[.pointer (some ⟨pb, 0, none⟩), .agg #[.int .u32 (s : Nat), .int .u8 (p : Nat), .int .i32 m, .int .u32 (h : Nat), .int .u32 (j : Nat), .int .u32 (la : Nat), .int .u32 (d : Nat)]] w fun e w' => e = .returned (.tuple #[]) ∧ WPost B w pb ob (l ++ (encB ⟨s, p, m, h, j, la, d⟩)) w' := by
  have HS := Lib.hid (CW.new hw (cs := #[.int .u32 (s : Nat), .int .u8 (p : Nat), .int .i32 m, .int .u32 (h : Nat), .int .u32 (j : Nat), .int .u32 (la : Nat), .int .u32 (d : Nat)]) (t := 56))
  have HE := Lib.hid (show l ++ (encB ⟨s, p, m, h, j, la, d⟩) = l ++ bytesL s 4 ++ bytesL p 1 ++ bytesL (m24 m) 3 ++ bytesL h 4 ++ bytesL j 4 ++ bytesL la 4 ++ bytesL d 4 by simp [encB])
  clear hw
  refine calls_q fun Q HQ => ?_
  rw [HE.out] at HQ
  clear HE
  go_enter Try.func20, Try.ntmps20
  go_wp2_with fail
  generalize w.alloc (.cells #[.int .u32 (s : Nat), .int .u8 (p : Nat), .int .i32 m, .int .u32 (h : Nat), .int .u32 (j : Nat), .int .u32 (la : Nat), .int .u32 (d : Nat)] 56) = w1 at *
  generalize w.heap.size = bx at *
  refine (wnum_n B pb ob _ s w1 HS.out.wr hb.s (by omega)).mono ?_
  rintro e w2 ⟨rfl, hp⟩
  obtain ⟨o2, h2⟩ := HS.out.step hp
  have H2 := Lib.hid h2
  clear HS hp h2
  obtain ⟨k0, k1, k2, k3, k4, k5, k6⟩ := cells7 H2.out.box
  go_wp2_with fail
  refine (wbyte_n B pb o2 _ p w2 H2.out.wr hb.p (by simp only [List.length_append, bytesL_len]; omega)).mono ?_
  rintro e w3 ⟨rfl, hp⟩
  obtain ⟨o3, h3⟩ := H2.out.step hp
  have H3 := Lib.hid h3
  clear H2 hp h3 k0 k1 k2 k3 k4 k5 k6
  obtain ⟨k0, k1, k2, k3, k4, k5, k6⟩ := cells7 H3.out.box
  go_wp2_with fail
  refine (wthree_m B pb o3 _ m w3 H3.out.wr (by simp [bytesL_len]; omega)).mono ?_
  rintro e w4 ⟨rfl, hp⟩
  obtain ⟨o4, h4⟩ := H3.out.step hp
  have H4 := Lib.hid h4
  clear H3 hp h4 k0 k1 k2 k3 k4 k5 k6
  obtain ⟨k0, k1, k2, k3, k4, k5, k6⟩ := cells7 H4.out.box
  go_wp2_with fail
  refine (wnum_n B pb o4 _ h w4 H4.out.wr hb.h (by simp only [List.length_append, bytesL_len]; omega)).mono ?_
  rintro e w5 ⟨rfl, hp⟩
  obtain ⟨o5, h5⟩ := H4.out.step hp
  have H5 := Lib.hid h5
  clear H4 hp h5 k0 k1 k2 k3 k4 k5 k6
  obtain ⟨k0, k1, k2, k3, k4, k5, k6⟩ := cells7 H5.out.box
  go_wp2_with fail
  refine (wnum_n B pb o5 _ j w5 H5.out.wr hb.j (by simp only [List.length_append, bytesL_len]; omega)).mono ?_
  rintro e w6 ⟨rfl, hp⟩
  obtain ⟨o6, h6⟩ := H5.out.step hp
  have H6 := Lib.hid h6
  clear H5 hp h6 k0 k1 k2 k3 k4 k5 k6
  obtain ⟨k0, k1, k2, k3, k4, k5, k6⟩ := cells7 H6.out.box
  go_wp2_with fail
  refine (wnum_n B pb o6 _ la w6 H6.out.wr hb.l (by simp only [List.length_append, bytesL_len]; omega)).mono ?_
  rintro e w7 ⟨rfl, hp⟩
  obtain ⟨o7, h7⟩ := H6.out.step hp
  have H7 := Lib.hid h7
  clear H6 hp h7 k0 k1 k2 k3 k4 k5 k6
  obtain ⟨k0, k1, k2, k3, k4, k5, k6⟩ := cells7 H7.out.box
  go_wp2_with fail
  refine (wnum_n B pb o7 _ d w7 H7.out.wr hb.d (by simp only [List.length_append, bytesL_len]; omega)).mono ?_
  rintro e w8 ⟨rfl, hp⟩
  obtain ⟨o8, h8⟩ := H7.out.step hp
  have H8 := Lib.hid h8
  clear H7 hp h8 k0 k1 k2 k3 k4 k5 k6
  go_wp2_with fail
  go_end0
  exact HQ.out _ _ ⟨rfl, H8.out.post⟩
end Go.Proofs.Ythgajlmhgbhmlaa
