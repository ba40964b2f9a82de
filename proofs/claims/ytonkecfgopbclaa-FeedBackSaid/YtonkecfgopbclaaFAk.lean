/- The walk of layer 9's awake. -/
import Derived.Test.YtonkecfgopbclaaFSm
import Derived.Test.YtonkecfgopbclaaFCs
import Derived.Test.YtonkecfgopbclaaFRi
import Derived.Deep.RegionHeld3
namespace Go.Proofs.Ytonkecfgopbclaa
open Go.RowKit

theorem fread_v (n y : Nat) (v : Value) (B : List UInt8) (w : World) (hv : BS w v B) (hl : B.length ≤ 1000) :
    Calls Try.prog 7 #[.agg #[.int .u8 (n : Nat), .int .u8 (y : Nat), v]] w (FRPost w (n, y, B)) := by
  obtain ⟨A, c, rfl, _⟩ := bs_parts hv
  exact fread_any n y A c B w hv hl
theorem cright_f {r : Bool} (n y : Nat) (v : Value) (B : List UInt8) (w : World) (hv : BS w v B) (hl : B.length ≤ 1000) (h : rightC (n, y, B) = r) :
    Calls Try.prog 12 #[.agg #[.int .u8 (n : Nat), .int .u8 (y : Nat), v]] w fun e w' => e = .returned (.bool r) ∧ Below w.heap.size w w' := by
  obtain ⟨A, c, rfl, _⟩ := bs_parts hv
  have := cright_any n y A c B w (by omega)
  rwa [h] at this
/-! ### the messages of awake -/
def lossA : List Int := [10, 12, 26, 27]
def mA : DM := ⟨3, 1, 2, [], lossA⟩
def mP : DM := ⟨1, 1, 2, [], []⟩
def lA : List UInt8 := [0, 0, 0, 1, 0, 0, 0, 2, 0, 10, 128, 2, 0, 27, 0, 0]
def lP : List UInt8 := [0, 0, 0, 1, 0, 0, 0, 2]
theorem mA_ok : mA.Ok := ⟨by decide, by decide, fun a ha => by simp [mA] at ha, fun x hx => by
  simp only [mA, lossA, List.mem_cons, List.not_mem_nil, or_false] at hx
  rcases hx with rfl | rfl | rfl | rfl <;> exact ⟨by decide, by decide⟩⟩
theorem mP_ok : mP.Ok := ⟨by decide, by decide, fun a ha => by simp [mP] at ha, fun x hx => by simp [mP] at hx⟩
theorem mA_right : rightM mA = true := by decide
theorem mP_right : rightM mP = true := by decide
theorem mN_right : rightM ⟨3, 0, 0, [], []⟩ = false := by decide
theorem mA_chunk : chunkM mA = (1, 205, lA) := by decide
theorem mP_chunk : chunkM mP = (1, 206, lP) := by decide
theorem mA_wr : wrCM mA = (1, 205, lA) ∧ wrEM mA = 0 := by
  rw [wrCM, wrEM, if_pos mA_right, if_pos mA_right]
  exact ⟨mA_chunk, rfl⟩
theorem mP_wr : wrCM mP = (1, 206, lP) ∧ wrEM mP = 0 := by
  rw [wrCM, wrEM, if_pos mP_right, if_pos mP_right]
  exact ⟨mP_chunk, rfl⟩
theorem mA_rd : rdEM (1, 205, lA) = 0 ∧ readM (1, 205, lA) = mA := by
  rw [← mA_chunk]
  exact ⟨(back_m mA_right mA_ok).2.2.1, (back_m mA_right mA_ok).2.2.2⟩
theorem mC_rd : rdEM (0, 9, []) = 5 ∧ readM (0, 9, []) = DM.zero := by
  have h : rdEM (0, 9, []) = 5 := by decide
  exact ⟨h, readM_kind (by rw [h]; decide)⟩
theorem wA9 (v : Value) (w : World) (hv : LoS w v lossA) : Calls Try.prog 9 #[.agg #[.int .i64 3, .int .u32 1, .int .u32 2, .slice none 0 0, v]] w
    fun e w' => ∃ u, e = .returned (.tuple #[.agg #[.int .u8 1, .int .u8 205, u], .int .i64 0]) ∧ BS w' u lA ∧ Below w.heap.size w w' := by
  have h := fwrite_any 3 1 2 (.slice none 0 0) v [] lossA w (AsS.nil w) hv mA_ok
  rw [show (⟨3, 1, 2, [], lossA⟩ : DM) = mA from rfl] at h
  unfold FWPost at h
  rw [mA_wr.1, mA_wr.2] at h
  exact h
theorem wP9 (w : World) : Calls Try.prog 9 #[.agg #[.int .i64 1, .int .u32 1, .int .u32 2, .slice none 0 0, .slice none 0 0]] w
    fun e w' => ∃ u, e = .returned (.tuple #[.agg #[.int .u8 1, .int .u8 206, u], .int .i64 0]) ∧ BS w' u lP ∧ Below w.heap.size w w' := by
  have h := fwrite_any 1 1 2 (.slice none 0 0) (.slice none 0 0) [] [] w (AsS.nil w) (LoS.nil w) mP_ok
  rw [show (⟨1, 1, 2, [], []⟩ : DM) = mP from rfl] at h
  unfold FWPost at h
  rw [mP_wr.1, mP_wr.2] at h
  exact h
theorem rdA9 (v : Value) (w : World) (hv : BS w v lA) : Calls Try.prog 7 #[.agg #[.int .u8 1, .int .u8 205, v]] w
    fun e w' => ∃ va vl, e = .returned (.tuple #[.agg #[.int .i64 3, .int .u32 1, .int .u32 2, va, vl], .int .i64 0]) ∧ AsS w' va [] ∧ LoS w' vl lossA ∧ Below w.heap.size w w' := by
  have h := fread_v 1 205 v lA w hv (by decide)
  unfold FRPost at h
  rw [mA_rd.1, mA_rd.2] at h
  exact h
theorem rdC9 (w : World) : Calls Try.prog 7 #[.agg #[.int .u8 0, .int .u8 9, .slice none 0 0]] w
    fun e w' => ∃ va vl, e = .returned (.tuple #[.agg #[.int .i64 0, .int .u32 0, .int .u32 0, va, vl], .int .i64 5]) ∧ AsS w' va [] ∧ LoS w' vl [] ∧ Below w.heap.size w w' := by
  have h := fread_v 0 9 (.slice none 0 0) [] w (BS.nil w) (by decide)
  unfold FRPost at h
  rw [mC_rd.1, mC_rd.2] at h
  exact h
theorem as_sl {w : World} {v : Value} {l : List (Nat × Nat)} {n : Nat} (h : AsS w v l) (hn : l.length = n) : ∃ A c, v = .slice A n c := by
  obtain ⟨A, c, rfl, _⟩ := h.parts
  subst hn
  exact ⟨A, c, rfl⟩
theorem lo_sl {w : World} {v : Value} {l : List Int} {n : Nat} (h : LoS w v l) (hn : l.length = n) : ∃ A c, v = .slice A n c := by
  obtain ⟨A, c, rfl, _⟩ := h.parts
  subst hn
  exact ⟨A, c, rfl⟩
theorem fbs_sl {w : World} {v : Value} {l : List UInt8} {n : Nat} (h : BS w v l) (hn : l.length = n) : ∃ A c, v = .slice A n c := by
  obtain ⟨A, c, rfl, _⟩ := bs_parts h
  subst hn
  exact ⟨A, c, rfl⟩
theorem lA_lit (w : World) : BS (w.alloc (.cells #[.int .u8 0, .int .u8 0, .int .u8 0, .int .u8 1, .int .u8 0, .int .u8 0, .int .u8 0, .int .u8 2, .int .u8 0, .int .u8 10, .int .u8 128, .int .u8 2, .int .u8 0, .int .u8 27, .int .u8 0, .int .u8 0] 5)) (.slice (some ⟨w.heap.size, 0, none⟩) 16 16) lA :=
  BS.lit w lA 5 (by unfold maxLen; decide)
theorem loss_lit (w : World) : LoS (w.alloc (.cells #[.int .u16 10, .int .u16 12, .int .u16 26, .int .u16 27] 47)) (.slice (some ⟨w.heap.size, 0, none⟩) 4 4) lossA :=
  own_sv (own_lit w 0 47 1 4 [.int .u16 10, .int .u16 12, .int .u16 26, .int .u16 27] rfl (Nat.zero_le _) (by unfold maxLen; decide))
abbrev oC9 (a b : Int) (v : Value) : Obj := .cells #[.int .u8 a, .int .u8 b, v] 29 (0, 0)
abbrev oM9 (k a b : Int) (v u : Value) : Obj := .cells #[.int .i64 k, .int .u32 a, .int .u32 b, v, u] 26 (0, 0)
/-- the boxes of awake -/
structure AS9 (w0 : World) (bm bc bk bp : Nat) (vm vc va vl vp : Value) (w : World) : Prop where
  m : w.heap[bm]? = some (oM9 3 1 2 (.slice none 0 0) vm)
  c : w.heap[bc]? = some (oC9 1 205 vc)
  k : w.heap[bk]? = some (oM9 3 1 2 va vl)
  p : w.heap[bp]? = some (oC9 1 206 vp)
  hm : LoS w vm lossA
  hc : BS w vc lA
  ha : AsS w va []
  hl : LoS w vl lossA
  hp : BS w vp lP
  below : Below w0.heap.size w0 w
section
variable {w0 w w' : World} {bm bc bk bp : Nat} {vm vc va vl vp : Value}
theorem AS9.after (h : AS9 w0 bm bc bk bp vm vc va vl vp w) (hb : Below w.heap.size w w') : AS9 w0 bm bc bk bp vm vc va vl vp w' :=
  ⟨(Fr.of hb).heap h.m (fun h => h), (Fr.of hb).heap h.c (fun h => h), (Fr.of hb).heap h.k (fun h => h), (Fr.of hb).heap h.p (fun h => h), h.hm.below hb, h.hc.below hb, h.ha.below hb, h.hl.below hb, h.hp.below hb, h.below.trans (hb.mono h.below.size)⟩
theorem AS9.alloc (h : AS9 w0 bm bc bk bp vm vc va vl vp w) (o : Obj) : AS9 w0 bm bc bk bp vm vc va vl vp (w.alloc o) := h.after (below_alloc o)
theorem AS9.drew (h : AS9 w0 bm bc bk bp vm vc va vl vp w) : AS9 w0 bm bc bk bp vm vc va vl vp w.drew := h.after (below_drewN (Below.refl _ _) 1)
theorem AS9.cells (h : AS9 w0 bm bc bk bp vm vc va vl vp w) : AS9 w0 bm bc bk bp vm vc va vl vp w ∧
    w.cell? ⟨bm, 0, none⟩ = some (.int .i64 3) ∧ w.cell? ⟨bm, 1, none⟩ = some (.int .u32 1) ∧ w.cell? ⟨bm, 2, none⟩ = some (.int .u32 2) ∧ w.cell? ⟨bm, 3, none⟩ = some (.slice none 0 0) ∧ w.cell? ⟨bm, 4, none⟩ = some vm ∧
    w.cell? ⟨bc, 0, none⟩ = some (.int .u8 1) ∧ w.cell? ⟨bc, 1, none⟩ = some (.int .u8 205) ∧ w.cell? ⟨bc, 2, none⟩ = some vc ∧
    w.cell? ⟨bk, 0, none⟩ = some (.int .i64 3) ∧ w.cell? ⟨bk, 1, none⟩ = some (.int .u32 1) ∧ w.cell? ⟨bk, 2, none⟩ = some (.int .u32 2) ∧ w.cell? ⟨bk, 3, none⟩ = some va ∧ w.cell? ⟨bk, 4, none⟩ = some vl ∧
    w.cell? ⟨bp, 0, none⟩ = some (.int .u8 1) ∧ w.cell? ⟨bp, 1, none⟩ = some (.int .u8 206) ∧ w.cell? ⟨bp, 2, none⟩ = some vp := by
  have m := obj_cell h.m
  have c := obj_cell h.c
  have k := obj_cell h.k
  have p := obj_cell h.p
  exact ⟨h, m 0, m 1, m 2, m 3, m 4, c 0, c 1, c 2, k 0, k 1, k 2, k 3, k 4, p 0, p 1, p 2⟩
end
set_option maxRecDepth 20000 in
set_option maxHeartbeats 4000000 in
theorem awake9_any (w : World) : Calls Try.prog 5 #[] w fun e w' => e = .returned (.bool true) ∧ Below w.heap.size w w' := by
  refine calls_q fun Q HQ => ?_
  have hb0 := below_alloc (w := w) (.cells #[.int .u16 10, .int .u16 12, .int .u16 26, .int .u16 27] 47)
  have hb1 := hb0.alloc hb0.size (oM9 3 1 2 (.slice none 0 0) (.slice (some ⟨w.heap.size, 0, none⟩) 4 4))
  have hx := heap_alloc_new (w.alloc (.cells #[.int .u16 10, .int .u16 12, .int .u16 26, .int .u16 27] 47)) (oM9 3 1 2 (.slice none 0 0) (.slice (some ⟨w.heap.size, 0, none⟩) 4 4))
  rw [World.size_alloc] at hx
  have HM := Lib.hid ((loss_lit w).below (below_alloc (oM9 3 1 2 (.slice none 0 0) (.slice (some ⟨w.heap.size, 0, none⟩) 4 4))))
  have HX := Lib.hid hx
  have HB := Lib.hid hb1
  clear hb0 hb1 hx
  go_enter Try.func5, Try.ntmps5
  go_upto_region 2 with fail
  rw [show (w.alloc (.cells #[.int .u16 10, .int .u16 12, .int .u16 26, .int .u16 27] 47)).alloc (.cells #[.int .i64 3, .int .u32 1, .int .u32 2, .slice none 0 0, .slice (some ⟨w.heap.size, 0, none⟩) 4 4] 26) = (w.alloc (.cells #[.int .u16 10, .int .u16 12, .int .u16 26, .int .u16 27] 47)).alloc (oM9 3 1 2 (.slice none 0 0) (.slice (some ⟨w.heap.size, 0, none⟩) 4 4)) from rfl]
  generalize (w.alloc (.cells #[.int .u16 10, .int .u16 12, .int .u16 26, .int .u16 27] 47)).alloc (oM9 3 1 2 (.slice none 0 0) (.slice (some ⟨w.heap.size, 0, none⟩) 4 4)) = w2 at *
  generalize hvm : Value.slice (some ⟨w.heap.size, 0, none⟩) 4 4 = vm0 at *
  clear hvm
  generalize w.heap.size + 1 = bm at *
  obtain ⟨Am, cm, rfl⟩ := lo_sl HM.out (n := 4) rfl
  obtain ⟨k0, k1, k2, k3, k4⟩ := cells5m HX.out
  go_wp2_with fail
  refine (wA9 _ w2 HM.out).mono ?_
  rintro e w3 ⟨uc, rfl, huc, hb⟩
  obtain ⟨Ac, cc, rfl⟩ := fbs_sl huc (n := 16) rfl
  have hb2 := hb.alloc hb.size (oC9 1 205 (.slice Ac 16 cc))
  have HUc := Lib.hid (huc.below (below_alloc (oC9 1 205 (.slice Ac 16 cc))))
  have HXc := Lib.hid (heap_alloc_new w3 (oC9 1 205 (.slice Ac 16 cc)))
  have HM2 := Lib.hid (HM.out.below hb2)
  have HX2 := Lib.hid ((Fr.of hb2).heap HX.out (fun h => h))
  have HB2 := Lib.hid (HB.out.trans (hb2.mono HB.out.size))
  clear huc hb hb2 HM HX HB k0 k1 k2 k3 k4
  go_upto_region 3 with fail
  rw [show w3.alloc (.cells #[.int .u8 1, .int .u8 205, .slice Ac 16 cc] 29) = w3.alloc (oC9 1 205 (.slice Ac 16 cc)) from rfl]
  generalize w3.alloc (oC9 1 205 (.slice Ac 16 cc)) = w4 at *
  generalize w3.heap.size = bc at *
  obtain ⟨k0, k1, k2, _, _, _⟩ := cells3m HXc.out
  go_wp2_with fail
  refine (rdA9 _ w4 HUc.out).mono ?_
  rintro e w5 ⟨va, vl, rfl, hva, hvl, hb⟩
  obtain ⟨Aa, ca, rfl⟩ := as_sl hva (n := 0) rfl
  obtain ⟨Al, cl, rfl⟩ := lo_sl hvl (n := 4) rfl
  have hb2 := hb.alloc hb.size (oM9 3 1 2 (.slice Aa 0 ca) (.slice Al 4 cl))
  have HVa := Lib.hid (hva.below (below_alloc (oM9 3 1 2 (.slice Aa 0 ca) (.slice Al 4 cl))))
  have HVl := Lib.hid (hvl.below (below_alloc (oM9 3 1 2 (.slice Aa 0 ca) (.slice Al 4 cl))))
  have HXk := Lib.hid (heap_alloc_new w5 (oM9 3 1 2 (.slice Aa 0 ca) (.slice Al 4 cl)))
  have HM3 := Lib.hid (HM2.out.below hb2)
  have HX3 := Lib.hid ((Fr.of hb2).heap HX2.out (fun h => h))
  have HUc2 := Lib.hid (HUc.out.below hb2)
  have HXc2 := Lib.hid ((Fr.of hb2).heap HXc.out (fun h => h))
  have HB3 := Lib.hid (HB2.out.trans (hb2.mono HB2.out.size))
  clear hva hvl hb hb2 HM2 HX2 HUc HXc HB2 k0 k1 k2
  go_upto_region 4 with fail
  rw [show w5.alloc (.cells #[.int .i64 3, .int .u32 1, .int .u32 2, .slice Aa 0 ca, .slice Al 4 cl] 26) = w5.alloc (oM9 3 1 2 (.slice Aa 0 ca) (.slice Al 4 cl)) from rfl]
  generalize w5.alloc (oM9 3 1 2 (.slice Aa 0 ca) (.slice Al 4 cl)) = w6 at *
  generalize w5.heap.size = bk at *
  go_wp2_with fail
  refine (wP9 w6).mono ?_
  rintro e w7 ⟨up, rfl, hup, hb⟩
  obtain ⟨Ap, cp, rfl⟩ := fbs_sl hup (n := 8) rfl
  have hb2 := hb.alloc hb.size (oC9 1 206 (.slice Ap 8 cp))
  have HA := Lib.hid (show AS9 w bm bc bk w7.heap.size (.slice Am 4 cm) (.slice Ac 16 cc) (.slice Aa 0 ca) (.slice Al 4 cl) (.slice Ap 8 cp) _ from
    ⟨(Fr.of hb2).heap HX3.out (fun h => h), (Fr.of hb2).heap HXc2.out (fun h => h), (Fr.of hb2).heap HXk.out (fun h => h), heap_alloc_new w7 (oC9 1 206 (.slice Ap 8 cp)), HM3.out.below hb2, HUc2.out.below hb2, HVa.out.below hb2, HVl.out.below hb2, hup.below (below_alloc _), HB3.out.trans (hb2.mono HB3.out.size)⟩)
  clear hup hb hb2 HX3 HXc2 HXk HM3 HUc2 HVa HVl HB3
  go_upto_region 5 with fail
  rw [show w7.alloc (.cells #[.int .u8 1, .int .u8 206, .slice Ap 8 cp] 29) = w7.alloc (oC9 1 206 (.slice Ap 8 cp)) from rfl]
  generalize w7.alloc (oC9 1 206 (.slice Ap 8 cp)) = w8 at *
  generalize w7.heap.size = bp at *
  go_wp2_with fail
  refine (rdC9 w8).mono ?_
  rintro e w9 ⟨vi, vj, rfl, hvi, hvj, hb⟩
  obtain ⟨Ai, ci, rfl⟩ := as_sl hvi (n := 0) rfl
  obtain ⟨Aj, cj, rfl⟩ := lo_sl hvj (n := 0) rfl
  have HA2 := Lib.hid ((HA.out.after hb).alloc (.cells #[.int .i64 0, .int .u32 0, .int .u32 0, .slice Ai 0 ci, .slice Aj 0 cj] 26))
  clear hvi hvj hb HA
  go_upto_region 6 with fail
  generalize w9.alloc (.cells #[.int .i64 0, .int .u32 0, .int .u32 0, .slice Ai 0 ci, .slice Aj 0 cj] 26) = w10 at *
  generalize w9.heap.size = bi at *
  have HRt := Lib.hid (fun w => (fright_any 3 1 2 (.slice none 0 0) (.slice Am 4 cm) [] lossA w (AsS.nil w)))
  rw [show rightM ⟨3, 1, 2, [], lossA⟩ = true from mA_right] at HRt
  have HRn := Lib.hid (fun w => (fright_any 3 0 0 (.slice none 0 0) (.slice none 0 0) [] [] w (AsS.nil w) (LoS.nil w)))
  rw [mN_right] at HRn
  go_region_held3 (fun w' => AS9 w bm bc bk bp (.slice Am 4 cm) (.slice Ac 16 cc) (.slice Aa 0 ca) (.slice Al 4 cl) (.slice Ap 8 cp) w' ∧
    w'.cell? ⟨bm, 0, none⟩ = some (.int .i64 3) ∧ w'.cell? ⟨bm, 1, none⟩ = some (.int .u32 1) ∧ w'.cell? ⟨bm, 2, none⟩ = some (.int .u32 2) ∧ w'.cell? ⟨bm, 3, none⟩ = some (.slice none 0 0) ∧ w'.cell? ⟨bm, 4, none⟩ = some (.slice Am 4 cm) ∧
    w'.cell? ⟨bc, 0, none⟩ = some (.int .u8 1) ∧ w'.cell? ⟨bc, 1, none⟩ = some (.int .u8 205) ∧ w'.cell? ⟨bc, 2, none⟩ = some (.slice Ac 16 cc) ∧
    w'.cell? ⟨bk, 0, none⟩ = some (.int .i64 3) ∧ w'.cell? ⟨bk, 1, none⟩ = some (.int .u32 1) ∧ w'.cell? ⟨bk, 2, none⟩ = some (.int .u32 2) ∧ w'.cell? ⟨bk, 3, none⟩ = some (.slice Aa 0 ca) ∧ w'.cell? ⟨bk, 4, none⟩ = some (.slice Al 4 cl) ∧
    w'.cell? ⟨bp, 0, none⟩ = some (.int .u8 1) ∧ w'.cell? ⟨bp, 1, none⟩ = some (.int .u8 206) ∧ w'.cell? ⟨bp, 2, none⟩ = some (.slice Ap 8 cp))
    (first | exact (((‹AS9 w bm bc bk bp _ _ _ _ _ _ ∧ _›).1).after (by assumption)).cells | exact (((‹AS9 w bm bc bk bp _ _ _ _ _ _ ∧ _›).1).alloc _).cells | exact (HA2.out.drew).cells)
    (first
    | (go_at_call 13; have hh := (‹AS9 w bm bc bk bp _ _ _ _ _ _ ∧ _›).1; refine (fcsame_is (r := true) 1 205 _ lA 1 205 _ lA _ hh.hc (lA_lit _) (by decide) (by decide) (by decide) (by decide) (decide_eq_true rfl)).mono ?_; rintro e w12 ⟨rfl, hb⟩; clear hh)
    | (go_at_call_of 11 Al; have hh := (‹AS9 w bm bc bk bp _ _ _ _ _ _ ∧ _›).1; refine (fown_any 3 1 2 _ _ [] lossA _ hh.ha hh.hl (by decide)).mono ?_; rintro e w12 ⟨vot, rfl, hot, hotl, hb⟩; have HOt := Lib.hid hot; have HOtl := Lib.hid hotl; (first | (have HOr2 := Lib.hid (HOr.out.below hb); have HOrl2 := Lib.hid (HOrl.out.below hb)) | skip); clear hh hot hotl)
    | (go_at_call_of 11 Am; have hh := (‹AS9 w bm bc bk bp _ _ _ _ _ _ ∧ _›).1; refine (fown_any 3 1 2 _ _ [] lossA _ (AsS.nil _) hh.hm (by decide)).mono ?_; rintro e w12 ⟨vor, rfl, hor, horl, hb⟩; have HOr := Lib.hid hor; have HOrl := Lib.hid horl; (first | (have HOt2 := Lib.hid (HOt.out.below hb); have HOtl2 := Lib.hid (HOtl.out.below hb)) | skip); clear hh hor horl)
    | (go_at_call 10; (first | refine (fsame_is (r := true) 3 1 2 _ _ [] lossA 3 1 2 _ _ [] lossA _ HOt2.out HOtl2.out HOr.out HOrl.out ⟨fun _ => rfl, fun _ => rfl⟩).mono ?_ | refine (fsame_is (r := true) 3 1 2 _ _ [] lossA 3 1 2 _ _ [] lossA _ HOt.out HOtl.out HOr2.out HOrl2.out ⟨fun _ => rfl, fun _ => rfl⟩).mono ?_); rintro e w12 ⟨rfl, hb⟩)
    | (go_at_call_of 8 Am; have hh := (‹AS9 w bm bc bk bp _ _ _ _ _ _ ∧ _›).1; refine (HRt.out _ hh.hm).mono ?_; rintro e w12 ⟨rfl, hb⟩; clear hh)
    | (go_at_call 8; refine (HRn.out _).mono ?_; rintro e w12 ⟨rfl, hb⟩))
  all_goals
    have hh := (‹AS9 w bm bc bk bp _ _ _ _ _ _ ∧ _›).1
    go_wp2_with fail
    exact HQ.out _ _ ⟨rfl, hh.below⟩
end Go.Proofs.Ytonkecfgopbclaa
