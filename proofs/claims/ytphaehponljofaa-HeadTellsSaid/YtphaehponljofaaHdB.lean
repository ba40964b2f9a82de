/- The walk of head.Bytes. -/
import Derived.Test.YtphaehponljofaaHdR
import Derived.Test.YtphaehponljofaaHdS
import Derived.Test.YtphaehponljofaaWireW
namespace Go.Proofs.Ytphaehponljofaa
open Go.RowKit

/-! ### an object of ten cells; a writer beside it -/
theorem cells10 {w : World} {b : Nat} {x0 x1 x2 x3 x4 x5 x6 x7 x8 x9 : Value} {t : TypeId} (h : w.heap[b]? = some (.cells #[x0, x1, x2, x3, x4, x5, x6, x7, x8, x9] t (0, 0))) :
    w.cell? ⟨b, 0, none⟩ = some x0 ∧ w.cell? ⟨b, 1, none⟩ = some x1 ∧ w.cell? ⟨b, 2, none⟩ = some x2 ∧ w.cell? ⟨b, 3, none⟩ = some x3 ∧ w.cell? ⟨b, 4, none⟩ = some x4 ∧
    w.cell? ⟨b, 5, none⟩ = some x5 ∧ w.cell? ⟨b, 6, none⟩ = some x6 ∧ w.cell? ⟨b, 7, none⟩ = some x7 ∧ w.cell? ⟨b, 8, none⟩ = some x8 ∧ w.cell? ⟨b, 9, none⟩ = some x9 := by
  have k := obj_cell h
  exact ⟨k 0, k 1, k 2, k 3, k 4, k 5, k 6, k 7, k 8, k 9⟩
/-- a writer, what it wrote, beside an object that stays; nothing that was there is changed -/
structure WSt (w0 : World) (bx : Nat) (o : Obj) (B pb : Nat) (ob : Option Nat) (l : List UInt8) (m : Nat) (w : World) : Prop where
  wr : Wr B w pb ob l
  box : w.heap[bx]? = some o
  bxB : bx < B
  below : Below w0.heap.size w0 w
  lo : w0.heap.size ≤ B
  len : l.length ≤ m
theorem WSt.step {w0 : World} {bx : Nat} {o : Obj} {B pb : Nat} {ob : Option Nat} {l l' : List UInt8} {m m' : Nat} {w w' : World} (h : WSt w0 bx o B pb ob l m w) (hp : WPost B w pb ob l' w') (hm : l'.length ≤ m') :
    ∃ ob', WSt w0 bx o B pb ob' l' m' w' := by
  obtain ⟨ob', hw, hf, _⟩ := hp
  have hlt := h.wr.lt
  have h1 := h.lo
  have h2 := h.bxB
  exact ⟨ob', hw, hf.heap h.box (fun hk => by have := (hlt _ hk).1; omega), h.bxB, h.below.trans (hf.below h.below.size (fun k hk => by have := (hlt _ hk).1; omega)), h.lo, hm⟩
theorem WSt.after {w0 : World} {bx : Nat} {o : Obj} {B pb : Nat} {ob : Option Nat} {l : List UInt8} {m : Nat} {w w' : World} (h : WSt w0 bx o B pb ob l m w) (hb : Below w.heap.size w w') : WSt w0 bx o B pb ob l m w' :=
  ⟨h.wr.fr0 (Fr.of hb), (Fr.of hb).heap h.box (fun h => h), h.bxB, h.below.trans (hb.mono h.below.size), h.lo, h.len⟩
section
variable {w0 : World} {bx : Nat} {o : Obj} {B pb : Nat} {ob : Option Nat} {l : List UInt8} {m : Nat} {w : World}
theorem bytesI_nat (n k : Nat) (h : k ≤ 8) : bytesI n (k : Int) = bytesL n k := by
  unfold bytesI
  rw [if_pos (by omega), Int.toNat_natCast]
theorem wbyte_st (h : WSt w0 bx o B pb ob l m w) (n : Nat) (hn : n < 256) (hm : m ≤ 5000) :
    Calls Try.prog 18 #[.pointer (some ⟨pb, 0, none⟩), .int .u8 (n : Nat)] w fun e w' => e = .returned (.tuple #[]) ∧ ∃ ob', WSt w0 bx o B pb ob' (l ++ bytesL n 1) (m + 1) w' := by
  have hl := h.len
  refine (wbyte_any B pb ob l n w h.wr ⟨by omega, by omega⟩ (by omega)).mono ?_
  rintro e w' ⟨rfl, hp⟩
  rw [Int.toNat_natCast, show bytesI n 1 = bytesL n 1 from bytesI_nat n 1 (by omega)] at hp
  exact ⟨rfl, h.step hp (by rw [List.length_append, bytesL_len]; omega)⟩
theorem wshort_st (h : WSt w0 bx o B pb ob l m w) (n : Nat) (hn : n < 65536) (hm : m ≤ 5000) :
    Calls Try.prog 21 #[.pointer (some ⟨pb, 0, none⟩), .int .u16 (n : Nat)] w fun e w' => e = .returned (.tuple #[]) ∧ ∃ ob', WSt w0 bx o B pb ob' (l ++ bytesL n 2) (m + 2) w' := by
  have hl := h.len
  refine (wshort_any B pb ob l n w h.wr ⟨by omega, by omega⟩ (by omega)).mono ?_
  rintro e w' ⟨rfl, hp⟩
  rw [Int.toNat_natCast, show bytesI n 2 = bytesL n 2 from bytesI_nat n 2 (by omega)] at hp
  exact ⟨rfl, h.step hp (by rw [List.length_append, bytesL_len]; omega)⟩
theorem wnum_st (h : WSt w0 bx o B pb ob l m w) (n : Nat) (hn : n < 4294967296) (hm : m ≤ 5000) :
    Calls Try.prog 22 #[.pointer (some ⟨pb, 0, none⟩), .int .u32 (n : Nat)] w fun e w' => e = .returned (.tuple #[]) ∧ ∃ ob', WSt w0 bx o B pb ob' (l ++ bytesL n 4) (m + 4) w' := by
  have hl := h.len
  refine (wnum_any B pb ob l n w h.wr ⟨by omega, by omega⟩ (by omega)).mono ?_
  rintro e w' ⟨rfl, hp⟩
  rw [Int.toNat_natCast, show bytesI n 4 = bytesL n 4 from bytesI_nat n 4 (by omega)] at hp
  exact ⟨rfl, h.step hp (by rw [List.length_append, bytesL_len]; omega)⟩
theorem wraw_st (h : WSt w0 bx o B pb ob l m w) (v : Value) (x : List UInt8) (hx : BS w v x) (k : Nat) (hk : x.length ≤ k) (hm : m + k ≤ 50000) :
    Calls Try.prog 23 #[.pointer (some ⟨pb, 0, none⟩), v] w fun e w' => e = .returned (.tuple #[]) ∧ ∃ ob', WSt w0 bx o B pb ob' (l ++ x) (m + k) w' := by
  have hl := h.len
  refine (wraw_any B pb ob l v x w h.wr hx (by omega)).mono ?_
  rintro e w' ⟨rfl, hp⟩
  exact ⟨rfl, h.step hp (by rw [List.length_append]; omega)⟩
end
/-- what Bytes answers -/
def BytesPost (w : World) (d : PD) (e : Ending) (w' : World) : Prop :=
  ∃ v, e = .returned (.tuple #[v, .int .i64 (if rightB d then 0 else 1)]) ∧ BSx (fun k => w.heap.size ≤ k) w' v (if rightB d then encP d else []) ∧ Below w.heap.size w w'
theorem bytes_no {w w' : World} {d : PD} (h : rightB d = false) (hb : Below w.heap.size w w') : BytesPost w d (.returned (.tuple #[.slice none 0 0, .int .i64 1])) w' :=
  ⟨_, by rw [h]; rfl, by rw [h]; exact BSx.nil _ _, hb⟩
theorem bytes_ok {w w' : World} {d : PD} (h : rightB d = true) {v : Value} (hv : BSx (fun k => w.heap.size ≤ k) w' v (encP d)) (hb : Below w.heap.size w w') : BytesPost w d (.returned (.tuple #[v, .int .i64 0])) w' :=
  ⟨_, by rw [h]; rfl, by rw [h]; exact hv, hb⟩
theorem srcB_snoc (l : List Nat) (j : Nat) (h : j < l.length) : srcB (l.take (j + 1)) = srcB (l.take j) ++ bytesL l[j] 4 := by
  unfold srcB
  rw [List.take_succ_eq_append_getElem h, List.flatMap_append]
  simp
theorem bytesL1 (n : Nat) : bytesL n 1 = [UInt8.ofNat n] := by simp [bytesL]
theorem headB_eq (d : PD) : [] ++ bytesL (one d) 1 ++ bytesL (two d) 1 ++ bytesL d.seq 2 ++ bytesL d.st 4 ++ bytesL d.so 4 = headB d := by
  rw [bytesL1, bytesL1]; simp [headB]
set_option maxHeartbeats 1000000 in
theorem hbytes_any (v : Value) (d : PD) (w : World) (hv : PV w v d) (hf : d.Few) (hw : d.Wf) :
    Calls Try.prog 7 #[v] w (BytesPost w d) := by
  have hvp := hv
  obtain ⟨As, cs, Ae, ce, Ap, cp, rfl, ⟨a1, a2, a3⟩, ⟨b1, b2, b3⟩, c1, c2, c3⟩ := hv.parts
  unfold pcells at hvp ⊢
  have hvb := hvp.below (below_alloc (.cells #[.bool d.m, .int .u8 (d.ty : Nat), .int .u16 (d.seq : Nat), .int .u32 (d.st : Nat), .int .u32 (d.so : Nat), .slice As d.srcs.length cs, .bool d.has, .int .u16 (d.prof : Nat), .slice Ae d.ex.length ce, .slice Ap d.pl.length cp] 29 (0, 0)))
  have hc := right_any _ d _ hvb hf
  have HA := Lib.hid a3
  have HE := Lib.hid b3
  have HP := Lib.hid c3
  have HF := Lib.hid hf
  have HW := Lib.hid hw
  have HV := Lib.hid hvb
  clear hv a3 b3 c3 hf hw hvp hvb
  refine calls_q fun Q HQ => ?_
  by_cases hr : rightB d = true
  · have HR := Lib.hid (right_iff.1 hr)
    have HRt := Lib.hid hr
    rw [hr] at hc
    have HC := Lib.hid hc
    clear hr hc
    go_enter Try.func7, Try.ntmps7
    go_wp2_with fail
    refine HC.out.mono ?_
    rintro e w1 ⟨rfl, hb⟩
    have hb1 := (below_alloc (.cells #[.bool d.m, .int .u8 (d.ty : Nat), .int .u16 (d.seq : Nat), .int .u32 (d.st : Nat), .int .u32 (d.so : Nat), .slice As d.srcs.length cs, .bool d.has, .int .u16 (d.prof : Nat), .slice Ae d.ex.length ce, .slice Ap d.pl.length cp] 29 (0, 0))).trans (hb.mono (by simp))
    have hbx := (Fr.of hb).heap (heap_alloc_new w (.cells #[.bool d.m, .int .u8 (d.ty : Nat), .int .u16 (d.seq : Nat), .int .u32 (d.st : Nat), .int .u32 (d.so : Nat), .slice As d.srcs.length cs, .bool d.has, .int .u16 (d.prof : Nat), .slice Ae d.ex.length ce, .slice Ap d.pl.length cp] 29 (0, 0))) (fun h => h)
    have hV1 := HV.out.below hb
    have hlo : w.heap.size < w1.heap.size := by have := hb.size; simp at this; omega
    have hs0 : WSt w w.heap.size (.cells #[.bool d.m, .int .u8 (d.ty : Nat), .int .u16 (d.seq : Nat), .int .u32 (d.st : Nat), .int .u32 (d.so : Nat), .slice As d.srcs.length cs, .bool d.has, .int .u16 (d.prof : Nat), .slice Ae d.ex.length ce, .slice Ap d.pl.length cp] 29 (0, 0)) w1.heap.size w1.heap.size none [] 0 (w1.alloc (.cells #[.slice none 0 0] 51)) :=
      ⟨wr_new w1, (Fr.alloc w1 _).heap hbx (fun h => h), hlo, hb1.alloc hb1.size _, by omega, by simp⟩
    have HV2 := Lib.hid (hV1.below (below_alloc (.cells #[.slice none 0 0] 51)))
    have HS := Lib.hid hs0
    have HLo := Lib.hid hlo
    have HVw := Lib.hid (show ∀ w2 : World, Below w.heap.size w w2 → PV w2 _ d from fun w2 h => PV.below ⟨_, _, _, rfl, ⟨As, cs, by rw [nums_len], by rw [nums_len]; exact a1, by unfold maxLen; omega, HA.out⟩, ⟨Ae, ce, rfl, b1, by unfold maxLen; omega, HE.out⟩, ⟨Ap, cp, rfl, c1, by unfold maxLen; omega, HP.out⟩⟩ h)
    obtain ⟨k0, k1, k2, k3, k4, k5, k6, k7, k8, k9⟩ := cells10 hs0.box
    clear hb hb1 hbx hV1 hs0 hlo HC HV
    go_wp2_with fail
    clear HV2
    refine (first_any _ d _ (HVw.out _ HS.out.below) HR.out.srcs).mono ?_
    rintro e w3 ⟨rfl, hb⟩
    have HSn := Lib.hid (HS.out.after hb)
    clear HS k0 k1 k2 k3 k4 k5 k6 k7 k8 k9
    have HS := HSn
    clear HSn
    obtain ⟨k0, k1, k2, k3, k4, k5, k6, k7, k8, k9⟩ := cells10 HS.out.box
    clear hb
    go_wp2_with fail
    refine (wbyte_st HS.out (one d) (by have := HR.out.srcs; unfold one; split <;> omega) (by omega)).mono ?_
    rintro e w2 ⟨rfl, ob2, hs⟩
    clear HS
    have HS := Lib.hid hs
    clear k0 k1 k2 k3 k4 k5 k6 k7 k8 k9
    obtain ⟨k0, k1, k2, k3, k4, k5, k6, k7, k8, k9⟩ := cells10 hs.box
    clear hs
    go_wp2_with fail
    refine (second_any _ d _ (HVw.out _ HS.out.below) HR.out.ty).mono ?_
    rintro e w3 ⟨rfl, hb⟩
    have HSn := Lib.hid (HS.out.after hb)
    clear HS k0 k1 k2 k3 k4 k5 k6 k7 k8 k9
    have HS := HSn
    clear HSn
    obtain ⟨k0, k1, k2, k3, k4, k5, k6, k7, k8, k9⟩ := cells10 HS.out.box
    clear hb
    go_wp2_with fail
    refine (wbyte_st HS.out (two d) (by have := HR.out.ty; unfold two; split <;> omega) (by omega)).mono ?_
    rintro e w2 ⟨rfl, ob2, hs⟩
    clear HS
    have HS := Lib.hid hs
    clear k0 k1 k2 k3 k4 k5 k6 k7 k8 k9
    obtain ⟨k0, k1, k2, k3, k4, k5, k6, k7, k8, k9⟩ := cells10 hs.box
    clear hs
    go_wp2_with fail
    refine (wshort_st HS.out d.seq HW.out.seq (by omega)).mono ?_
    rintro e w2 ⟨rfl, ob2, hs⟩
    clear HS
    have HS := Lib.hid hs
    clear k0 k1 k2 k3 k4 k5 k6 k7 k8 k9
    obtain ⟨k0, k1, k2, k3, k4, k5, k6, k7, k8, k9⟩ := cells10 hs.box
    clear hs
    go_wp2_with fail
    refine (wnum_st HS.out d.st HW.out.st (by omega)).mono ?_
    rintro e w2 ⟨rfl, ob2, hs⟩
    clear HS
    have HS := Lib.hid hs
    clear k0 k1 k2 k3 k4 k5 k6 k7 k8 k9
    obtain ⟨k0, k1, k2, k3, k4, k5, k6, k7, k8, k9⟩ := cells10 hs.box
    clear hs
    go_wp2_with fail
    refine (wnum_st HS.out d.so HW.out.so (by omega)).mono ?_
    rintro e w2 ⟨rfl, ob2, hs⟩
    clear HS
    have HS := Lib.hid hs
    clear k0 k1 k2 k3 k4 k5 k6 k7 k8 k9
    obtain ⟨k0, k1, k2, k3, k4, k5, k6, k7, k8, k9⟩ := cells10 hs.box
    clear hs
    go_wp2_with fail
    have HS1 := Lib.hid (show WSt w w.heap.size (.cells #[.bool d.m, .int .u8 (d.ty : Nat), .int .u16 (d.seq : Nat), .int .u32 (d.st : Nat), .int .u32 (d.so : Nat), .slice As d.srcs.length cs, .bool d.has, .int .u16 (d.prof : Nat), .slice Ae d.ex.length ce, .slice Ap d.pl.length cp] 29 (0, 0)) w1.heap.size w1.heap.size ob2 (headB d ++ srcB (d.srcs.take 0)) (12 + 4 * 0) w2 by
      have h := HS.out
      rw [headB_eq] at h
      simpa [srcB] using h)
    clear HS
    have h15 := HR.out.srcs
    go_loopw [31] (fun i wr => ∃ (j : Nat) (ob : Option Nat), j ≤ d.srcs.length ∧ i = .int .i64 j ∧ WSt w w.heap.size (.cells #[.bool d.m, .int .u8 (d.ty : Nat), .int .u16 (d.seq : Nat), .int .u32 (d.st : Nat), .int .u32 (d.so : Nat), .slice As d.srcs.length cs, .bool d.has, .int .u16 (d.prof : Nat), .slice Ae d.ex.length ce, .slice Ap d.pl.length cp] 29 (0, 0)) w1.heap.size w1.heap.size ob (headB d ++ srcB (d.srcs.take j)) (12 + 4 * j) wr) (fun i _ => d.srcs.length - (intOf i).toNat)
    case atStart => exact ⟨0, ob2, Nat.zero_le _, rfl, HS1.out⟩
    case round =>
      obtain ⟨j, ob, hj, rfl, hs⟩ := hrel
      have HS := Lib.hid hs
      clear hs k0 k1 k2 k3 k4 k5 k6 k7 k8 k9
      obtain ⟨k0, k1, k2, k3, k4, k5, k6, k7, k8, k9⟩ := cells10 HS.out.box
      by_cases hlt : j < d.srcs.length
      · obtain ⟨b', o, rfl, hb, hcell⟩ := (HA.out.below (Nat.le_refl _) HS.out.below) (by rw [nums_len]; omega)
        have hc1 := hcell j (by rw [nums_len]; exact hlt)
        rw [nums_get] at hc1
        clear hcell
        have hi0 : (0 : Int) ≤ (j : Int) := by omega
        have hi1 : (j : Int) < (d.srcs.length : Int) := by omega
        have HSn := Lib.hid (srcB_snoc d.srcs j hlt)
        have HX := Lib.hid (HW.out.srcs _ (List.getElem_mem hlt))
        generalize (d.srcs[j]'hlt) = x at *
        go_wp2_with fail
        refine (wnum_st HS.out x HX.out (by omega)).mono ?_
        rintro e w2 ⟨rfl, ob2, hs⟩
        rw [List.append_assoc, ← HSn.out] at hs
        have HS2 := Lib.hid hs
        clear hs
        go_wp2_with fail
        go_roundw
        case rel => exact ⟨j + 1, ob2, by omega, by go_num, HS2.out⟩
        case measure => simp [intOf]; omega
      · have : j = d.srcs.length := by omega
        subst this
        rw [List.take_length] at HS
        have hlp : d.pl.length ≤ 1000 := HF.out.pl
        have hle : d.ex.length ≤ 1000 := HF.out.ex
        cases hh : d.has
        · have HEn := Lib.hid (show encP d = headB d ++ srcB d.srcs ++ d.pl by unfold encP extB; rw [hh]; simp)
          rw [hh] at k6
          clear hh
          go_wp2_with fail
          refine (wraw_st HS.out (.slice Ap d.pl.length cp) d.pl ⟨Ap, cp, rfl, c1, by unfold maxLen; omega, HP.out.below (Nat.le_refl _) HS.out.below⟩ 1000 hlp (by omega)).mono ?_
          rintro e w2 ⟨rfl, ob2, hs⟩
          clear HS
          have HS := Lib.hid hs
          clear k0 k1 k2 k3 k4 k5 k6 k7 k8 k9
          obtain ⟨k0, k1, k2, k3, k4, k5, k6, k7, k8, k9⟩ := cells10 hs.box
          clear hs
          go_wp2_with fail
          refine (wbytes_any _ _ _ _ _ HS.out.wr (by have := HS.out.len; omega)).mono ?_
          rintro e w2 ⟨v, rfl, ho, hb⟩
          have HO := Lib.hid ((own_bsx ho).mono (fun k _ hk => Nat.le_trans HS.out.below.size hk))
          have HB2 := Lib.hid (HS.out.below.trans (hb.mono HS.out.below.size))
          clear ho hb
          go_wp2_with fail
          exact HQ.out _ _ (bytes_ok HRt.out (by rw [HEn.out]; exact HO.out) HB2.out)
        · have HEn := Lib.hid (show encP d = headB d ++ srcB d.srcs ++ bytesL d.prof 2 ++ bytesL (d.ex.length / 4) 2 ++ d.ex ++ d.pl by unfold encP extB; rw [hh]; simp)
          rw [hh] at k6
          clear hh
          go_wp2_with fail
          refine (wshort_st HS.out d.prof HW.out.prof (by omega)).mono ?_
          rintro e w2 ⟨rfl, ob2, hs⟩
          clear HS
          have HS := Lib.hid hs
          clear k0 k1 k2 k3 k4 k5 k6 k7 k8 k9
          obtain ⟨k0, k1, k2, k3, k4, k5, k6, k7, k8, k9⟩ := cells10 hs.box
          clear hs
          go_wp2_with fail
          have hc := wshort_st HS.out (d.ex.length / 4) (by omega) (by omega)
          rw [show ((d.ex.length / 4 : Nat) : Int) = (d.ex.length : Int) / 4 by omega] at hc
          refine hc.mono ?_
          clear hc
          rintro e w2 ⟨rfl, ob2, hs⟩
          clear HS
          have HS := Lib.hid hs
          clear k0 k1 k2 k3 k4 k5 k6 k7 k8 k9
          obtain ⟨k0, k1, k2, k3, k4, k5, k6, k7, k8, k9⟩ := cells10 hs.box
          clear hs
          go_wp2_with fail
          refine (wraw_st HS.out (.slice Ae d.ex.length ce) d.ex ⟨Ae, ce, rfl, b1, by unfold maxLen; omega, HE.out.below (Nat.le_refl _) HS.out.below⟩ 1000 hle (by omega)).mono ?_
          rintro e w2 ⟨rfl, ob2, hs⟩
          clear HS
          have HS := Lib.hid hs
          clear k0 k1 k2 k3 k4 k5 k6 k7 k8 k9
          obtain ⟨k0, k1, k2, k3, k4, k5, k6, k7, k8, k9⟩ := cells10 hs.box
          clear hs
          go_wp2_with fail
          refine (wraw_st HS.out (.slice Ap d.pl.length cp) d.pl ⟨Ap, cp, rfl, c1, by unfold maxLen; omega, HP.out.below (Nat.le_refl _) HS.out.below⟩ 1000 hlp (by omega)).mono ?_
          rintro e w2 ⟨rfl, ob2, hs⟩
          clear HS
          have HS := Lib.hid hs
          clear k0 k1 k2 k3 k4 k5 k6 k7 k8 k9
          obtain ⟨k0, k1, k2, k3, k4, k5, k6, k7, k8, k9⟩ := cells10 hs.box
          clear hs
          go_wp2_with fail
          refine (wbytes_any _ _ _ _ _ HS.out.wr (by have := HS.out.len; omega)).mono ?_
          rintro e w2 ⟨v, rfl, ho, hb⟩
          have HO := Lib.hid ((own_bsx ho).mono (fun k _ hk => Nat.le_trans HS.out.below.size hk))
          have HB2 := Lib.hid (HS.out.below.trans (hb.mono HS.out.below.size))
          clear ho hb
          go_wp2_with fail
          exact HQ.out _ _ (bytes_ok HRt.out (by rw [HEn.out]; exact HO.out) HB2.out)
  · have HRt := Lib.hid hr
    rw [show rightB d = false by simpa using hr] at hc
    have HC := Lib.hid hc
    clear hr hc
    go_enter Try.func7, Try.ntmps7
    go_wp2_with fail
    refine HC.out.mono ?_
    rintro e w1 ⟨rfl, hb⟩
    have HB1 := Lib.hid ((below_alloc (.cells #[.bool d.m, .int .u8 (d.ty : Nat), .int .u16 (d.seq : Nat), .int .u32 (d.st : Nat), .int .u32 (d.so : Nat), .slice As d.srcs.length cs, .bool d.has, .int .u16 (d.prof : Nat), .slice Ae d.ex.length ce, .slice Ap d.pl.length cp] 29 (0, 0))).trans (hb.mono (by simp)))
    clear hb HC
    go_wp2_with fail
    exact HQ.out _ _ (bytes_no (by simpa using HRt.out) HB1.out)
end Go.Proofs.Ytphaehponljofaa
