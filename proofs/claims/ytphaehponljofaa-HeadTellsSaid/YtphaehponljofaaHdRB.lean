/- The walk of the document's answer for a packet's bytes. -/
import Derived.Test.YtphaehponljofaaHdCut
import Derived.Test.YtphaehponljofaaBRBytes
import Derived.Deep.Cut
namespace Go.Proofs.Ytphaehponljofaa
open Go.RowKit

theorem rbytes_nat (x k : Nat) (w : World) (hx : x < 18446744073709551616) (hk : k ≤ 8) :
    Calls Try.prog 25 #[.int .u64 (x : Nat), .int .i64 (k : Nat)] w fun e w' => ∃ v, e = .returned v ∧ BS w' v (bytesL x k) ∧ Below w.heap.size w w' := by
  have hc := rbytes_any x k w ⟨by omega, by omega⟩
  rw [Int.toNat_natCast, bytesI_nat x k hk] at hc
  exact hc
/-- bytes that grow, in a row of the call's own, beside an object -/
structure OSt (w0 : World) (bx : Nat) (o : Obj) (base : Nat) (A : Option Addr) (n c : Nat) (l : List UInt8) (w : World) : Prop where
  box : w.heap[bx]? = some o
  own : w.ownsRow base 5 1 (.slice A n c) n (c8 l)
  below : Below w0.heap.size w0 w
  bxb : bx < base
  w0b : w0.heap.size ≤ base
  lo : base ≤ w.heap.size
theorem OSt.after {w0 w w' : World} {bx : Nat} {o : Obj} {base : Nat} {A : Option Addr} {n c : Nat} {l : List UInt8} (h : OSt w0 bx o base A n c l w) (hb : Below w.heap.size w w') : OSt w0 bx o base A n c l w' :=
  ⟨(Fr.of hb).heap h.box (fun h => h), (Fr.of hb).own h.own (fun _ _ h => h), h.below.trans (hb.mono h.below.size), h.bxb, h.w0b, Nat.le_trans h.lo hb.size⟩
theorem OSt.app {w0 w w' : World} {bx : Nat} {o : Obj} {base : Nat} {A A' : Option Addr} {n c m c' : Nat} {l x : List UInt8} (h : OSt w0 bx o base A n c l w) (ho : w'.ownsRow base 5 1 (.slice A' (n + m) c') (n + m) (c8 l ++ c8 x)) (hg : w.grownBy w' (Value.slice A n c).ownBlock) :
    OSt w0 bx o base A' (n + m) c' (l ++ x) w' := by
  have hf := Fr.grown hg
  have hlt : ∀ k, some k = (Value.slice A n c).ownBlock → base ≤ k := fun k hk => (h.own.lt k hk.symm).1
  have h1 := h.bxb; have h2 := h.w0b
  exact ⟨hf.heap h.box (fun hx => by have := hlt _ hx; omega), by rw [c8_app]; exact ho, h.below.trans (hf.below h.below.size (fun k hk => by have := hlt k hk; omega)), h1, h2, Nat.le_trans h.lo hf.size⟩
theorem own_two (w : World) (base : Nat) (e : TypeId) (u1 u2 : Value) (h : base ≤ w.heap.size) : (w.alloc (.cells #[u1, u2] e)).ownsRow base e 1 (.slice (some ⟨w.heap.size, 0, none⟩) 2 2) 2 [u1, u2] :=
  ⟨rfl, .inr ⟨w.heap.size, 2, #[u1, u2], rfl, h, heap_alloc_new w _, Nat.le_refl _, (by unfold maxLen; omega), rfl, rfl⟩⟩
set_option maxHeartbeats 4000000 in
theorem rhbytes_any (v : Value) (d : PD) (w : World) (hv : PV w v d) (hf : d.Few) (hw : d.Wf) :
    Calls Try.prog 8 #[v] w (BytesPost w d) := by
  have hvp := hv
  obtain ⟨As, cs, Ae, ce, Ap, cp, rfl, ⟨a1, a2, a3⟩, ⟨b1, b2, b3⟩, c1, c2, c3⟩ := hv.parts
  unfold pcells at hvp ⊢
  have hvb := hvp.below (below_alloc (.cells #[.bool d.m, .int .u8 (d.ty : Nat), .int .u16 (d.seq : Nat), .int .u32 (d.st : Nat), .int .u32 (d.so : Nat), .slice As d.srcs.length cs, .bool d.has, .int .u16 (d.prof : Nat), .slice Ae d.ex.length ce, .slice Ap d.pl.length cp] 38 (0, 0)))
  have hc := rright_any _ d _ hvb hf
  have HA := Lib.hid a3
  have HE := Lib.hid b3
  have HP := Lib.hid c3
  have HF := Lib.hid hf
  have HW := Lib.hid hw
  clear hv a3 b3 c3 hf hw hvp hvb
  refine calls_q fun Q HQ => ?_
  by_cases hr : rightB d = true
  · have HR := Lib.hid (right_iff.1 hr)
    have HRt := Lib.hid hr
    rw [hr] at hc
    have HC := Lib.hid hc
    clear hr hc
    go_enter Try.func8, Try.ntmps8
    go_wp2_with fail
    refine HC.out.mono ?_
    rintro e w1 ⟨rfl, hb⟩
    have HB1 := Lib.hid ((below_alloc (.cells #[.bool d.m, .int .u8 (d.ty : Nat), .int .u16 (d.seq : Nat), .int .u32 (d.st : Nat), .int .u32 (d.so : Nat), .slice As d.srcs.length cs, .bool d.has, .int .u16 (d.prof : Nat), .slice Ae d.ex.length ce, .slice Ap d.pl.length cp] 38 (0, 0))).trans (hb.mono (by simp)))
    have HX1 := Lib.hid ((Fr.of hb).heap (heap_alloc_new w (.cells #[.bool d.m, .int .u8 (d.ty : Nat), .int .u16 (d.seq : Nat), .int .u32 (d.st : Nat), .int .u32 (d.so : Nat), .slice As d.srcs.length cs, .bool d.has, .int .u16 (d.prof : Nat), .slice Ae d.ex.length ce, .slice Ap d.pl.length cp] 38 (0, 0))) (fun h => h))
    have HLo := Lib.hid (show w.heap.size < w1.heap.size by have := hb.size; simp at this; omega)
    clear hb HC
    obtain ⟨k0, k1, k2, k3, k4, k5, k6, k7, k8, k9⟩ := cells10 HX1.out
    have hp16 : d.prof < 65536 := HW.out.prof
    have hs16 : d.seq < 65536 := HW.out.seq
    have hst : d.st < 4294967296 := HW.out.st
    have hso : d.so < 4294967296 := HW.out.so
    have hlp : d.pl.length ≤ 1000 := HF.out.pl
    have hle : d.ex.length ≤ 1000 := HF.out.ex
    have h15 := HR.out.srcs
    have h127 := HR.out.ty
    go_upto_region 9 with fail
    · have hhh : d.has = true := by assumption
      have hmm : d.m = true := by assumption
      have e1 : (128 + (d.srcs.length : Int) + 16) = ((one d : Nat) : Int) := by have h1 : one d = 128 + d.srcs.length + (if d.has then 16 else 0) := rfl; rw [hhh] at h1; simp at h1; omega
      have e2 : ((d.ty : Int) + 128) = ((two d : Nat) : Int) := by have h1 : two d = d.ty + (if d.m then 128 else 0) := rfl; rw [hmm] at h1; simp at h1; omega
      have hone : one d < 256 := by have := one_lt h15; omega
      have htwo : two d < 256 := by have := two_lt h127; omega
      go_upto_region 10 with fail
      rw [e1, e2]
      have HO : Hid (OSt w w.heap.size (.cells #[.bool d.m, .int .u8 (d.ty : Nat), .int .u16 (d.seq : Nat), .int .u32 (d.st : Nat), .int .u32 (d.so : Nat), .slice As d.srcs.length cs, .bool d.has, .int .u16 (d.prof : Nat), .slice Ae d.ex.length ce, .slice Ap d.pl.length cp] 38 (0, 0)) w1.heap.size (some ⟨w1.heap.size, 0, none⟩) 2 2 [UInt8.ofNat (one d), UInt8.ofNat (two d)] (w1.alloc (.cells #[.int .u8 ((one d : Nat) : Int), .int .u8 ((two d : Nat) : Int)] 5))) := Lib.hid (by
        have e : c8 [UInt8.ofNat (one d), UInt8.ofNat (two d)] = [.int .u8 ((one d : Nat) : Int), .int .u8 ((two d : Nat) : Int)] := by simp only [c8, List.map_cons, List.map_nil]; rw [ofNat_toNat8 _ hone, ofNat_toNat8 _ htwo]
        have ho := own_two w1 w1.heap.size 5 (.int .u8 ((one d : Nat) : Int)) (.int .u8 ((two d : Nat) : Int)) (Nat.le_refl _)
        exact ⟨(Fr.alloc w1 _).heap HX1.out (fun h => h), by rw [e]; exact ho, HB1.out.alloc HB1.out.size _, HLo.out, Nat.le_of_lt HLo.out, by simp⟩)
      clear e1
      clear hone htwo k0 k1 k2 k3 k4 k5 k6 k7 k8 k9
      obtain ⟨k0, k1, k2, k3, k4, k5, k6, k7, k8, k9⟩ := cells10 HO.out.box
      go_wp2_with fail
      have hrb := fun w => rbytes_nat (d.seq) 2 w (by omega) (by decide)
      refine (hrb _).mono ?_
      rintro r w2 ⟨u, rfl, hu, hb⟩
      obtain ⟨Au, cu, hue, _, _, hru⟩ := bs_parts hu
      rw [bytesL_len] at hue
      subst hue
      have hon := HO.out.after hb
      have HRu := Lib.hid hru
      clear HO hu hb hru hrb k0 k1 k2 k3 k4 k5 k6 k7 k8 k9
      have HO := Lib.hid hon
      clear hon
      obtain ⟨k0, k1, k2, k3, k4, k5, k6, k7, k8, k9⟩ := cells10 HO.out.box
      go_wp2_with (at_builtin; refine wpl_app rfl _ _ 27 rfl w1.heap.size 5 (.int .u8 0) 1 Try.underlying27 (by kernel_rfl) rfl _ _ _ rfl HO.out.own _ _ _ (c8 (bytesL (d.seq) 2)) rfl ?pp1x1 (c8_one _) ?pp1x2 ?pp1x3 ?pp1x4 ?pp1x5)
      case pp1x1 => exact src_of (bytesL_len _ _) HRu.out
      case pp1x2 => unfold maxLen; omega
      case pp1x3 => omega
      case pp1x4 => exact HO.out.lo
      intro v' v3 hown hg _
      obtain ⟨A6, c6, rfl⟩ := own_slice hown
      have hon : OSt w _ _ w1.heap.size A6 (4) c6 _ v3 := HO.out.app (x := bytesL (d.seq) 2) (m := 2) hown hg
      clear HO hown hg
      have HO := Lib.hid hon
      clear hon k0 k1 k2 k3 k4 k5 k6 k7 k8 k9
      obtain ⟨k0, k1, k2, k3, k4, k5, k6, k7, k8, k9⟩ := cells10 HO.out.box
      go_wp2_with fail
      have hrb := fun w => rbytes_nat (d.st) 4 w (by omega) (by decide)
      refine (hrb _).mono ?_
      rintro r w2 ⟨u, rfl, hu, hb⟩
      obtain ⟨Au, cu, hue, _, _, hru⟩ := bs_parts hu
      rw [bytesL_len] at hue
      subst hue
      have hon := HO.out.after hb
      have HRu := Lib.hid hru
      clear HO hu hb hru hrb k0 k1 k2 k3 k4 k5 k6 k7 k8 k9
      have HO := Lib.hid hon
      clear hon
      obtain ⟨k0, k1, k2, k3, k4, k5, k6, k7, k8, k9⟩ := cells10 HO.out.box
      go_wp2_with (at_builtin; refine wpl_app rfl _ _ 27 rfl w1.heap.size 5 (.int .u8 0) 1 Try.underlying27 (by kernel_rfl) rfl _ _ _ rfl HO.out.own _ _ _ (c8 (bytesL (d.st) 4)) rfl ?pp2x1 (c8_one _) ?pp2x2 ?pp2x3 ?pp2x4 ?pp2x5)
      case pp2x1 => exact src_of (bytesL_len _ _) HRu.out
      case pp2x2 => unfold maxLen; omega
      case pp2x3 => omega
      case pp2x4 => exact HO.out.lo
      intro v' v3 hown hg _
      obtain ⟨A6, c6, rfl⟩ := own_slice hown
      have hon : OSt w _ _ w1.heap.size A6 (8) c6 _ v3 := HO.out.app (x := bytesL (d.st) 4) (m := 4) hown hg
      clear HO hown hg
      have HO := Lib.hid hon
      clear hon k0 k1 k2 k3 k4 k5 k6 k7 k8 k9
      obtain ⟨k0, k1, k2, k3, k4, k5, k6, k7, k8, k9⟩ := cells10 HO.out.box
      go_wp2_with fail
      have hrb := fun w => rbytes_nat (d.so) 4 w (by omega) (by decide)
      refine (hrb _).mono ?_
      rintro r w2 ⟨u, rfl, hu, hb⟩
      obtain ⟨Au, cu, hue, _, _, hru⟩ := bs_parts hu
      rw [bytesL_len] at hue
      subst hue
      have hon := HO.out.after hb
      have HRu := Lib.hid hru
      clear HO hu hb hru hrb k0 k1 k2 k3 k4 k5 k6 k7 k8 k9
      have HO := Lib.hid hon
      clear hon
      obtain ⟨k0, k1, k2, k3, k4, k5, k6, k7, k8, k9⟩ := cells10 HO.out.box
      go_wp2_with (at_builtin; refine wpl_app rfl _ _ 27 rfl w1.heap.size 5 (.int .u8 0) 1 Try.underlying27 (by kernel_rfl) rfl _ _ _ rfl HO.out.own _ _ _ (c8 (bytesL (d.so) 4)) rfl ?pp3x1 (c8_one _) ?pp3x2 ?pp3x3 ?pp3x4 ?pp3x5)
      case pp3x1 => exact src_of (bytesL_len _ _) HRu.out
      case pp3x2 => unfold maxLen; omega
      case pp3x3 => omega
      case pp3x4 => exact HO.out.lo
      intro v' v3 hown hg _
      obtain ⟨A6, c6, rfl⟩ := own_slice hown
      have hon : OSt w _ _ w1.heap.size A6 (12) c6 _ v3 := HO.out.app (x := bytesL (d.so) 4) (m := 4) hown hg
      clear HO hown hg
      have HO := Lib.hid hon
      clear hon k0 k1 k2 k3 k4 k5 k6 k7 k8 k9
      obtain ⟨k0, k1, k2, k3, k4, k5, k6, k7, k8, k9⟩ := cells10 HO.out.box
      go_upto_region 14 with fail
      have HO1 : Hid (OSt w w.heap.size (.cells #[.bool d.m, .int .u8 (d.ty : Nat), .int .u16 (d.seq : Nat), .int .u32 (d.st : Nat), .int .u32 (d.so : Nat), .slice As d.srcs.length cs, .bool d.has, .int .u16 (d.prof : Nat), .slice Ae d.ex.length ce, .slice Ap d.pl.length cp] 38 (0, 0)) w1.heap.size A6 (12 + 4 * 0) c6 (([UInt8.ofNat (one d), UInt8.ofNat (two d)] ++ bytesL d.seq 2 ++ bytesL d.st 4 ++ bytesL d.so 4) ++ srcB (d.srcs.take 0)) v3) := Lib.hid (by
        have h := HO.out
        rw [← List.append_nil (([UInt8.ofNat (one d), UInt8.ofNat (two d)] ++ bytesL d.seq 2 ++ bytesL d.st 4 ++ bytesL d.so 4))] at h
        exact h)
      clear HO
      go_loopw [6, 7] (fun out i wr => ∃ (j : Nat) (A6 : Option Addr) (c6 : Nat), j ≤ d.srcs.length ∧ out = .slice A6 (12 + 4 * j) c6 ∧ i = .int .i64 j ∧ OSt w w.heap.size (.cells #[.bool d.m, .int .u8 (d.ty : Nat), .int .u16 (d.seq : Nat), .int .u32 (d.st : Nat), .int .u32 (d.so : Nat), .slice As d.srcs.length cs, .bool d.has, .int .u16 (d.prof : Nat), .slice Ae d.ex.length ce, .slice Ap d.pl.length cp] 38 (0, 0)) w1.heap.size A6 (12 + 4 * j) c6 (([UInt8.ofNat (one d), UInt8.ofNat (two d)] ++ bytesL d.seq 2 ++ bytesL d.st 4 ++ bytesL d.so 4) ++ srcB (d.srcs.take j)) wr) (fun _ i _ => d.srcs.length - (intOf i).toNat)
      case atStart => exact ⟨0, A6, c6, Nat.zero_le _, rfl, rfl, HO1.out⟩
      case round =>
        obtain ⟨j, A6, c6, hj, rfl, rfl, hs⟩ := hrel
        have HO := Lib.hid hs
        clear hs HO1 k0 k1 k2 k3 k4 k5 k6 k7 k8 k9
        obtain ⟨k0, k1, k2, k3, k4, k5, k6, k7, k8, k9⟩ := cells10 HO.out.box
        by_cases hlt : j < d.srcs.length
        · obtain ⟨b', o, rfl, hb', hcell⟩ := (HA.out.below (Nat.le_refl _) HO.out.below) (by rw [nums_len]; omega)
          have hc1 := hcell j (by rw [nums_len]; exact hlt)
          rw [nums_get] at hc1
          clear hcell
          have hi0 : (0 : Int) ≤ (j : Int) := by omega
          have hi1 : (j : Int) < (d.srcs.length : Int) := by omega
          have HSn := Lib.hid (srcB_snoc d.srcs j hlt)
          have hx32 := HW.out.srcs _ (List.getElem_mem hlt)
          generalize (d.srcs[j]'hlt) = x at *
          go_wp2_with fail
          have hrb := fun w => rbytes_nat (x) 4 w (by omega) (by decide)
          refine (hrb _).mono ?_
          rintro r w2 ⟨u, rfl, hu, hb⟩
          obtain ⟨Au, cu, hue, _, _, hru⟩ := bs_parts hu
          rw [bytesL_len] at hue
          subst hue
          have hon := HO.out.after hb
          have HRu := Lib.hid hru
          clear HO hu hb hru hrb k0 k1 k2 k3 k4 k5 k6 k7 k8 k9
          have HO := Lib.hid hon
          clear hon
          obtain ⟨k0, k1, k2, k3, k4, k5, k6, k7, k8, k9⟩ := cells10 HO.out.box
          go_wp2_with (at_builtin; refine wpl_app rfl _ _ 27 rfl w1.heap.size 5 (.int .u8 0) 1 Try.underlying27 (by kernel_rfl) rfl _ _ _ rfl HO.out.own _ _ _ (c8 (bytesL (x) 4)) rfl ?pp4x1 (c8_one _) ?pp4x2 ?pp4x3 ?pp4x4 ?pp4x5)
          case pp4x1 => exact src_of (bytesL_len _ _) HRu.out
          case pp4x2 => unfold maxLen; omega
          case pp4x3 => omega
          case pp4x4 => exact HO.out.lo
          intro v' v3 hown hg _
          obtain ⟨A6, c6, rfl⟩ := own_slice hown
          have hon : OSt w _ _ w1.heap.size A6 (12 + 4 * j + 4) c6 _ v3 := HO.out.app (x := bytesL (x) 4) (m := 4) hown hg
          clear HO hown hg
          have HO := Lib.hid hon
          clear hon k0 k1 k2 k3 k4 k5 k6 k7 k8 k9
          obtain ⟨k0, k1, k2, k3, k4, k5, k6, k7, k8, k9⟩ := cells10 HO.out.box
          go_wp2_with fail
          go_roundw
          case rel => exact ⟨j + 1, A6, c6, by omega, by rw [show 12 + 4 * (j + 1) = 12 + 4 * j + 4 by omega], by go_num, by rw [HSn.out, ← List.append_assoc, show 12 + 4 * (j + 1) = 12 + 4 * j + 4 by omega]; exact HO.out⟩
          case measure => simp [intOf]; omega
        · have : j = d.srcs.length := by omega
          subst this
          rw [List.take_length] at HO
          go_wp2_with fail
          have hrb := fun w => rbytes_nat (d.prof) 2 w (by omega) (by decide)
          refine (hrb _).mono ?_
          rintro r w2 ⟨u, rfl, hu, hb⟩
          obtain ⟨Au, cu, hue, _, _, hru⟩ := bs_parts hu
          rw [bytesL_len] at hue
          subst hue
          have hon := HO.out.after hb
          have HRu := Lib.hid hru
          clear HO hu hb hru hrb k0 k1 k2 k3 k4 k5 k6 k7 k8 k9
          have HO := Lib.hid hon
          clear hon
          obtain ⟨k0, k1, k2, k3, k4, k5, k6, k7, k8, k9⟩ := cells10 HO.out.box
          go_wp2_with (at_builtin; refine wpl_app rfl _ _ 27 rfl w1.heap.size 5 (.int .u8 0) 1 Try.underlying27 (by kernel_rfl) rfl _ _ _ rfl HO.out.own _ _ _ (c8 (bytesL (d.prof) 2)) rfl ?pp5x1 (c8_one _) ?pp5x2 ?pp5x3 ?pp5x4 ?pp5x5)
          case pp5x1 => exact src_of (bytesL_len _ _) HRu.out
          case pp5x2 => unfold maxLen; omega
          case pp5x3 => omega
          case pp5x4 => exact HO.out.lo
          intro v' v3 hown hg _
          obtain ⟨A6, c6, rfl⟩ := own_slice hown
          have hon : OSt w _ _ w1.heap.size A6 (12 + 4 * d.srcs.length + 2) c6 _ v3 := HO.out.app (x := bytesL (d.prof) 2) (m := 2) hown hg
          obtain ⟨L5, hL⟩ : ∃ L, L = (([UInt8.ofNat (one d), UInt8.ofNat (two d)] ++ bytesL d.seq 2 ++ bytesL d.st 4 ++ bytesL d.so 4) ++ srcB d.srcs) ++ bytesL (d.prof) 2 := ⟨_, rfl⟩
          rw [← hL] at hon
          have HL5 := Lib.hid hL
          clear HO hown hg hL
          have HO := Lib.hid hon
          clear hon k0 k1 k2 k3 k4 k5 k6 k7 k8 k9
          obtain ⟨k0, k1, k2, k3, k4, k5, k6, k7, k8, k9⟩ := cells10 HO.out.box
          go_wp2_with fail
          have hrb := fun w => rbytes_nat (d.ex.length / 4) 2 w (by omega) (by decide)
          simp only [show ((d.ex.length / 4 : Nat) : Int) = (d.ex.length : Int) / 4 by omega] at hrb
          refine (hrb _).mono ?_
          rintro r w2 ⟨u, rfl, hu, hb⟩
          obtain ⟨Au, cu, hue, _, _, hru⟩ := bs_parts hu
          rw [bytesL_len] at hue
          subst hue
          have hon := HO.out.after hb
          have HRu := Lib.hid hru
          clear HO hu hb hru hrb k0 k1 k2 k3 k4 k5 k6 k7 k8 k9
          have HO := Lib.hid hon
          clear hon
          obtain ⟨k0, k1, k2, k3, k4, k5, k6, k7, k8, k9⟩ := cells10 HO.out.box
          go_wp2_with (at_builtin; refine wpl_app rfl _ _ 27 rfl w1.heap.size 5 (.int .u8 0) 1 Try.underlying27 (by kernel_rfl) rfl _ _ _ rfl HO.out.own _ _ _ (c8 (bytesL (d.ex.length / 4) 2)) rfl ?pp6x1 (c8_one _) ?pp6x2 ?pp6x3 ?pp6x4 ?pp6x5)
          case pp6x1 => exact src_of (bytesL_len _ _) HRu.out
          case pp6x2 => unfold maxLen; omega
          case pp6x3 => omega
          case pp6x4 => exact HO.out.lo
          intro v' v3 hown hg _
          obtain ⟨A6, c6, rfl⟩ := own_slice hown
          have hon : OSt w _ _ w1.heap.size A6 (12 + 4 * d.srcs.length + 4) c6 _ v3 := HO.out.app (x := bytesL (d.ex.length / 4) 2) (m := 2) hown hg
          obtain ⟨L6, hL⟩ : ∃ L, L = L5 ++ bytesL (d.ex.length / 4) 2 := ⟨_, rfl⟩
          rw [← hL] at hon
          have HL6 := Lib.hid hL
          clear HO hown hg hL
          have HO := Lib.hid hon
          clear hon k0 k1 k2 k3 k4 k5 k6 k7 k8 k9
          obtain ⟨k0, k1, k2, k3, k4, k5, k6, k7, k8, k9⟩ := cells10 HO.out.box
          go_wp2_with (at_builtin; refine wpl_app rfl _ _ 27 rfl w1.heap.size 5 (.int .u8 0) 1 Try.underlying27 (by kernel_rfl) rfl _ _ _ rfl HO.out.own _ _ _ (c8 (d.ex)) rfl ?pp7x1 (c8_one _) ?pp7x2 ?pp7x3 ?pp7x4 ?pp7x5)
          case pp7x1 => exact src_of rfl (HE.out.below (Nat.le_refl _) HO.out.below)
          case pp7x2 => unfold maxLen; omega
          case pp7x3 => omega
          case pp7x4 => exact HO.out.lo
          intro v' v3 hown hg _
          obtain ⟨A6, c6, rfl⟩ := own_slice hown
          have hon : OSt w _ _ w1.heap.size A6 (12 + 4 * d.srcs.length + 4 + d.ex.length) c6 _ v3 := HO.out.app (x := d.ex) (m := d.ex.length) hown hg
          obtain ⟨L7, hL⟩ : ∃ L, L = L6 ++ d.ex := ⟨_, rfl⟩
          rw [← hL] at hon
          have HL7 := Lib.hid hL
          clear HO hown hg hL
          have HO := Lib.hid hon
          clear hon k0 k1 k2 k3 k4 k5 k6 k7 k8 k9
          obtain ⟨k0, k1, k2, k3, k4, k5, k6, k7, k8, k9⟩ := cells10 HO.out.box
          go_wp2_with (at_builtin; refine wpl_app rfl _ _ 27 rfl w1.heap.size 5 (.int .u8 0) 1 Try.underlying27 (by kernel_rfl) rfl _ _ _ rfl HO.out.own _ _ _ (c8 (d.pl)) rfl ?pp8x1 (c8_one _) ?pp8x2 ?pp8x3 ?pp8x4 ?pp8x5)
          case pp8x1 => exact src_of rfl (HP.out.below (Nat.le_refl _) HO.out.below)
          case pp8x2 => unfold maxLen; omega
          case pp8x3 => omega
          case pp8x4 => exact HO.out.lo
          intro v' v3 hown hg _
          obtain ⟨A6, c6, rfl⟩ := own_slice hown
          have hon : OSt w _ _ w1.heap.size A6 (12 + 4 * d.srcs.length + 4 + d.ex.length + d.pl.length) c6 _ v3 := HO.out.app (x := d.pl) (m := d.pl.length) hown hg
          obtain ⟨L8, hL⟩ : ∃ L, L = L7 ++ d.pl := ⟨_, rfl⟩
          rw [← hL] at hon
          have HL8 := Lib.hid hL
          clear HO hown hg hL
          have HO := Lib.hid hon
          clear hon k0 k1 k2 k3 k4 k5 k6 k7 k8 k9
          obtain ⟨k0, k1, k2, k3, k4, k5, k6, k7, k8, k9⟩ := cells10 HO.out.box
          have HOf := Lib.hid HO.out
          go_wp2_with fail
          exact HQ.out _ _ (bytes_ok HRt.out (by
            have h := (own_bsx HOf.out.own).mono (G' := fun k => w.heap.size ≤ k) (fun k _ hk => by have := HLo.out; have hk2 : w1.heap.size ≤ k := hk; omega)
            have e : L8 = encP d := by rw [HL8.out, HL7.out, HL6.out, HL5.out]; unfold encP extB headB; rw [hhh]; simp
            rw [← e]; exact h) HOf.out.below)
    · have hhh : d.has = true := by assumption
      have hmm : d.m = false := by assumption
      have e1 : (128 + (d.srcs.length : Int) + 16) = ((one d : Nat) : Int) := by have h1 : one d = 128 + d.srcs.length + (if d.has then 16 else 0) := rfl; rw [hhh] at h1; simp at h1; omega
      have e2 : (d.ty : Int) = ((two d : Nat) : Int) := by have h1 : two d = d.ty + (if d.m then 128 else 0) := rfl; rw [hmm] at h1; simp at h1; omega
      have E2 := Lib.hid e2
      clear e2
      have hone : one d < 256 := by have := one_lt h15; omega
      have htwo : two d < 256 := by have := two_lt h127; omega
      go_upto_region 10 with fail
      rw [e1]
      have HO : Hid (OSt w w.heap.size (.cells #[.bool d.m, .int .u8 (d.ty : Nat), .int .u16 (d.seq : Nat), .int .u32 (d.st : Nat), .int .u32 (d.so : Nat), .slice As d.srcs.length cs, .bool d.has, .int .u16 (d.prof : Nat), .slice Ae d.ex.length ce, .slice Ap d.pl.length cp] 38 (0, 0)) w1.heap.size (some ⟨w1.heap.size, 0, none⟩) 2 2 [UInt8.ofNat (one d), UInt8.ofNat (two d)] (w1.alloc (.cells #[.int .u8 ((one d : Nat) : Int), .int .u8 ((d.ty : Nat) : Int)] 5))) := Lib.hid (by
        have e : c8 [UInt8.ofNat (one d), UInt8.ofNat (two d)] = [.int .u8 ((one d : Nat) : Int), .int .u8 ((d.ty : Nat) : Int)] := by simp only [c8, List.map_cons, List.map_nil]; rw [ofNat_toNat8 _ hone, ofNat_toNat8 _ htwo]; rw [← E2.out]
        have ho := own_two w1 w1.heap.size 5 (.int .u8 ((one d : Nat) : Int)) (.int .u8 ((d.ty : Nat) : Int)) (Nat.le_refl _)
        exact ⟨(Fr.alloc w1 _).heap HX1.out (fun h => h), by rw [e]; exact ho, HB1.out.alloc HB1.out.size _, HLo.out, Nat.le_of_lt HLo.out, by simp⟩)
      clear e1
      clear hone htwo k0 k1 k2 k3 k4 k5 k6 k7 k8 k9
      obtain ⟨k0, k1, k2, k3, k4, k5, k6, k7, k8, k9⟩ := cells10 HO.out.box
      go_wp2_with fail
      have hrb := fun w => rbytes_nat (d.seq) 2 w (by omega) (by decide)
      refine (hrb _).mono ?_
      rintro r w2 ⟨u, rfl, hu, hb⟩
      obtain ⟨Au, cu, hue, _, _, hru⟩ := bs_parts hu
      rw [bytesL_len] at hue
      subst hue
      have hon := HO.out.after hb
      have HRu := Lib.hid hru
      clear HO hu hb hru hrb k0 k1 k2 k3 k4 k5 k6 k7 k8 k9
      have HO := Lib.hid hon
      clear hon
      obtain ⟨k0, k1, k2, k3, k4, k5, k6, k7, k8, k9⟩ := cells10 HO.out.box
      go_wp2_with (at_builtin; refine wpl_app rfl _ _ 27 rfl w1.heap.size 5 (.int .u8 0) 1 Try.underlying27 (by kernel_rfl) rfl _ _ _ rfl HO.out.own _ _ _ (c8 (bytesL (d.seq) 2)) rfl ?pp9x1 (c8_one _) ?pp9x2 ?pp9x3 ?pp9x4 ?pp9x5)
      case pp9x1 => exact src_of (bytesL_len _ _) HRu.out
      case pp9x2 => unfold maxLen; omega
      case pp9x3 => omega
      case pp9x4 => exact HO.out.lo
      intro v' v3 hown hg _
      obtain ⟨A6, c6, rfl⟩ := own_slice hown
      have hon : OSt w _ _ w1.heap.size A6 (4) c6 _ v3 := HO.out.app (x := bytesL (d.seq) 2) (m := 2) hown hg
      clear HO hown hg
      have HO := Lib.hid hon
      clear hon k0 k1 k2 k3 k4 k5 k6 k7 k8 k9
      obtain ⟨k0, k1, k2, k3, k4, k5, k6, k7, k8, k9⟩ := cells10 HO.out.box
      go_wp2_with fail
      have hrb := fun w => rbytes_nat (d.st) 4 w (by omega) (by decide)
      refine (hrb _).mono ?_
      rintro r w2 ⟨u, rfl, hu, hb⟩
      obtain ⟨Au, cu, hue, _, _, hru⟩ := bs_parts hu
      rw [bytesL_len] at hue
      subst hue
      have hon := HO.out.after hb
      have HRu := Lib.hid hru
      clear HO hu hb hru hrb k0 k1 k2 k3 k4 k5 k6 k7 k8 k9
      have HO := Lib.hid hon
      clear hon
      obtain ⟨k0, k1, k2, k3, k4, k5, k6, k7, k8, k9⟩ := cells10 HO.out.box
      go_wp2_with (at_builtin; refine wpl_app rfl _ _ 27 rfl w1.heap.size 5 (.int .u8 0) 1 Try.underlying27 (by kernel_rfl) rfl _ _ _ rfl HO.out.own _ _ _ (c8 (bytesL (d.st) 4)) rfl ?pp10x1 (c8_one _) ?pp10x2 ?pp10x3 ?pp10x4 ?pp10x5)
      case pp10x1 => exact src_of (bytesL_len _ _) HRu.out
      case pp10x2 => unfold maxLen; omega
      case pp10x3 => omega
      case pp10x4 => exact HO.out.lo
      intro v' v3 hown hg _
      obtain ⟨A6, c6, rfl⟩ := own_slice hown
      have hon : OSt w _ _ w1.heap.size A6 (8) c6 _ v3 := HO.out.app (x := bytesL (d.st) 4) (m := 4) hown hg
      clear HO hown hg
      have HO := Lib.hid hon
      clear hon k0 k1 k2 k3 k4 k5 k6 k7 k8 k9
      obtain ⟨k0, k1, k2, k3, k4, k5, k6, k7, k8, k9⟩ := cells10 HO.out.box
      go_wp2_with fail
      have hrb := fun w => rbytes_nat (d.so) 4 w (by omega) (by decide)
      refine (hrb _).mono ?_
      rintro r w2 ⟨u, rfl, hu, hb⟩
      obtain ⟨Au, cu, hue, _, _, hru⟩ := bs_parts hu
      rw [bytesL_len] at hue
      subst hue
      have hon := HO.out.after hb
      have HRu := Lib.hid hru
      clear HO hu hb hru hrb k0 k1 k2 k3 k4 k5 k6 k7 k8 k9
      have HO := Lib.hid hon
      clear hon
      obtain ⟨k0, k1, k2, k3, k4, k5, k6, k7, k8, k9⟩ := cells10 HO.out.box
      go_wp2_with (at_builtin; refine wpl_app rfl _ _ 27 rfl w1.heap.size 5 (.int .u8 0) 1 Try.underlying27 (by kernel_rfl) rfl _ _ _ rfl HO.out.own _ _ _ (c8 (bytesL (d.so) 4)) rfl ?pp11x1 (c8_one _) ?pp11x2 ?pp11x3 ?pp11x4 ?pp11x5)
      case pp11x1 => exact src_of (bytesL_len _ _) HRu.out
      case pp11x2 => unfold maxLen; omega
      case pp11x3 => omega
      case pp11x4 => exact HO.out.lo
      intro v' v3 hown hg _
      obtain ⟨A6, c6, rfl⟩ := own_slice hown
      have hon : OSt w _ _ w1.heap.size A6 (12) c6 _ v3 := HO.out.app (x := bytesL (d.so) 4) (m := 4) hown hg
      clear HO hown hg
      have HO := Lib.hid hon
      clear hon k0 k1 k2 k3 k4 k5 k6 k7 k8 k9
      obtain ⟨k0, k1, k2, k3, k4, k5, k6, k7, k8, k9⟩ := cells10 HO.out.box
      go_upto_region 14 with fail
      have HO1 : Hid (OSt w w.heap.size (.cells #[.bool d.m, .int .u8 (d.ty : Nat), .int .u16 (d.seq : Nat), .int .u32 (d.st : Nat), .int .u32 (d.so : Nat), .slice As d.srcs.length cs, .bool d.has, .int .u16 (d.prof : Nat), .slice Ae d.ex.length ce, .slice Ap d.pl.length cp] 38 (0, 0)) w1.heap.size A6 (12 + 4 * 0) c6 (([UInt8.ofNat (one d), UInt8.ofNat (two d)] ++ bytesL d.seq 2 ++ bytesL d.st 4 ++ bytesL d.so 4) ++ srcB (d.srcs.take 0)) v3) := Lib.hid (by
        have h := HO.out
        rw [← List.append_nil (([UInt8.ofNat (one d), UInt8.ofNat (two d)] ++ bytesL d.seq 2 ++ bytesL d.st 4 ++ bytesL d.so 4))] at h
        exact h)
      clear HO
      go_loopw [6, 7] (fun out i wr => ∃ (j : Nat) (A6 : Option Addr) (c6 : Nat), j ≤ d.srcs.length ∧ out = .slice A6 (12 + 4 * j) c6 ∧ i = .int .i64 j ∧ OSt w w.heap.size (.cells #[.bool d.m, .int .u8 (d.ty : Nat), .int .u16 (d.seq : Nat), .int .u32 (d.st : Nat), .int .u32 (d.so : Nat), .slice As d.srcs.length cs, .bool d.has, .int .u16 (d.prof : Nat), .slice Ae d.ex.length ce, .slice Ap d.pl.length cp] 38 (0, 0)) w1.heap.size A6 (12 + 4 * j) c6 (([UInt8.ofNat (one d), UInt8.ofNat (two d)] ++ bytesL d.seq 2 ++ bytesL d.st 4 ++ bytesL d.so 4) ++ srcB (d.srcs.take j)) wr) (fun _ i _ => d.srcs.length - (intOf i).toNat)
      case atStart => exact ⟨0, A6, c6, Nat.zero_le _, rfl, rfl, HO1.out⟩
      case round =>
        obtain ⟨j, A6, c6, hj, rfl, rfl, hs⟩ := hrel
        have HO := Lib.hid hs
        clear hs HO1 k0 k1 k2 k3 k4 k5 k6 k7 k8 k9
        obtain ⟨k0, k1, k2, k3, k4, k5, k6, k7, k8, k9⟩ := cells10 HO.out.box
        by_cases hlt : j < d.srcs.length
        · obtain ⟨b', o, rfl, hb', hcell⟩ := (HA.out.below (Nat.le_refl _) HO.out.below) (by rw [nums_len]; omega)
          have hc1 := hcell j (by rw [nums_len]; exact hlt)
          rw [nums_get] at hc1
          clear hcell
          have hi0 : (0 : Int) ≤ (j : Int) := by omega
          have hi1 : (j : Int) < (d.srcs.length : Int) := by omega
          have HSn := Lib.hid (srcB_snoc d.srcs j hlt)
          have hx32 := HW.out.srcs _ (List.getElem_mem hlt)
          generalize (d.srcs[j]'hlt) = x at *
          go_wp2_with fail
          have hrb := fun w => rbytes_nat (x) 4 w (by omega) (by decide)
          refine (hrb _).mono ?_
          rintro r w2 ⟨u, rfl, hu, hb⟩
          obtain ⟨Au, cu, hue, _, _, hru⟩ := bs_parts hu
          rw [bytesL_len] at hue
          subst hue
          have hon := HO.out.after hb
          have HRu := Lib.hid hru
          clear HO hu hb hru hrb k0 k1 k2 k3 k4 k5 k6 k7 k8 k9
          have HO := Lib.hid hon
          clear hon
          obtain ⟨k0, k1, k2, k3, k4, k5, k6, k7, k8, k9⟩ := cells10 HO.out.box
          go_wp2_with (at_builtin; refine wpl_app rfl _ _ 27 rfl w1.heap.size 5 (.int .u8 0) 1 Try.underlying27 (by kernel_rfl) rfl _ _ _ rfl HO.out.own _ _ _ (c8 (bytesL (x) 4)) rfl ?pp12x1 (c8_one _) ?pp12x2 ?pp12x3 ?pp12x4 ?pp12x5)
          case pp12x1 => exact src_of (bytesL_len _ _) HRu.out
          case pp12x2 => unfold maxLen; omega
          case pp12x3 => omega
          case pp12x4 => exact HO.out.lo
          intro v' v3 hown hg _
          obtain ⟨A6, c6, rfl⟩ := own_slice hown
          have hon : OSt w _ _ w1.heap.size A6 (12 + 4 * j + 4) c6 _ v3 := HO.out.app (x := bytesL (x) 4) (m := 4) hown hg
          clear HO hown hg
          have HO := Lib.hid hon
          clear hon k0 k1 k2 k3 k4 k5 k6 k7 k8 k9
          obtain ⟨k0, k1, k2, k3, k4, k5, k6, k7, k8, k9⟩ := cells10 HO.out.box
          go_wp2_with fail
          go_roundw
          case rel => exact ⟨j + 1, A6, c6, by omega, by rw [show 12 + 4 * (j + 1) = 12 + 4 * j + 4 by omega], by go_num, by rw [HSn.out, ← List.append_assoc, show 12 + 4 * (j + 1) = 12 + 4 * j + 4 by omega]; exact HO.out⟩
          case measure => simp [intOf]; omega
        · have : j = d.srcs.length := by omega
          subst this
          rw [List.take_length] at HO
          go_wp2_with fail
          have hrb := fun w => rbytes_nat (d.prof) 2 w (by omega) (by decide)
          refine (hrb _).mono ?_
          rintro r w2 ⟨u, rfl, hu, hb⟩
          obtain ⟨Au, cu, hue, _, _, hru⟩ := bs_parts hu
          rw [bytesL_len] at hue
          subst hue
          have hon := HO.out.after hb
          have HRu := Lib.hid hru
          clear HO hu hb hru hrb k0 k1 k2 k3 k4 k5 k6 k7 k8 k9
          have HO := Lib.hid hon
          clear hon
          obtain ⟨k0, k1, k2, k3, k4, k5, k6, k7, k8, k9⟩ := cells10 HO.out.box
          go_wp2_with (at_builtin; refine wpl_app rfl _ _ 27 rfl w1.heap.size 5 (.int .u8 0) 1 Try.underlying27 (by kernel_rfl) rfl _ _ _ rfl HO.out.own _ _ _ (c8 (bytesL (d.prof) 2)) rfl ?pp13x1 (c8_one _) ?pp13x2 ?pp13x3 ?pp13x4 ?pp13x5)
          case pp13x1 => exact src_of (bytesL_len _ _) HRu.out
          case pp13x2 => unfold maxLen; omega
          case pp13x3 => omega
          case pp13x4 => exact HO.out.lo
          intro v' v3 hown hg _
          obtain ⟨A6, c6, rfl⟩ := own_slice hown
          have hon : OSt w _ _ w1.heap.size A6 (12 + 4 * d.srcs.length + 2) c6 _ v3 := HO.out.app (x := bytesL (d.prof) 2) (m := 2) hown hg
          obtain ⟨L13, hL⟩ : ∃ L, L = (([UInt8.ofNat (one d), UInt8.ofNat (two d)] ++ bytesL d.seq 2 ++ bytesL d.st 4 ++ bytesL d.so 4) ++ srcB d.srcs) ++ bytesL (d.prof) 2 := ⟨_, rfl⟩
          rw [← hL] at hon
          have HL13 := Lib.hid hL
          clear HO hown hg hL
          have HO := Lib.hid hon
          clear hon k0 k1 k2 k3 k4 k5 k6 k7 k8 k9
          obtain ⟨k0, k1, k2, k3, k4, k5, k6, k7, k8, k9⟩ := cells10 HO.out.box
          go_wp2_with fail
          have hrb := fun w => rbytes_nat (d.ex.length / 4) 2 w (by omega) (by decide)
          simp only [show ((d.ex.length / 4 : Nat) : Int) = (d.ex.length : Int) / 4 by omega] at hrb
          refine (hrb _).mono ?_
          rintro r w2 ⟨u, rfl, hu, hb⟩
          obtain ⟨Au, cu, hue, _, _, hru⟩ := bs_parts hu
          rw [bytesL_len] at hue
          subst hue
          have hon := HO.out.after hb
          have HRu := Lib.hid hru
          clear HO hu hb hru hrb k0 k1 k2 k3 k4 k5 k6 k7 k8 k9
          have HO := Lib.hid hon
          clear hon
          obtain ⟨k0, k1, k2, k3, k4, k5, k6, k7, k8, k9⟩ := cells10 HO.out.box
          go_wp2_with (at_builtin; refine wpl_app rfl _ _ 27 rfl w1.heap.size 5 (.int .u8 0) 1 Try.underlying27 (by kernel_rfl) rfl _ _ _ rfl HO.out.own _ _ _ (c8 (bytesL (d.ex.length / 4) 2)) rfl ?pp14x1 (c8_one _) ?pp14x2 ?pp14x3 ?pp14x4 ?pp14x5)
          case pp14x1 => exact src_of (bytesL_len _ _) HRu.out
          case pp14x2 => unfold maxLen; omega
          case pp14x3 => omega
          case pp14x4 => exact HO.out.lo
          intro v' v3 hown hg _
          obtain ⟨A6, c6, rfl⟩ := own_slice hown
          have hon : OSt w _ _ w1.heap.size A6 (12 + 4 * d.srcs.length + 4) c6 _ v3 := HO.out.app (x := bytesL (d.ex.length / 4) 2) (m := 2) hown hg
          obtain ⟨L14, hL⟩ : ∃ L, L = L13 ++ bytesL (d.ex.length / 4) 2 := ⟨_, rfl⟩
          rw [← hL] at hon
          have HL14 := Lib.hid hL
          clear HO hown hg hL
          have HO := Lib.hid hon
          clear hon k0 k1 k2 k3 k4 k5 k6 k7 k8 k9
          obtain ⟨k0, k1, k2, k3, k4, k5, k6, k7, k8, k9⟩ := cells10 HO.out.box
          go_wp2_with (at_builtin; refine wpl_app rfl _ _ 27 rfl w1.heap.size 5 (.int .u8 0) 1 Try.underlying27 (by kernel_rfl) rfl _ _ _ rfl HO.out.own _ _ _ (c8 (d.ex)) rfl ?pp15x1 (c8_one _) ?pp15x2 ?pp15x3 ?pp15x4 ?pp15x5)
          case pp15x1 => exact src_of rfl (HE.out.below (Nat.le_refl _) HO.out.below)
          case pp15x2 => unfold maxLen; omega
          case pp15x3 => omega
          case pp15x4 => exact HO.out.lo
          intro v' v3 hown hg _
          obtain ⟨A6, c6, rfl⟩ := own_slice hown
          have hon : OSt w _ _ w1.heap.size A6 (12 + 4 * d.srcs.length + 4 + d.ex.length) c6 _ v3 := HO.out.app (x := d.ex) (m := d.ex.length) hown hg
          obtain ⟨L15, hL⟩ : ∃ L, L = L14 ++ d.ex := ⟨_, rfl⟩
          rw [← hL] at hon
          have HL15 := Lib.hid hL
          clear HO hown hg hL
          have HO := Lib.hid hon
          clear hon k0 k1 k2 k3 k4 k5 k6 k7 k8 k9
          obtain ⟨k0, k1, k2, k3, k4, k5, k6, k7, k8, k9⟩ := cells10 HO.out.box
          go_wp2_with (at_builtin; refine wpl_app rfl _ _ 27 rfl w1.heap.size 5 (.int .u8 0) 1 Try.underlying27 (by kernel_rfl) rfl _ _ _ rfl HO.out.own _ _ _ (c8 (d.pl)) rfl ?pp16x1 (c8_one _) ?pp16x2 ?pp16x3 ?pp16x4 ?pp16x5)
          case pp16x1 => exact src_of rfl (HP.out.below (Nat.le_refl _) HO.out.below)
          case pp16x2 => unfold maxLen; omega
          case pp16x3 => omega
          case pp16x4 => exact HO.out.lo
          intro v' v3 hown hg _
          obtain ⟨A6, c6, rfl⟩ := own_slice hown
          have hon : OSt w _ _ w1.heap.size A6 (12 + 4 * d.srcs.length + 4 + d.ex.length + d.pl.length) c6 _ v3 := HO.out.app (x := d.pl) (m := d.pl.length) hown hg
          obtain ⟨L16, hL⟩ : ∃ L, L = L15 ++ d.pl := ⟨_, rfl⟩
          rw [← hL] at hon
          have HL16 := Lib.hid hL
          clear HO hown hg hL
          have HO := Lib.hid hon
          clear hon k0 k1 k2 k3 k4 k5 k6 k7 k8 k9
          obtain ⟨k0, k1, k2, k3, k4, k5, k6, k7, k8, k9⟩ := cells10 HO.out.box
          have HOf := Lib.hid HO.out
          go_wp2_with fail
          exact HQ.out _ _ (bytes_ok HRt.out (by
            have h := (own_bsx HOf.out.own).mono (G' := fun k => w.heap.size ≤ k) (fun k _ hk => by have := HLo.out; have hk2 : w1.heap.size ≤ k := hk; omega)
            have e : L16 = encP d := by rw [HL16.out, HL15.out, HL14.out, HL13.out]; unfold encP extB headB; rw [hhh]; simp
            rw [← e]; exact h) HOf.out.below)
    · have hhh : d.has = false := by assumption
      have hmm : d.m = true := by assumption
      have e1 : (128 + (d.srcs.length : Int)) = ((one d : Nat) : Int) := by have h1 : one d = 128 + d.srcs.length + (if d.has then 16 else 0) := rfl; rw [hhh] at h1; simp at h1; omega
      have e2 : ((d.ty : Int) + 128) = ((two d : Nat) : Int) := by have h1 : two d = d.ty + (if d.m then 128 else 0) := rfl; rw [hmm] at h1; simp at h1; omega
      have hone : one d < 256 := by have := one_lt h15; omega
      have htwo : two d < 256 := by have := two_lt h127; omega
      go_upto_region 10 with fail
      rw [e1, e2]
      have HO : Hid (OSt w w.heap.size (.cells #[.bool d.m, .int .u8 (d.ty : Nat), .int .u16 (d.seq : Nat), .int .u32 (d.st : Nat), .int .u32 (d.so : Nat), .slice As d.srcs.length cs, .bool d.has, .int .u16 (d.prof : Nat), .slice Ae d.ex.length ce, .slice Ap d.pl.length cp] 38 (0, 0)) w1.heap.size (some ⟨w1.heap.size, 0, none⟩) 2 2 [UInt8.ofNat (one d), UInt8.ofNat (two d)] (w1.alloc (.cells #[.int .u8 ((one d : Nat) : Int), .int .u8 ((two d : Nat) : Int)] 5))) := Lib.hid (by
        have e : c8 [UInt8.ofNat (one d), UInt8.ofNat (two d)] = [.int .u8 ((one d : Nat) : Int), .int .u8 ((two d : Nat) : Int)] := by simp only [c8, List.map_cons, List.map_nil]; rw [ofNat_toNat8 _ hone, ofNat_toNat8 _ htwo]
        have ho := own_two w1 w1.heap.size 5 (.int .u8 ((one d : Nat) : Int)) (.int .u8 ((two d : Nat) : Int)) (Nat.le_refl _)
        exact ⟨(Fr.alloc w1 _).heap HX1.out (fun h => h), by rw [e]; exact ho, HB1.out.alloc HB1.out.size _, HLo.out, Nat.le_of_lt HLo.out, by simp⟩)
      clear e1
      clear hone htwo k0 k1 k2 k3 k4 k5 k6 k7 k8 k9
      obtain ⟨k0, k1, k2, k3, k4, k5, k6, k7, k8, k9⟩ := cells10 HO.out.box
      go_wp2_with fail
      have hrb := fun w => rbytes_nat (d.seq) 2 w (by omega) (by decide)
      refine (hrb _).mono ?_
      rintro r w2 ⟨u, rfl, hu, hb⟩
      obtain ⟨Au, cu, hue, _, _, hru⟩ := bs_parts hu
      rw [bytesL_len] at hue
      subst hue
      have hon := HO.out.after hb
      have HRu := Lib.hid hru
      clear HO hu hb hru hrb k0 k1 k2 k3 k4 k5 k6 k7 k8 k9
      have HO := Lib.hid hon
      clear hon
      obtain ⟨k0, k1, k2, k3, k4, k5, k6, k7, k8, k9⟩ := cells10 HO.out.box
      go_wp2_with (at_builtin; refine wpl_app rfl _ _ 27 rfl w1.heap.size 5 (.int .u8 0) 1 Try.underlying27 (by kernel_rfl) rfl _ _ _ rfl HO.out.own _ _ _ (c8 (bytesL (d.seq) 2)) rfl ?pp17x1 (c8_one _) ?pp17x2 ?pp17x3 ?pp17x4 ?pp17x5)
      case pp17x1 => exact src_of (bytesL_len _ _) HRu.out
      case pp17x2 => unfold maxLen; omega
      case pp17x3 => omega
      case pp17x4 => exact HO.out.lo
      intro v' v3 hown hg _
      obtain ⟨A6, c6, rfl⟩ := own_slice hown
      have hon : OSt w _ _ w1.heap.size A6 (4) c6 _ v3 := HO.out.app (x := bytesL (d.seq) 2) (m := 2) hown hg
      clear HO hown hg
      have HO := Lib.hid hon
      clear hon k0 k1 k2 k3 k4 k5 k6 k7 k8 k9
      obtain ⟨k0, k1, k2, k3, k4, k5, k6, k7, k8, k9⟩ := cells10 HO.out.box
      go_wp2_with fail
      have hrb := fun w => rbytes_nat (d.st) 4 w (by omega) (by decide)
      refine (hrb _).mono ?_
      rintro r w2 ⟨u, rfl, hu, hb⟩
      obtain ⟨Au, cu, hue, _, _, hru⟩ := bs_parts hu
      rw [bytesL_len] at hue
      subst hue
      have hon := HO.out.after hb
      have HRu := Lib.hid hru
      clear HO hu hb hru hrb k0 k1 k2 k3 k4 k5 k6 k7 k8 k9
      have HO := Lib.hid hon
      clear hon
      obtain ⟨k0, k1, k2, k3, k4, k5, k6, k7, k8, k9⟩ := cells10 HO.out.box
      go_wp2_with (at_builtin; refine wpl_app rfl _ _ 27 rfl w1.heap.size 5 (.int .u8 0) 1 Try.underlying27 (by kernel_rfl) rfl _ _ _ rfl HO.out.own _ _ _ (c8 (bytesL (d.st) 4)) rfl ?pp18x1 (c8_one _) ?pp18x2 ?pp18x3 ?pp18x4 ?pp18x5)
      case pp18x1 => exact src_of (bytesL_len _ _) HRu.out
      case pp18x2 => unfold maxLen; omega
      case pp18x3 => omega
      case pp18x4 => exact HO.out.lo
      intro v' v3 hown hg _
      obtain ⟨A6, c6, rfl⟩ := own_slice hown
      have hon : OSt w _ _ w1.heap.size A6 (8) c6 _ v3 := HO.out.app (x := bytesL (d.st) 4) (m := 4) hown hg
      clear HO hown hg
      have HO := Lib.hid hon
      clear hon k0 k1 k2 k3 k4 k5 k6 k7 k8 k9
      obtain ⟨k0, k1, k2, k3, k4, k5, k6, k7, k8, k9⟩ := cells10 HO.out.box
      go_wp2_with fail
      have hrb := fun w => rbytes_nat (d.so) 4 w (by omega) (by decide)
      refine (hrb _).mono ?_
      rintro r w2 ⟨u, rfl, hu, hb⟩
      obtain ⟨Au, cu, hue, _, _, hru⟩ := bs_parts hu
      rw [bytesL_len] at hue
      subst hue
      have hon := HO.out.after hb
      have HRu := Lib.hid hru
      clear HO hu hb hru hrb k0 k1 k2 k3 k4 k5 k6 k7 k8 k9
      have HO := Lib.hid hon
      clear hon
      obtain ⟨k0, k1, k2, k3, k4, k5, k6, k7, k8, k9⟩ := cells10 HO.out.box
      go_wp2_with (at_builtin; refine wpl_app rfl _ _ 27 rfl w1.heap.size 5 (.int .u8 0) 1 Try.underlying27 (by kernel_rfl) rfl _ _ _ rfl HO.out.own _ _ _ (c8 (bytesL (d.so) 4)) rfl ?pp19x1 (c8_one _) ?pp19x2 ?pp19x3 ?pp19x4 ?pp19x5)
      case pp19x1 => exact src_of (bytesL_len _ _) HRu.out
      case pp19x2 => unfold maxLen; omega
      case pp19x3 => omega
      case pp19x4 => exact HO.out.lo
      intro v' v3 hown hg _
      obtain ⟨A6, c6, rfl⟩ := own_slice hown
      have hon : OSt w _ _ w1.heap.size A6 (12) c6 _ v3 := HO.out.app (x := bytesL (d.so) 4) (m := 4) hown hg
      clear HO hown hg
      have HO := Lib.hid hon
      clear hon k0 k1 k2 k3 k4 k5 k6 k7 k8 k9
      obtain ⟨k0, k1, k2, k3, k4, k5, k6, k7, k8, k9⟩ := cells10 HO.out.box
      go_upto_region 14 with fail
      have HO1 : Hid (OSt w w.heap.size (.cells #[.bool d.m, .int .u8 (d.ty : Nat), .int .u16 (d.seq : Nat), .int .u32 (d.st : Nat), .int .u32 (d.so : Nat), .slice As d.srcs.length cs, .bool d.has, .int .u16 (d.prof : Nat), .slice Ae d.ex.length ce, .slice Ap d.pl.length cp] 38 (0, 0)) w1.heap.size A6 (12 + 4 * 0) c6 (([UInt8.ofNat (one d), UInt8.ofNat (two d)] ++ bytesL d.seq 2 ++ bytesL d.st 4 ++ bytesL d.so 4) ++ srcB (d.srcs.take 0)) v3) := Lib.hid (by
        have h := HO.out
        rw [← List.append_nil (([UInt8.ofNat (one d), UInt8.ofNat (two d)] ++ bytesL d.seq 2 ++ bytesL d.st 4 ++ bytesL d.so 4))] at h
        exact h)
      clear HO
      go_loopw [6, 7] (fun out i wr => ∃ (j : Nat) (A6 : Option Addr) (c6 : Nat), j ≤ d.srcs.length ∧ out = .slice A6 (12 + 4 * j) c6 ∧ i = .int .i64 j ∧ OSt w w.heap.size (.cells #[.bool d.m, .int .u8 (d.ty : Nat), .int .u16 (d.seq : Nat), .int .u32 (d.st : Nat), .int .u32 (d.so : Nat), .slice As d.srcs.length cs, .bool d.has, .int .u16 (d.prof : Nat), .slice Ae d.ex.length ce, .slice Ap d.pl.length cp] 38 (0, 0)) w1.heap.size A6 (12 + 4 * j) c6 (([UInt8.ofNat (one d), UInt8.ofNat (two d)] ++ bytesL d.seq 2 ++ bytesL d.st 4 ++ bytesL d.so 4) ++ srcB (d.srcs.take j)) wr) (fun _ i _ => d.srcs.length - (intOf i).toNat)
      case atStart => exact ⟨0, A6, c6, Nat.zero_le _, rfl, rfl, HO1.out⟩
      case round =>
        obtain ⟨j, A6, c6, hj, rfl, rfl, hs⟩ := hrel
        have HO := Lib.hid hs
        clear hs HO1 k0 k1 k2 k3 k4 k5 k6 k7 k8 k9
        obtain ⟨k0, k1, k2, k3, k4, k5, k6, k7, k8, k9⟩ := cells10 HO.out.box
        by_cases hlt : j < d.srcs.length
        · obtain ⟨b', o, rfl, hb', hcell⟩ := (HA.out.below (Nat.le_refl _) HO.out.below) (by rw [nums_len]; omega)
          have hc1 := hcell j (by rw [nums_len]; exact hlt)
          rw [nums_get] at hc1
          clear hcell
          have hi0 : (0 : Int) ≤ (j : Int) := by omega
          have hi1 : (j : Int) < (d.srcs.length : Int) := by omega
          have HSn := Lib.hid (srcB_snoc d.srcs j hlt)
          have hx32 := HW.out.srcs _ (List.getElem_mem hlt)
          generalize (d.srcs[j]'hlt) = x at *
          go_wp2_with fail
          have hrb := fun w => rbytes_nat (x) 4 w (by omega) (by decide)
          refine (hrb _).mono ?_
          rintro r w2 ⟨u, rfl, hu, hb⟩
          obtain ⟨Au, cu, hue, _, _, hru⟩ := bs_parts hu
          rw [bytesL_len] at hue
          subst hue
          have hon := HO.out.after hb
          have HRu := Lib.hid hru
          clear HO hu hb hru hrb k0 k1 k2 k3 k4 k5 k6 k7 k8 k9
          have HO := Lib.hid hon
          clear hon
          obtain ⟨k0, k1, k2, k3, k4, k5, k6, k7, k8, k9⟩ := cells10 HO.out.box
          go_wp2_with (at_builtin; refine wpl_app rfl _ _ 27 rfl w1.heap.size 5 (.int .u8 0) 1 Try.underlying27 (by kernel_rfl) rfl _ _ _ rfl HO.out.own _ _ _ (c8 (bytesL (x) 4)) rfl ?pp20x1 (c8_one _) ?pp20x2 ?pp20x3 ?pp20x4 ?pp20x5)
          case pp20x1 => exact src_of (bytesL_len _ _) HRu.out
          case pp20x2 => unfold maxLen; omega
          case pp20x3 => omega
          case pp20x4 => exact HO.out.lo
          intro v' v3 hown hg _
          obtain ⟨A6, c6, rfl⟩ := own_slice hown
          have hon : OSt w _ _ w1.heap.size A6 (12 + 4 * j + 4) c6 _ v3 := HO.out.app (x := bytesL (x) 4) (m := 4) hown hg
          clear HO hown hg
          have HO := Lib.hid hon
          clear hon k0 k1 k2 k3 k4 k5 k6 k7 k8 k9
          obtain ⟨k0, k1, k2, k3, k4, k5, k6, k7, k8, k9⟩ := cells10 HO.out.box
          go_wp2_with fail
          go_roundw
          case rel => exact ⟨j + 1, A6, c6, by omega, by rw [show 12 + 4 * (j + 1) = 12 + 4 * j + 4 by omega], by go_num, by rw [HSn.out, ← List.append_assoc, show 12 + 4 * (j + 1) = 12 + 4 * j + 4 by omega]; exact HO.out⟩
          case measure => simp [intOf]; omega
        · have : j = d.srcs.length := by omega
          subst this
          rw [List.take_length] at HO
          go_wp2_with (at_builtin; refine wpl_app rfl _ _ 27 rfl w1.heap.size 5 (.int .u8 0) 1 Try.underlying27 (by kernel_rfl) rfl _ _ _ rfl HO.out.own _ _ _ (c8 (d.pl)) rfl ?pp21x1 (c8_one _) ?pp21x2 ?pp21x3 ?pp21x4 ?pp21x5)
          case pp21x1 => exact src_of rfl (HP.out.below (Nat.le_refl _) HO.out.below)
          case pp21x2 => unfold maxLen; omega
          case pp21x3 => omega
          case pp21x4 => exact HO.out.lo
          intro v' v3 hown hg _
          obtain ⟨A6, c6, rfl⟩ := own_slice hown
          have hon : OSt w _ _ w1.heap.size A6 (12 + 4 * d.srcs.length + d.pl.length) c6 _ v3 := HO.out.app (x := d.pl) (m := d.pl.length) hown hg
          obtain ⟨L21, hL⟩ : ∃ L, L = (([UInt8.ofNat (one d), UInt8.ofNat (two d)] ++ bytesL d.seq 2 ++ bytesL d.st 4 ++ bytesL d.so 4) ++ srcB d.srcs) ++ d.pl := ⟨_, rfl⟩
          rw [← hL] at hon
          have HL21 := Lib.hid hL
          clear HO hown hg hL
          have HO := Lib.hid hon
          clear hon k0 k1 k2 k3 k4 k5 k6 k7 k8 k9
          obtain ⟨k0, k1, k2, k3, k4, k5, k6, k7, k8, k9⟩ := cells10 HO.out.box
          have HOf := Lib.hid HO.out
          go_wp2_with fail
          exact HQ.out _ _ (bytes_ok HRt.out (by
            have h := (own_bsx HOf.out.own).mono (G' := fun k => w.heap.size ≤ k) (fun k _ hk => by have := HLo.out; have hk2 : w1.heap.size ≤ k := hk; omega)
            have e : L21 = encP d := by rw [HL21.out]; unfold encP extB headB; rw [hhh]; simp
            rw [← e]; exact h) HOf.out.below)
    · have hhh : d.has = false := by assumption
      have hmm : d.m = false := by assumption
      have e1 : (128 + (d.srcs.length : Int)) = ((one d : Nat) : Int) := by have h1 : one d = 128 + d.srcs.length + (if d.has then 16 else 0) := rfl; rw [hhh] at h1; simp at h1; omega
      have e2 : (d.ty : Int) = ((two d : Nat) : Int) := by have h1 : two d = d.ty + (if d.m then 128 else 0) := rfl; rw [hmm] at h1; simp at h1; omega
      have E2 := Lib.hid e2
      clear e2
      have hone : one d < 256 := by have := one_lt h15; omega
      have htwo : two d < 256 := by have := two_lt h127; omega
      go_upto_region 10 with fail
      rw [e1]
      have HO : Hid (OSt w w.heap.size (.cells #[.bool d.m, .int .u8 (d.ty : Nat), .int .u16 (d.seq : Nat), .int .u32 (d.st : Nat), .int .u32 (d.so : Nat), .slice As d.srcs.length cs, .bool d.has, .int .u16 (d.prof : Nat), .slice Ae d.ex.length ce, .slice Ap d.pl.length cp] 38 (0, 0)) w1.heap.size (some ⟨w1.heap.size, 0, none⟩) 2 2 [UInt8.ofNat (one d), UInt8.ofNat (two d)] (w1.alloc (.cells #[.int .u8 ((one d : Nat) : Int), .int .u8 ((d.ty : Nat) : Int)] 5))) := Lib.hid (by
        have e : c8 [UInt8.ofNat (one d), UInt8.ofNat (two d)] = [.int .u8 ((one d : Nat) : Int), .int .u8 ((d.ty : Nat) : Int)] := by simp only [c8, List.map_cons, List.map_nil]; rw [ofNat_toNat8 _ hone, ofNat_toNat8 _ htwo]; rw [← E2.out]
        have ho := own_two w1 w1.heap.size 5 (.int .u8 ((one d : Nat) : Int)) (.int .u8 ((d.ty : Nat) : Int)) (Nat.le_refl _)
        exact ⟨(Fr.alloc w1 _).heap HX1.out (fun h => h), by rw [e]; exact ho, HB1.out.alloc HB1.out.size _, HLo.out, Nat.le_of_lt HLo.out, by simp⟩)
      clear e1
      clear hone htwo k0 k1 k2 k3 k4 k5 k6 k7 k8 k9
      obtain ⟨k0, k1, k2, k3, k4, k5, k6, k7, k8, k9⟩ := cells10 HO.out.box
      go_wp2_with fail
      have hrb := fun w => rbytes_nat (d.seq) 2 w (by omega) (by decide)
      refine (hrb _).mono ?_
      rintro r w2 ⟨u, rfl, hu, hb⟩
      obtain ⟨Au, cu, hue, _, _, hru⟩ := bs_parts hu
      rw [bytesL_len] at hue
      subst hue
      have hon := HO.out.after hb
      have HRu := Lib.hid hru
      clear HO hu hb hru hrb k0 k1 k2 k3 k4 k5 k6 k7 k8 k9
      have HO := Lib.hid hon
      clear hon
      obtain ⟨k0, k1, k2, k3, k4, k5, k6, k7, k8, k9⟩ := cells10 HO.out.box
      go_wp2_with (at_builtin; refine wpl_app rfl _ _ 27 rfl w1.heap.size 5 (.int .u8 0) 1 Try.underlying27 (by kernel_rfl) rfl _ _ _ rfl HO.out.own _ _ _ (c8 (bytesL (d.seq) 2)) rfl ?pp22x1 (c8_one _) ?pp22x2 ?pp22x3 ?pp22x4 ?pp22x5)
      case pp22x1 => exact src_of (bytesL_len _ _) HRu.out
      case pp22x2 => unfold maxLen; omega
      case pp22x3 => omega
      case pp22x4 => exact HO.out.lo
      intro v' v3 hown hg _
      obtain ⟨A6, c6, rfl⟩ := own_slice hown
      have hon : OSt w _ _ w1.heap.size A6 (4) c6 _ v3 := HO.out.app (x := bytesL (d.seq) 2) (m := 2) hown hg
      clear HO hown hg
      have HO := Lib.hid hon
      clear hon k0 k1 k2 k3 k4 k5 k6 k7 k8 k9
      obtain ⟨k0, k1, k2, k3, k4, k5, k6, k7, k8, k9⟩ := cells10 HO.out.box
      go_wp2_with fail
      have hrb := fun w => rbytes_nat (d.st) 4 w (by omega) (by decide)
      refine (hrb _).mono ?_
      rintro r w2 ⟨u, rfl, hu, hb⟩
      obtain ⟨Au, cu, hue, _, _, hru⟩ := bs_parts hu
      rw [bytesL_len] at hue
      subst hue
      have hon := HO.out.after hb
      have HRu := Lib.hid hru
      clear HO hu hb hru hrb k0 k1 k2 k3 k4 k5 k6 k7 k8 k9
      have HO := Lib.hid hon
      clear hon
      obtain ⟨k0, k1, k2, k3, k4, k5, k6, k7, k8, k9⟩ := cells10 HO.out.box
      go_wp2_with (at_builtin; refine wpl_app rfl _ _ 27 rfl w1.heap.size 5 (.int .u8 0) 1 Try.underlying27 (by kernel_rfl) rfl _ _ _ rfl HO.out.own _ _ _ (c8 (bytesL (d.st) 4)) rfl ?pp23x1 (c8_one _) ?pp23x2 ?pp23x3 ?pp23x4 ?pp23x5)
      case pp23x1 => exact src_of (bytesL_len _ _) HRu.out
      case pp23x2 => unfold maxLen; omega
      case pp23x3 => omega
      case pp23x4 => exact HO.out.lo
      intro v' v3 hown hg _
      obtain ⟨A6, c6, rfl⟩ := own_slice hown
      have hon : OSt w _ _ w1.heap.size A6 (8) c6 _ v3 := HO.out.app (x := bytesL (d.st) 4) (m := 4) hown hg
      clear HO hown hg
      have HO := Lib.hid hon
      clear hon k0 k1 k2 k3 k4 k5 k6 k7 k8 k9
      obtain ⟨k0, k1, k2, k3, k4, k5, k6, k7, k8, k9⟩ := cells10 HO.out.box
      go_wp2_with fail
      have hrb := fun w => rbytes_nat (d.so) 4 w (by omega) (by decide)
      refine (hrb _).mono ?_
      rintro r w2 ⟨u, rfl, hu, hb⟩
      obtain ⟨Au, cu, hue, _, _, hru⟩ := bs_parts hu
      rw [bytesL_len] at hue
      subst hue
      have hon := HO.out.after hb
      have HRu := Lib.hid hru
      clear HO hu hb hru hrb k0 k1 k2 k3 k4 k5 k6 k7 k8 k9
      have HO := Lib.hid hon
      clear hon
      obtain ⟨k0, k1, k2, k3, k4, k5, k6, k7, k8, k9⟩ := cells10 HO.out.box
      go_wp2_with (at_builtin; refine wpl_app rfl _ _ 27 rfl w1.heap.size 5 (.int .u8 0) 1 Try.underlying27 (by kernel_rfl) rfl _ _ _ rfl HO.out.own _ _ _ (c8 (bytesL (d.so) 4)) rfl ?pp24x1 (c8_one _) ?pp24x2 ?pp24x3 ?pp24x4 ?pp24x5)
      case pp24x1 => exact src_of (bytesL_len _ _) HRu.out
      case pp24x2 => unfold maxLen; omega
      case pp24x3 => omega
      case pp24x4 => exact HO.out.lo
      intro v' v3 hown hg _
      obtain ⟨A6, c6, rfl⟩ := own_slice hown
      have hon : OSt w _ _ w1.heap.size A6 (12) c6 _ v3 := HO.out.app (x := bytesL (d.so) 4) (m := 4) hown hg
      clear HO hown hg
      have HO := Lib.hid hon
      clear hon k0 k1 k2 k3 k4 k5 k6 k7 k8 k9
      obtain ⟨k0, k1, k2, k3, k4, k5, k6, k7, k8, k9⟩ := cells10 HO.out.box
      go_upto_region 14 with fail
      have HO1 : Hid (OSt w w.heap.size (.cells #[.bool d.m, .int .u8 (d.ty : Nat), .int .u16 (d.seq : Nat), .int .u32 (d.st : Nat), .int .u32 (d.so : Nat), .slice As d.srcs.length cs, .bool d.has, .int .u16 (d.prof : Nat), .slice Ae d.ex.length ce, .slice Ap d.pl.length cp] 38 (0, 0)) w1.heap.size A6 (12 + 4 * 0) c6 (([UInt8.ofNat (one d), UInt8.ofNat (two d)] ++ bytesL d.seq 2 ++ bytesL d.st 4 ++ bytesL d.so 4) ++ srcB (d.srcs.take 0)) v3) := Lib.hid (by
        have h := HO.out
        rw [← List.append_nil (([UInt8.ofNat (one d), UInt8.ofNat (two d)] ++ bytesL d.seq 2 ++ bytesL d.st 4 ++ bytesL d.so 4))] at h
        exact h)
      clear HO
      go_loopw [6, 7] (fun out i wr => ∃ (j : Nat) (A6 : Option Addr) (c6 : Nat), j ≤ d.srcs.length ∧ out = .slice A6 (12 + 4 * j) c6 ∧ i = .int .i64 j ∧ OSt w w.heap.size (.cells #[.bool d.m, .int .u8 (d.ty : Nat), .int .u16 (d.seq : Nat), .int .u32 (d.st : Nat), .int .u32 (d.so : Nat), .slice As d.srcs.length cs, .bool d.has, .int .u16 (d.prof : Nat), .slice Ae d.ex.length ce, .slice Ap d.pl.length cp] 38 (0, 0)) w1.heap.size A6 (12 + 4 * j) c6 (([UInt8.ofNat (one d), UInt8.ofNat (two d)] ++ bytesL d.seq 2 ++ bytesL d.st 4 ++ bytesL d.so 4) ++ srcB (d.srcs.take j)) wr) (fun _ i _ => d.srcs.length - (intOf i).toNat)
      case atStart => exact ⟨0, A6, c6, Nat.zero_le _, rfl, rfl, HO1.out⟩
      case round =>
        obtain ⟨j, A6, c6, hj, rfl, rfl, hs⟩ := hrel
        have HO := Lib.hid hs
        clear hs HO1 k0 k1 k2 k3 k4 k5 k6 k7 k8 k9
        obtain ⟨k0, k1, k2, k3, k4, k5, k6, k7, k8, k9⟩ := cells10 HO.out.box
        by_cases hlt : j < d.srcs.length
        · obtain ⟨b', o, rfl, hb', hcell⟩ := (HA.out.below (Nat.le_refl _) HO.out.below) (by rw [nums_len]; omega)
          have hc1 := hcell j (by rw [nums_len]; exact hlt)
          rw [nums_get] at hc1
          clear hcell
          have hi0 : (0 : Int) ≤ (j : Int) := by omega
          have hi1 : (j : Int) < (d.srcs.length : Int) := by omega
          have HSn := Lib.hid (srcB_snoc d.srcs j hlt)
          have hx32 := HW.out.srcs _ (List.getElem_mem hlt)
          generalize (d.srcs[j]'hlt) = x at *
          go_wp2_with fail
          have hrb := fun w => rbytes_nat (x) 4 w (by omega) (by decide)
          refine (hrb _).mono ?_
          rintro r w2 ⟨u, rfl, hu, hb⟩
          obtain ⟨Au, cu, hue, _, _, hru⟩ := bs_parts hu
          rw [bytesL_len] at hue
          subst hue
          have hon := HO.out.after hb
          have HRu := Lib.hid hru
          clear HO hu hb hru hrb k0 k1 k2 k3 k4 k5 k6 k7 k8 k9
          have HO := Lib.hid hon
          clear hon
          obtain ⟨k0, k1, k2, k3, k4, k5, k6, k7, k8, k9⟩ := cells10 HO.out.box
          go_wp2_with (at_builtin; refine wpl_app rfl _ _ 27 rfl w1.heap.size 5 (.int .u8 0) 1 Try.underlying27 (by kernel_rfl) rfl _ _ _ rfl HO.out.own _ _ _ (c8 (bytesL (x) 4)) rfl ?pp25x1 (c8_one _) ?pp25x2 ?pp25x3 ?pp25x4 ?pp25x5)
          case pp25x1 => exact src_of (bytesL_len _ _) HRu.out
          case pp25x2 => unfold maxLen; omega
          case pp25x3 => omega
          case pp25x4 => exact HO.out.lo
          intro v' v3 hown hg _
          obtain ⟨A6, c6, rfl⟩ := own_slice hown
          have hon : OSt w _ _ w1.heap.size A6 (12 + 4 * j + 4) c6 _ v3 := HO.out.app (x := bytesL (x) 4) (m := 4) hown hg
          clear HO hown hg
          have HO := Lib.hid hon
          clear hon k0 k1 k2 k3 k4 k5 k6 k7 k8 k9
          obtain ⟨k0, k1, k2, k3, k4, k5, k6, k7, k8, k9⟩ := cells10 HO.out.box
          go_wp2_with fail
          go_roundw
          case rel => exact ⟨j + 1, A6, c6, by omega, by rw [show 12 + 4 * (j + 1) = 12 + 4 * j + 4 by omega], by go_num, by rw [HSn.out, ← List.append_assoc, show 12 + 4 * (j + 1) = 12 + 4 * j + 4 by omega]; exact HO.out⟩
          case measure => simp [intOf]; omega
        · have : j = d.srcs.length := by omega
          subst this
          rw [List.take_length] at HO
          go_wp2_with (at_builtin; refine wpl_app rfl _ _ 27 rfl w1.heap.size 5 (.int .u8 0) 1 Try.underlying27 (by kernel_rfl) rfl _ _ _ rfl HO.out.own _ _ _ (c8 (d.pl)) rfl ?pp26x1 (c8_one _) ?pp26x2 ?pp26x3 ?pp26x4 ?pp26x5)
          case pp26x1 => exact src_of rfl (HP.out.below (Nat.le_refl _) HO.out.below)
          case pp26x2 => unfold maxLen; omega
          case pp26x3 => omega
          case pp26x4 => exact HO.out.lo
          intro v' v3 hown hg _
          obtain ⟨A6, c6, rfl⟩ := own_slice hown
          have hon : OSt w _ _ w1.heap.size A6 (12 + 4 * d.srcs.length + d.pl.length) c6 _ v3 := HO.out.app (x := d.pl) (m := d.pl.length) hown hg
          obtain ⟨L26, hL⟩ : ∃ L, L = (([UInt8.ofNat (one d), UInt8.ofNat (two d)] ++ bytesL d.seq 2 ++ bytesL d.st 4 ++ bytesL d.so 4) ++ srcB d.srcs) ++ d.pl := ⟨_, rfl⟩
          rw [← hL] at hon
          have HL26 := Lib.hid hL
          clear HO hown hg hL
          have HO := Lib.hid hon
          clear hon k0 k1 k2 k3 k4 k5 k6 k7 k8 k9
          obtain ⟨k0, k1, k2, k3, k4, k5, k6, k7, k8, k9⟩ := cells10 HO.out.box
          have HOf := Lib.hid HO.out
          go_wp2_with fail
          exact HQ.out _ _ (bytes_ok HRt.out (by
            have h := (own_bsx HOf.out.own).mono (G' := fun k => w.heap.size ≤ k) (fun k _ hk => by have := HLo.out; have hk2 : w1.heap.size ≤ k := hk; omega)
            have e : L26 = encP d := by rw [HL26.out]; unfold encP extB headB; rw [hhh]; simp
            rw [← e]; exact h) HOf.out.below)
  · have HRt := Lib.hid hr
    rw [show rightB d = false by simpa using hr] at hc
    have HC := Lib.hid hc
    clear hr hc
    go_enter Try.func8, Try.ntmps8
    go_wp2_with fail
    refine HC.out.mono ?_
    rintro e w1 ⟨rfl, hb⟩
    have HB1 := Lib.hid ((below_alloc (.cells #[.bool d.m, .int .u8 (d.ty : Nat), .int .u16 (d.seq : Nat), .int .u32 (d.st : Nat), .int .u32 (d.so : Nat), .slice As d.srcs.length cs, .bool d.has, .int .u16 (d.prof : Nat), .slice Ae d.ex.length ce, .slice Ap d.pl.length cp] 38 (0, 0))).trans (hb.mono (by simp)))
    clear hb HC
    go_wp2_with fail
    exact HQ.out _ _ (bytes_no (by simpa using HRt.out) HB1.out)
end Go.Proofs.Ytphaehponljofaa
