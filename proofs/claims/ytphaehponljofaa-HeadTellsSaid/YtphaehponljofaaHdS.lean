/- The walks of layer 4's small functions: Control, the two first bytes, the document's Same. -/
import Derived.Test.YtphaehponljofaaHd
import Derived.Test.YtphaehponljofaaBSame
import Derived.Test.YtphaehponljofaaBField
import Derived.Test.YtphaehponljofaaBLay
namespace Go.Proofs.Ytphaehponljofaa
open Go.RowKit

/-- no media? -/
def controlB (l : List UInt8) : Bool := match l with | _ :: y :: _ => decide (192 ≤ y.toNat ∧ y.toNat ≤ 223) | _ => false
theorem controlB_eq (l : List UInt8) (h : 1 < l.length) : controlB l = decide (192 ≤ l[1].toNat ∧ l[1].toNat ≤ 223) := by
  match l, h with
  | _ :: y :: _, _ => rfl
theorem controlB_short (l : List UInt8) (h : l.length < 2) : controlB l = false := by
  match l, h with
  | [], _ => rfl
  | [_], _ => rfl
set_option maxHeartbeats 400000 in
theorem control_any (v : Value) (l : List UInt8) (w : World) (hv : BS w v l) :
    Calls Try.prog 16 #[v] w fun e w' => e = .returned (.bool (controlB l)) ∧ ∃ n, w' = w.drewN n := by
  obtain ⟨A, c, rfl, hc, hm, hr⟩ := bs_parts hv
  have HR := Lib.hid hr
  clear hr hv
  refine calls_q fun Q HQ => ?_
  by_cases h2 : 2 ≤ l.length
  · obtain ⟨b, o, rfl, hb, hcell⟩ := HR.out (by omega)
    have hc1 := hcell 1 (by omega)
    have hC := controlB_eq l (by omega)
    have HC := Lib.hid hC
    have hx := UInt8.toNat_lt (l[1]'(by omega))
    clear hcell hC
    generalize (l[1]'(by omega)).toNat = x at *
    have h1 : (1 : Int) < (l.length : Int) := by omega
    have h2' : (2 : Int) ≤ (l.length : Int) := by omega
    go_enter Try.func16, Try.ntmps16
    go_wp2_with fail
    all_goals (refine HQ.out _ _ ⟨ret_bool ?_, 0, rfl⟩; rw [HC.out, Bool.eq_iff_iff]; simp; try omega)
  · have h2' : (l.length : Int) < 2 := by omega
    have hC := controlB_short l (by omega)
    have HC := Lib.hid hC
    clear hC
    go_enter Try.func16, Try.ntmps16
    go_wp2_with fail
    all_goals exact HQ.out _ _ ⟨ret_bool HC.out.symm, 0, rfl⟩
set_option maxHeartbeats 400000 in
theorem rcontrol_any (v : Value) (l : List UInt8) (w : World) (hv : BS w v l) :
    Calls Try.prog 17 #[v] w fun e w' => e = .returned (.bool (controlB l)) ∧ ∃ n, w' = w.drewN n := by
  obtain ⟨A, c, rfl, hc, hm, hr⟩ := bs_parts hv
  have HR := Lib.hid hr
  clear hr hv
  refine calls_q fun Q HQ => ?_
  by_cases h2 : 2 ≤ l.length
  · obtain ⟨b, o, rfl, hb, hcell⟩ := HR.out (by omega)
    have hc1 := hcell 1 (by omega)
    have hC := controlB_eq l (by omega)
    have HC := Lib.hid hC
    have hx := UInt8.toNat_lt (l[1]'(by omega))
    clear hcell hC
    generalize (l[1]'(by omega)).toNat = x at *
    have h1 : (1 : Int) < (l.length : Int) := by omega
    have h2' : (2 : Int) ≤ (l.length : Int) := by omega
    go_enter Try.func17, Try.ntmps17
    go_wp2_with fail
    all_goals (refine HQ.out _ _ ⟨ret_bool ?_, 0, rfl⟩; rw [HC.out, Bool.eq_iff_iff]; simp; try omega)
  · have h2' : (l.length : Int) < 2 := by omega
    have hC := controlB_short l (by omega)
    have HC := Lib.hid hC
    clear hC
    go_enter Try.func17, Try.ntmps17
    go_wp2_with fail
    all_goals exact HQ.out _ _ ⟨ret_bool HC.out.symm, 0, rfl⟩
theorem lay1 (k : Nat) (h : k ≤ 15) : layN k 6 2 2 = 128 + k ∧ layN (128 + k) 4 1 1 = 144 + k := by
  have : ∀ k : Fin 16, layN k.1 6 2 2 = 128 + k.1 ∧ layN (128 + k.1) 4 1 1 = 144 + k.1 := by decide +kernel
  exact this ⟨k, by omega⟩
theorem lay2 (k : Nat) (h : k ≤ 127) : layN k 7 1 1 = k + 128 := by
  have : ∀ k : Fin 128, layN k.1 7 1 1 = k.1 + 128 := by decide +kernel
  exact this ⟨k, by omega⟩
theorem ofNat_toNat8 (n : Nat) (h : n < 256) : ((UInt8.ofNat n).toNat : Nat) = n := by rw [UInt8.toNat_ofNat']; omega
set_option maxHeartbeats 400000 in
theorem first_any (v : Value) (d : PD) (w : World) (hv : PV w v d) (h15 : d.srcs.length ≤ 15) :
    Calls Try.prog 19 #[v] w fun e w' => e = .returned (.int .u8 (one d : Nat)) ∧ Below w.heap.size w w' := by
  obtain ⟨As, cs, Ae, ce, Ap, cp, rfl, ⟨a1, a2, a3⟩, ⟨b1, b2, b3⟩, c1, c2, c3⟩ := hv.parts
  have hO : one d = 128 + d.srcs.length + (if d.has then 16 else 0) := rfl
  clear hv a3 b3 c3
  obtain ⟨l1, l2⟩ := lay1 d.srcs.length h15
  have hu : U64 (d.srcs.length : Int) := ⟨by omega, by omega⟩
  have hu2 : U64 ((128 + d.srcs.length : Nat) : Int) := ⟨by omega, by omega⟩
  have hc1 := fun w => lay_any (d.srcs.length : Int) 6 2 2 w hu ⟨by decide, by decide⟩
  have hc2 := fun w => lay_any ((128 + d.srcs.length : Nat) : Int) 4 1 1 w hu2 ⟨by decide, by decide⟩
  have hw := u64_id hu
  simp only [Int.toNat_natCast, show (2 : Int).toNat = 2 from rfl, show (1 : Int).toNat = 1 from rfl, l1, l2] at hc1 hc2
  generalize d.srcs.length = n at *
  unfold pcells
  generalize one d = o at *
  obtain ⟨m, ty, seq, st, so, srcs, has, prof, ex, pl⟩ := d
  simp only at *
  have C1 := Lib.hid hc1
  have C2 := Lib.hid hc2
  clear hc1 hc2 l1 l2 hu hu2
  refine calls_q fun Q HQ => ?_
  cases has
  · simp at hO
    go_enter Try.func19, Try.ntmps19
    go_wp2_with (go_at_call 41; refine (C1.out _).mono ?_; rintro e w1 ⟨rfl, rfl⟩)
    refine HQ.out _ _ ⟨ret_int ?_, below_alloc _⟩
    omega
  · simp at hO
    go_enter Try.func19, Try.ntmps19
    go_wp2_with fail
    refine (C1.out _).mono ?_
    rintro e w1 ⟨rfl, rfl⟩
    go_wp2_with fail
    refine (C2.out _).mono ?_
    rintro e w1 ⟨rfl, rfl⟩
    go_wp2_with fail
    refine HQ.out _ _ ⟨ret_int ?_, below_alloc _⟩
    omega
set_option maxHeartbeats 400000 in
theorem second_any (v : Value) (d : PD) (w : World) (hv : PV w v d) (h : d.ty ≤ 127) :
    Calls Try.prog 20 #[v] w fun e w' => e = .returned (.int .u8 (two d : Nat)) ∧ Below w.heap.size w w' := by
  obtain ⟨As, cs, Ae, ce, Ap, cp, rfl, ⟨a1, a2, a3⟩, ⟨b1, b2, b3⟩, c1, c2, c3⟩ := hv.parts
  have hO : two d = d.ty + (if d.m then 128 else 0) := rfl
  clear hv a3 b3 c3
  have l1 := lay2 d.ty h
  have hu : U64 (d.ty : Int) := ⟨by omega, by omega⟩
  have hc1 := fun w => lay_any (d.ty : Int) 7 1 1 w hu ⟨by decide, by decide⟩
  have hw := u64_id hu
  simp only [Int.toNat_natCast, show (1 : Int).toNat = 1 from rfl, l1] at hc1
  unfold pcells
  generalize two d = o at *
  obtain ⟨m, ty, seq, st, so, srcs, has, prof, ex, pl⟩ := d
  simp only at *
  have C1 := Lib.hid hc1
  clear hc1 l1 hu
  refine calls_q fun Q HQ => ?_
  cases m
  · simp at hO
    go_enter Try.func20, Try.ntmps20
    go_wp2_with fail
    refine HQ.out _ _ ⟨ret_int ?_, below_alloc _⟩
    first | omega | (rw [hO]; rfl) | trace_state
  · simp at hO
    go_enter Try.func20, Try.ntmps20
    go_wp2_with (go_at_call 41; refine (C1.out _).mono ?_; rintro e w1 ⟨rfl, rfl⟩)
    refine HQ.out _ _ ⟨ret_int ?_, below_alloc _⟩
    first | omega | (rw [hO]; rfl) | trace_state
/-! ### two packets held against each other -/
theorem nums_get (l : List Nat) (j : Nat) (h : j < (nums l).length) : (nums l)[j] = .int .u32 ((l[j]'(by rw [nums_len] at h; exact h) : Nat) : Int) := by simp [nums]
theorem num_ne {x y : Nat} (h : x ≠ y) : (((x : Nat) : Int) != ((y : Nat) : Int)) = true := by simp; omega
theorem num_eq {x y : Nat} (h : x = y) : (((x : Nat) : Int) != ((y : Nat) : Int)) = false := by rw [h]; simp
theorem ntake_step {l m : List Nat} {j : Nat} (h1 : j < l.length) (h2 : j < m.length) (h : l.take j = m.take j) (he : l[j] = m[j]) : l.take (j + 1) = m.take (j + 1) := by
  rw [List.take_succ_eq_append_getElem h1, List.take_succ_eq_append_getElem h2, h, he]
set_option maxHeartbeats 1000000 in
theorem psame_any (v u : Value) (a b : PD) (w : World) (hv : PV w v a) (hu : PV w u b) :
    Calls Try.prog 15 #[v, u] w fun e w' => e = .returned (.bool (sameB a b)) ∧ Below w.heap.size w w' := by
  obtain ⟨As, cs, Ae, ce, Ap, cp, rfl, ⟨a1, a2, a3⟩, ⟨b1, b2, b3⟩, c1, c2, c3⟩ := hv.parts
  obtain ⟨Bs, ds, Be, de, Bp, dp, rfl, ⟨i1, i2, i3⟩, ⟨j1, j2, j3⟩, k1, k2, k3⟩ := hu.parts
  have A3 := Lib.hid a3
  have B3 := Lib.hid b3
  have C3 := Lib.hid c3
  have I3 := Lib.hid i3
  have J3 := Lib.hid j3
  have K3 := Lib.hid k3
  have hS : sameB a b = (a.m == b.m && a.ty == b.ty && a.seq == b.seq && a.st == b.st && a.so == b.so && a.has == b.has && a.prof == b.prof && a.srcs == b.srcs && a.ex == b.ex && a.pl == b.pl) := rfl
  have HS := Lib.hid hS
  clear hv hu a3 b3 c3 i3 j3 k3 hS
  unfold pcells
  refine calls_q fun Q HQ => ?_
  go_enter Try.func15, Try.ntmps15
  go_wp2_with fail
  all_goals first
    | (refine HQ.out _ _ ⟨ret_bool ?_, (below_alloc _).alloc (by simp) _⟩; clear HS HQ A3 B3 C3 I3 J3 K3; symm; rw [Bool.eq_false_iff]; intro hx; rw [sameB_iff] at hx; subst hx; simp at *; done)
    | skip
  have hl' : a.srcs.length = b.srcs.length := by
    have h := ‹((a.srcs.length : Int) != (b.srcs.length : Int)) = false›
    simp at h; omega
  have HL := Lib.hid hl'
  have G := Lib.hid (show a.m = b.m ∧ a.ty = b.ty ∧ a.seq = b.seq ∧ a.st = b.st ∧ a.so = b.so ∧ a.has = b.has ∧ a.prof = b.prof from ⟨by assumption, by omega, by omega, by omega, by omega, by assumption, by omega⟩)
  clear hl'
  go_loopw [5] (fun i wr => ∃ j d : Nat, j ≤ a.srcs.length ∧ i = .int .i64 j ∧ a.srcs.take j = b.srcs.take j ∧ wr = ((w.alloc (.cells #[.bool b.m, .int .u8 (b.ty : Nat), .int .u16 (b.seq : Nat), .int .u32 (b.st : Nat), .int .u32 (b.so : Nat), .slice As a.srcs.length cs, .bool b.has, .int .u16 (b.prof : Nat), .slice Ae a.ex.length ce, .slice Ap a.pl.length cp] 38)).alloc (.cells #[.bool b.m, .int .u8 (b.ty : Nat), .int .u16 (b.seq : Nat), .int .u32 (b.st : Nat), .int .u32 (b.so : Nat), .slice Bs b.srcs.length ds, .bool b.has, .int .u16 (b.prof : Nat), .slice Be b.ex.length de, .slice Bp b.pl.length dp] 38)).drewN d) (fun i _ => a.srcs.length - (intOf i).toNat)
  case atStart => exact ⟨0, 0, Nat.zero_le _, rfl, by simp, rfl⟩
  case round =>
    obtain ⟨j, d, hj, rfl, ht, rfl⟩ := hrel
    have HT := Lib.hid ht
    clear ht
    by_cases hlt : j < a.srcs.length
    · have hlt2 : j < b.srcs.length := by have := HL.out; omega
      obtain ⟨b', o, rfl, hb, hcell⟩ := A3.out (by rw [nums_len]; omega)
      obtain ⟨b2, o2, rfl, hb2, hcell2⟩ := I3.out (by rw [nums_len]; omega)
      have hc1 := hcell j (by rw [nums_len]; exact hlt)
      have hc2 := hcell2 j (by rw [nums_len]; exact hlt2)
      rw [nums_get] at hc1 hc2
      clear hcell hcell2
      have hi0 : (0 : Int) ≤ (j : Int) := by omega
      have hi1 : (j : Int) < (a.srcs.length : Int) := by omega
      have hi2 : (j : Int) < (b.srcs.length : Int) := by omega
      by_cases he : a.srcs[j] = b.srcs[j]
      · have hx := num_eq he
        have HE := Lib.hid he
        clear he
        go_wp2_with fail
        go_quiet (fail)
        go_wp2_with fail
        go_roundw
        case rel => exact ⟨j + 1, _, by omega, by go_num, ntake_step hlt hlt2 HT.out HE.out, rfl⟩
        case measure => simp [intOf]; omega
      · have hx := num_ne he
        have HE := Lib.hid he
        clear he
        go_wp2_with fail
        go_quiet (fail)
        go_wp2_with fail
        refine HQ.out _ _ ⟨ret_bool ?_, below_drewN (below_drewN ((below_alloc _).alloc (by simp) _) _) _⟩
        symm
        rw [Bool.eq_false_iff]
        intro hy
        rw [sameB_iff] at hy
        subst hy
        exact HE.out rfl
    · have : j = a.srcs.length := by omega
      subst this
      have hsrc : a.srcs = b.srcs := by
        have h1 := HT.out
        have h2 := HL.out
        rwa [List.take_of_length_le (Nat.le_refl _), List.take_of_length_le (by omega)] at h1
      have hbl : Below w.heap.size w (((w.alloc (.cells #[.bool b.m, .int .u8 (b.ty : Nat), .int .u16 (b.seq : Nat), .int .u32 (b.st : Nat), .int .u32 (b.so : Nat), .slice As a.srcs.length cs, .bool b.has, .int .u16 (b.prof : Nat), .slice Ae a.ex.length ce, .slice Ap a.pl.length cp] 38)).alloc (.cells #[.bool b.m, .int .u8 (b.ty : Nat), .int .u16 (b.seq : Nat), .int .u32 (b.st : Nat), .int .u32 (b.so : Nat), .slice Bs b.srcs.length ds, .bool b.has, .int .u16 (b.prof : Nat), .slice Be b.ex.length de, .slice Bp b.pl.length dp] 38)).drewN d) := below_drewN ((below_alloc _).alloc (by simp) _) d
      have hv1 : BS (((w.alloc (.cells #[.bool b.m, .int .u8 (b.ty : Nat), .int .u16 (b.seq : Nat), .int .u32 (b.st : Nat), .int .u32 (b.so : Nat), .slice As a.srcs.length cs, .bool b.has, .int .u16 (b.prof : Nat), .slice Ae a.ex.length ce, .slice Ap a.pl.length cp] 38)).alloc (.cells #[.bool b.m, .int .u8 (b.ty : Nat), .int .u16 (b.seq : Nat), .int .u32 (b.st : Nat), .int .u32 (b.so : Nat), .slice Bs b.srcs.length ds, .bool b.has, .int .u16 (b.prof : Nat), .slice Be b.ex.length de, .slice Bp b.pl.length dp] 38)).drewN d) (.slice Ae a.ex.length ce) a.ex := ⟨Ae, ce, rfl, b1, by unfold maxLen; omega, B3.out.below (Nat.le_refl _) hbl⟩
      have hv2 : BS (((w.alloc (.cells #[.bool b.m, .int .u8 (b.ty : Nat), .int .u16 (b.seq : Nat), .int .u32 (b.st : Nat), .int .u32 (b.so : Nat), .slice As a.srcs.length cs, .bool b.has, .int .u16 (b.prof : Nat), .slice Ae a.ex.length ce, .slice Ap a.pl.length cp] 38)).alloc (.cells #[.bool b.m, .int .u8 (b.ty : Nat), .int .u16 (b.seq : Nat), .int .u32 (b.st : Nat), .int .u32 (b.so : Nat), .slice Bs b.srcs.length ds, .bool b.has, .int .u16 (b.prof : Nat), .slice Be b.ex.length de, .slice Bp b.pl.length dp] 38)).drewN d) (.slice Be b.ex.length de) b.ex := ⟨Be, de, rfl, j1, by unfold maxLen; omega, J3.out.below (Nat.le_refl _) hbl⟩
      have hv3 : BS (((w.alloc (.cells #[.bool b.m, .int .u8 (b.ty : Nat), .int .u16 (b.seq : Nat), .int .u32 (b.st : Nat), .int .u32 (b.so : Nat), .slice As a.srcs.length cs, .bool b.has, .int .u16 (b.prof : Nat), .slice Ae a.ex.length ce, .slice Ap a.pl.length cp] 38)).alloc (.cells #[.bool b.m, .int .u8 (b.ty : Nat), .int .u16 (b.seq : Nat), .int .u32 (b.st : Nat), .int .u32 (b.so : Nat), .slice Bs b.srcs.length ds, .bool b.has, .int .u16 (b.prof : Nat), .slice Be b.ex.length de, .slice Bp b.pl.length dp] 38)).drewN d) (.slice Ap a.pl.length cp) a.pl := ⟨Ap, cp, rfl, c1, by unfold maxLen; omega, C3.out.below (Nat.le_refl _) hbl⟩
      have hv4 : BS (((w.alloc (.cells #[.bool b.m, .int .u8 (b.ty : Nat), .int .u16 (b.seq : Nat), .int .u32 (b.st : Nat), .int .u32 (b.so : Nat), .slice As a.srcs.length cs, .bool b.has, .int .u16 (b.prof : Nat), .slice Ae a.ex.length ce, .slice Ap a.pl.length cp] 38)).alloc (.cells #[.bool b.m, .int .u8 (b.ty : Nat), .int .u16 (b.seq : Nat), .int .u32 (b.st : Nat), .int .u32 (b.so : Nat), .slice Bs b.srcs.length ds, .bool b.has, .int .u16 (b.prof : Nat), .slice Be b.ex.length de, .slice Bp b.pl.length dp] 38)).drewN d) (.slice Bp b.pl.length dp) b.pl := ⟨Bp, dp, rfl, k1, by unfold maxLen; omega, K3.out.below (Nat.le_refl _) hbl⟩
      have V1 := Lib.hid hv1
      have V2 := Lib.hid hv2
      have V3 := Lib.hid hv3
      have V4 := Lib.hid hv4
      have SR := Lib.hid hsrc
      have HB := Lib.hid hbl
      clear hv1 hv2 hv3 hv4 hsrc hbl
      go_wp2_with fail
      have hc := rsame_any _ _ _ _ _ V1.out V2.out
      by_cases hex : (a.ex == b.ex) = true
      · rw [hex] at hc
        refine hc.mono ?_
        rintro e w1 ⟨rfl, n1, rfl⟩
        have HX := Lib.hid hex
        clear hc hex
        go_wp2_with fail
        have hx3 := V3.out.drewN n1
        have hx4 := V4.out.drewN n1
        rw [World.drewN_drewN] at hx3 hx4
        refine (rsame_any _ _ _ _ _ hx3 hx4).mono ?_
        rintro e w1 ⟨rfl, n2, rfl⟩
        have hb3 := below_drewN HB.out (n1 + n2)
        rw [World.drewN_drewN, ← Nat.add_assoc] at hb3
        have HB3 := Lib.hid hb3
        clear hx3 hx4 hb3
        go_wp2_with fail
        refine HQ.out _ _ ⟨ret_bool ?_, HB3.out⟩
        obtain ⟨q1, q2, q3, q4, q5, q6, q7⟩ := G.out
        rw [HS.out, q1, q2, q3, q4, q5, q6, q7, SR.out, HX.out]
        simp
      · rw [show (a.ex == b.ex) = false by simpa using hex] at hc
        refine hc.mono ?_
        rintro e w1 ⟨rfl, n1, rfl⟩
        have HX := Lib.hid hex
        clear hc hex
        have hb3 := below_drewN HB.out n1
        rw [World.drewN_drewN] at hb3
        have HB3 := Lib.hid hb3
        clear hb3
        go_wp2_with fail
        refine HQ.out _ _ ⟨ret_bool ?_, HB3.out⟩
        symm
        rw [Bool.eq_false_iff]
        intro hy
        rw [sameB_iff] at hy
        subst hy
        exact HX.out (by simp)
end Go.Proofs.Ytphaehponljofaa
