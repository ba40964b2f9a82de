/- The walk of probe.Read. -/
import Derived.Test.YthomlikmjgeccaaPbNums
import Derived.Test.YthomlikmjgeccaaPbLen
namespace Go.Proofs.Ythomlikmjgeccaa
open Go.RowKit

/-- a reader and a description, behind the block of the result; nothing that was there is changed -/
structure RW (b0 lo rb db : Nat) (s : RS) (w0 w : World) : Prop where
  rd : Rd lo w rb s.l s.e
  d : w.heap[db]? = some s.d.obj
  res : w.heap[b0]? = some DD.zero.obj
  below : Below w0.heap.size w0 w
  o0 : w0.heap.size ≤ b0
  o1 : b0 < lo
  o2 : lo ≤ rb
  o3 : rb < db
section
variable {b0 lo rb db : Nat} {s : RS} {w0 w w' : World}
theorem RW.fr0 (h : RW b0 lo rb db s w0 w) (hf : Fr F0 w w') : RW b0 lo rb db s w0 w' :=
  ⟨h.rd.fr0 hf, hf.heap h.d (fun h => h), hf.heap h.res (fun h => h), h.below.trans (hf.below0.mono h.below.size), h.o0, h.o1, h.o2, h.o3⟩
theorem rw_nums (h : RW b0 lo rb db s w0 w) : Calls Try.prog 21 #[.pointer (some ⟨rb, 0, none⟩), .pointer (some ⟨db, 0, none⟩)] w fun r w' => r = .returned (.tuple #[]) ∧ RW b0 lo rb db (numsS s) w0 w' := by
  refine (pnums_any lo rb db s w h.rd h.d h.o3).mono ?_
  rintro r w' ⟨rfl, h1, h2, h3⟩
  have o0 := h.o0; have o1 := h.o1; have o2 := h.o2; have o3 := h.o3
  exact ⟨rfl, h1, h2, h3.heap h.res (fun hk => by omega), h.below.trans (h3.below h.below.size (fun k hk => by omega)), o0, o1, o2, o3⟩
end
/-- the same, ahead of the description -/
structure R0 (b0 lo rb : Nat) (l : List UInt8) (e : Int) (w0 w : World) : Prop where
  rd : Rd lo w rb l e
  res : w.heap[b0]? = some DD.zero.obj
  below : Below w0.heap.size w0 w
  o0 : w0.heap.size ≤ b0
  o1 : b0 < lo
  o2 : lo ≤ rb
theorem R0.drewN {b0 lo rb : Nat} {l : List UInt8} {e : Int} {w0 w : World} (h : R0 b0 lo rb l e w0 w) (k : Nat) : R0 b0 lo rb l e w0 (w.drewN k) :=
  ⟨h.rd.fr0 (Fr.drewN w k), h.res, below_drewN h.below k, h.o0, h.o1, h.o2⟩
theorem R0.desc {b0 lo rb : Nat} {l : List UInt8} {e : Int} {w0 w : World} (h : R0 b0 lo rb l e w0 w) (d : DD) : RW b0 lo rb w.heap.size ⟨l, e, d⟩ w0 (w.alloc (.cells d.cs 23)) := by
  have hf := Fr.alloc w (.cells d.cs 23)
  have hlt := h.rd.lt
  exact ⟨h.rd.fr0 hf, heap_alloc_new _ _, hf.heap h.res (fun h => h), h.below.trans (hf.below0.mono h.below.size), h.o0, h.o1, h.o2, hlt.2⟩
theorem R0.step {b0 lo rb : Nat} {l l' : List UInt8} {e e' : Int} {w0 w w' : World} (h : R0 b0 lo rb l e w0 w) (hp : RPost lo w rb l' e' w') : R0 b0 lo rb l' e' w0 w' := by
  have o0 := h.o0; have o1 := h.o1; have o2 := h.o2
  exact ⟨hp.1, hp.2.heap h.res (fun hk => by have h2 : b0 = rb := hk; omega), h.below.trans (hp.2.below h.below.size (fun k hk => by have h2 : k = rb := hk; omega)), o0, o1, o2⟩
/-- the first bytes, as a slice -/
theorem bs_take {w : World} {A : Option Addr} {c : Nat} {l : List UInt8} (h : BS w (.slice A l.length c) l) (hl : 6 ≤ l.length) : BS w (.slice A 6 c) (l.take 6) := by
  obtain ⟨A1, c1, he, h1, h2, hr⟩ := h
  simp only [Value.slice.injEq] at he
  obtain ⟨rfl, _, rfl⟩ := he
  have hn : (l.take 6).length = 6 := by simp; omega
  exact ⟨A, c, by rw [hn], by omega, h2, hr.take 6⟩
theorem obj_set9 {w : World} {b : Nat} {x0 x1 x2 x3 x4 x5 x6 x7 x8 : Value} {t : TypeId} (h : w.heap[b]? = some (.cells #[x0, x1, x2, x3, x4, x5, x6, x7, x8] t (0, 0))) (y0 y1 y2 y3 y4 y5 y6 y7 y8 : Value) :
    ∀ w', w' = (((((((((w.setCell ⟨b, 0, none⟩ y0).setCell ⟨b, 1, none⟩ y1).setCell ⟨b, 2, none⟩ y2).setCell ⟨b, 3, none⟩ y3).setCell ⟨b, 4, none⟩ y4).setCell ⟨b, 5, none⟩ y5).setCell ⟨b, 6, none⟩ y6).setCell ⟨b, 7, none⟩ y7).setCell ⟨b, 8, none⟩ y8) → w'.heap[b]? = some (.cells #[y0, y1, y2, y3, y4, y5, y6, y7, y8] t (0, 0)) ∧ Fr (F1 b) w w' := by
  rintro _ rfl
  have h0 := obj_set h 0 y0
  have h1 := obj_set h0 1 y1
  have h2 := obj_set h1 2 y2
  have h3 := obj_set h2 3 y3
  have h4 := obj_set h3 4 y4
  have h5 := obj_set h4 5 y5
  have h6 := obj_set h5 6 y6
  have h7 := obj_set h6 7 y7
  have h8 := obj_set h7 8 y8
  refine ⟨by simpa using h8, ?_⟩
  have f0 : Fr (F1 b) w (w.setCell ⟨b, 0, none⟩ y0) := Fr.setCell w ⟨b, 0, none⟩ y0
  have f1 : Fr (F1 b) w ((w.setCell ⟨b, 0, none⟩ y0).setCell ⟨b, 1, none⟩ y1) := f0.trans (Fr.setCell _ ⟨b, 1, none⟩ y1) (fun _ h => .inl h)
  have f2 := f1.trans (Fr.setCell _ ⟨b, 2, none⟩ y2) (fun _ h => .inl h)
  have f3 := f2.trans (Fr.setCell _ ⟨b, 3, none⟩ y3) (fun _ h => .inl h)
  have f4 := f3.trans (Fr.setCell _ ⟨b, 4, none⟩ y4) (fun _ h => .inl h)
  have f5 := f4.trans (Fr.setCell _ ⟨b, 5, none⟩ y5) (fun _ h => .inl h)
  have f6 := f5.trans (Fr.setCell _ ⟨b, 6, none⟩ y6) (fun _ h => .inl h)
  have f7 := f6.trans (Fr.setCell _ ⟨b, 7, none⟩ y7) (fun _ h => .inl h)
  have f8 := f7.trans (Fr.setCell _ ⟨b, 8, none⟩ y8) (fun _ h => .inl h)
  exact f8
theorem nine_frozen {w : World} {b : Nat} {cs : Array Value} {t : TypeId} (h : w.heap[b]? = some (.cells cs t (0, 0))) :
    w.frozen? ⟨b, 0, none⟩ = false ∧ w.frozen? ⟨b, 1, none⟩ = false ∧ w.frozen? ⟨b, 2, none⟩ = false ∧ w.frozen? ⟨b, 3, none⟩ = false ∧ w.frozen? ⟨b, 4, none⟩ = false ∧
    w.frozen? ⟨b, 5, none⟩ = false ∧ w.frozen? ⟨b, 6, none⟩ = false ∧ w.frozen? ⟨b, 7, none⟩ = false ∧ w.frozen? ⟨b, 8, none⟩ = false := by
  have k := obj_frozen h
  exact ⟨k 0, k 1, k 2, k 3, k 4, k 5, k 6, k 7, k 8⟩
/-- what Read answers -/
def PbReadPost (l : List UInt8) (w : World) (e : Ending) (w' : World) : Prop :=
  e = .returned (.tuple #[(resD l).val, .int .i64 (resN l : Nat), .int .i64 (resE l)]) ∧ Below w.heap.size w w'
set_option maxHeartbeats 2000000 in
theorem pread_any (v : Value) (l : List UInt8) (w : World) (hv : BS w v l) : Calls Try.prog 8 #[v] w (PbReadPost l w) := by
  obtain ⟨A, c, rfl, hc, hcm, hrow⟩ := bs_parts hv
  have ha := Fr.alloc w (.cells DD.zero.cs 23)
  have hv1 : BS (w.alloc (.cells DD.zero.cs 23)) (.slice A l.length c) l := hv.fr ha (fun _ _ h => h)
  have ha0 := heap_alloc_new w (.cells DD.zero.cs 23)
  have hsz : (w.alloc (.cells DD.zero.cs 23)).heap.size = w.heap.size + 1 := by simp
  obtain ⟨l6, h6⟩ : ∃ x, l.take 6 = x := ⟨_, rfl⟩
  have h6l : l6.length ≤ 6 := by rw [← h6]; simp; omega
  have hmin : min (l.length : Int) 6 = (l6.length : Nat) := by rw [← h6]; simp; omega
  have hb6 : BS (w.alloc (.cells DD.zero.cs 23)) (.slice A l6.length c) l6 := by
    by_cases hl : 6 ≤ l.length
    · have h := bs_take hv1 hl
      rw [h6] at h
      have : l6.length = 6 := by rw [← h6]; simp; omega
      rw [this]; exact h
    · have : l.take 6 = l := List.take_of_length_le (by omega)
      rw [this] at h6
      rw [← h6]; exact hv1
  have hl6 : l6.length ≤ l.length := by rw [← h6]; simp; omega
  have HNew := Lib.hid (new_any _ l6 _ hb6 (by omega))
  have HL6 := Lib.hid (show (6 ≤ l.length → l6.length = 6) ∧ (l.length ≤ 6 → l6.length = l.length) by rw [← h6]; simp; omega)
  refine calls_q fun Q HQ => ?_
  unfold PbReadPost resD resN resE at HQ
  rw [h6] at HQ
  clear hv hv1 hb6 hrow h6
  have H0 := Lib.hid ha0
  have HS := Lib.hid hsz
  have HA := Lib.hid ha.below0
  clear ha0 hsz ha hmin
  rw [show (Obj.cells DD.zero.cs 23) = (.cells #[.bool false, .bool false, .int .u8 0, .int .i64 0, .bool false, .int .i64 0, .int .i64 0, .bool false, .int .i64 0] 23) from rfl] at HNew H0 HS HA
  go_enter Try.func8, Try.ntmps8
  go_upto_region 1 with fail
  go_cut [0] (fun s0 wx => s0 = .slice A l6.length c ∧ wx = w.alloc (.cells #[.bool false, .bool false, .int .u8 0, .int .i64 0, .bool false, .int .i64 0, .int .i64 0, .bool false, .int .i64 0] 23))
  case first =>
    clear HNew H0 HS HA
    by_cases hl : 6 < l.length
    · have e := HL6.out.1 (by omega)
      go_wp2_with fail
      go_meet
      case rel => exact ⟨by rw [e], rfl⟩
    · have e := HL6.out.2 (by omega)
      go_wp2_with fail
      go_meet
      case rel => exact ⟨by rw [e], rfl⟩
  case rest =>
    obtain ⟨rfl, rfl⟩ := hcut
    clear HL6 hc hcm
    go_wp2_with fail
    refine HNew.out.mono ?_
    rintro e w1 ⟨rb, rfl, hr, hb, hz⟩
    rw [HS.out] at hr hb
    have hres := (hb.block w.heap.size (by omega)).trans H0.out
    have hbw := HA.out.trans (hb.mono (by omega))
    have HW := Lib.hid (show R0 w.heap.size (w.heap.size + 1) rb l6 0 w w1 from ⟨hr, hres, hbw, Nat.le_refl _, Nat.lt_succ_self _, hr.1⟩)
    clear HNew H0 HS HA hr hb hz hres hbw
    go_wp2_with fail
    refine (rbyte_any _ rb l6 0 w1 HW.out.rd).mono ?_
    rintro e w2 ⟨rfl, hp⟩
    have h2 := HW.out.step hp
    clear HW hp
    have HW := Lib.hid h2
    clear h2
    have hlt : rdN 1 l6 < 256 := rdN_lt 1 l6
    have hu := u64_id (u64_lt hlt)
    have M5 := Lib.hid (fun w => marked_any (rdN 1 l6) 5 w (u64_lt hlt) (by omega))
    have M4 := Lib.hid (fun w => marked_any (rdN 1 l6) 4 w (u64_lt hlt) (by omega))
    have M7 := Lib.hid (fun w => marked_any (rdN 1 l6) 7 w (u64_lt hlt) (by omega))
    have F3 := Lib.hid (fun w => field_any (rdN 1 l6 : Nat) 0 3 w (u64_lt hlt))
    rw [show fieldN ((rdN 1 l6 : Nat) : Int).toNat 0 3 = rdN 1 l6 % 8 from by unfold fieldN; rw [if_pos (by decide), Int.toNat_natCast]; simp] at F3
    unfold readS at HQ
    have hw8 := wrap8 (show rdN 1 l6 % 8 < 256 by omega)
    have hle := readF_le (bitN (rdN 1 l6) 7) (bitN (rdN 1 l6) 5) (bitN (rdN 1 l6) 4) (rdN 1 l6 % 8) (rawR 1 l6) (rawE 1 l6 0)
    have hle2 := rawR_le 1 l6
    generalize bitN (rdN 1 l6) 7 = b7 at *
    generalize bitN (rdN 1 l6) 5 = lo at *
    generalize bitN (rdN 1 l6) 4 = st at *
    generalize rdN 1 l6 % 8 = pt at *
    generalize rdN 1 l6 = f at *
    generalize rawR 1 l6 = l1 at *
    generalize rawE 1 l6 0 = e1 at *
    go_wp2_with fail
    refine (M5.out _).mono ?_
    rintro e w3 ⟨rfl, j1, rfl⟩
    go_wp2_with fail
    refine (M4.out _).mono ?_
    rintro e w3 ⟨rfl, j2, rfl⟩
    go_wp2_with fail
    refine (F3.out _).mono ?_
    rintro e w3 ⟨rfl, j3, hj⟩
    have h3 := (HW.out.drewN (j1 + j2)).drewN j3
    rw [← hj] at h3
    have HW3 := Lib.hid (h3.desc (DD.none lo st pt))
    have hD : (Obj.cells (DD.none lo st pt).cs 23) = (.cells #[.bool lo, .bool st, .int .u8 (pt : Nat), .int .i64 (-1), .bool false, .int .i64 (-1), .int .i64 (-1), .bool false, .int .i64 (-1)] 23) := rfl
    rw [hD] at HW3
    clear HW hj h3 M5 M4 F3 hD
    go_wp2_with fail
    generalize w3.alloc (.cells #[.bool lo, .bool st, .int .u8 (pt : Nat), .int .i64 (-1), .bool false, .int .i64 (-1), .int .i64 (-1), .bool false, .int .i64 (-1)] 23) = w4 at *
    generalize w3.heap.size = db at *
    refine (M7.out _).mono ?_
    rintro e w5 ⟨rfl, j4, rfl⟩
    go_upto_if 27 with fail
    have h := HW3.out.fr0 (Fr.drewN w4 j4)
    generalize w4.drewN j4 = w5 at *
    have HW := Lib.hid h
    clear h HW3
    go_cut [] (fun wx => RW w.heap.size (w.heap.size + 1) rb db (readF b7 lo st pt l1 e1) w wx)
    case first =>
      cases b7
      · go_wp2_with fail
        go_meet
        case rel => exact HW.out
      · go_wp2_with fail
        refine (rw_nums HW.out).mono ?_
        rintro e w6 ⟨rfl, h⟩
        have H6 := Lib.hid h
        clear h
        go_wp2_with fail
        go_meet
        case rel => exact H6.out
    case rest =>
      clear HW
      generalize readF b7 lo st pt l1 e1 = s at *
      have HW := Lib.hid hcut
      have hE := rend_any _ rb s.l s.e wc hcut.rd
      clear hcut
      unfold shortS at HQ
      generalize endE s.l s.e = x at *
      have HE := Lib.hid hE
      clear hE
      go_wp2_with fail
      refine HE.out.mono ?_
      rintro e w7 ⟨rfl, rfl⟩
      cases hx : x == 3
      · rw [hx] at HQ
        have hw64 : IntKind.i64.wrap ((l6.length : Int) - s.l.length) = (l6.length - s.l.length : Nat) := by simp [IntKind.wrap, IntKind.bits, IntKind.signed]; omega
        go_upto_region 9 with fail
        have hlf := rleft_any _ rb s.l s.e w7.drew (HW.out.rd.fr0 (Fr.drew w7))
        simp only [Bool.false_eq_true, if_false, DD.val, DD.cs] at HQ
        generalize hn : l6.length - s.l.length = nn at *
        clear hn
        obtain ⟨sl, se, ⟨d0, d1, d2, d3, d4, d5, d6, d7, d8⟩⟩ := s
        simp only at hlf hw64 HQ
        generalize sl.length = ln at *
        have HLf := Lib.hid hlf
        obtain ⟨k0, k1, k2, k3, k4, k5, k6, k7, k8⟩ := nine_cells HW.out.d
        obtain ⟨m0, m1, m2, m3, m4, m5, m6, m7, m8⟩ := nine_cells HW.out.res
        obtain ⟨y0, y1, y2, y3, y4, y5, y6, y7, y8⟩ := nine_frozen HW.out.res
        simp only at k0 k1 k2 k3 k4 k5 k6 k7 k8
        have HR := Lib.hid HW.out.res
        have HB := Lib.hid (And.intro HW.out.below HW.out.o0)
        clear hlf HW HE hle hx
        go_region_with (go_at_call 23; refine HLf.out.mono ?_; rintro e w9 ⟨rfl, rfl⟩)
        all_goals (
          go_wp2_with fail
          generalize hW : World.setCell _ _ _ = wf
          first
            | (obtain ⟨hx, hfx⟩ := obj_set9 (w := w7) HR.out _ _ _ _ _ _ _ _ _ wf hW.symm; have hB := HB.out.1)
            | (obtain ⟨hx, hfx⟩ := obj_set9 (w := w7.drew) HR.out _ _ _ _ _ _ _ _ _ wf hW.symm; have hB := below_drewN HB.out.1 1)
          clear hW k0 k1 k2 k3 k4 k5 k6 k7 k8 m0 m1 m2 m3 m4 m5 m6 m7 m8 y0 y1 y2 y3 y4 y5 y6 y7 y8
          obtain ⟨k0, k1, k2, k3, k4, k5, k6, k7, k8⟩ := nine_cells hx
          refine bodyPost_ret (v := .tuple #[(.agg #[.bool d0, .bool d1, .int .u8 (d2 : Nat), .int .i64 d3, .bool d4, .int .i64 d5, .int .i64 d6, .bool d7, .int .i64 d8]), .int .i64 (nn : Nat), .int .i64 0]) (by simp [results, Try.results8, go_sem, k0, k1, k2, k3, k4, k5, k6, k7, k8]; try rfl) rfl ?_
          have hB2 := hB.trans (hfx.below hB.size (fun k (hk : k = w.heap.size) => by omega))
          first
            | exact HQ.out _ _ ⟨rfl, hB2⟩
            | exact HQ.out _ _ ⟨rfl, below_drewN hB2 1⟩)
      · rw [hx] at HQ
        simp only [if_true] at HQ
        rw [show DD.zero.val = (.agg #[.bool false, .bool false, .int .u8 0, .int .i64 0, .bool false, .int .i64 0, .int .i64 0, .bool false, .int .i64 0]) from rfl] at HQ
        obtain ⟨m0, m1, m2, m3, m4, m5, m6, m7, m8⟩ := nine_cells HW.out.res
        obtain ⟨y0, y1, y2, y3, y4, y5, y6, y7, y8⟩ := nine_frozen HW.out.res
        have HR := Lib.hid HW.out.res
        have HB := Lib.hid (And.intro HW.out.below HW.out.o0)
        clear HW HE hle
        go_wp2_with fail
        generalize hW : World.setCell _ _ _ = wf
        obtain ⟨hx, hfx⟩ := obj_set9 HR.out _ _ _ _ _ _ _ _ _ wf hW.symm
        clear hW m0 m1 m2 m3 m4 m5 m6 m7 m8 y0 y1 y2 y3 y4 y5 y6 y7 y8
        obtain ⟨k0, k1, k2, k3, k4, k5, k6, k7, k8⟩ := nine_cells hx
        refine bodyPost_ret (v := .tuple #[(.agg #[.bool false, .bool false, .int .u8 0, .int .i64 0, .bool false, .int .i64 0, .int .i64 0, .bool false, .int .i64 0]), .int .i64 0, .int .i64 3]) (by simp [results, Try.results8, go_sem, k0, k1, k2, k3, k4, k5, k6, k7, k8]; try rfl) rfl ?_
        exact HQ.out _ _ ⟨rfl, HB.out.1.trans (hfx.below HB.out.1.size (fun k (hk : k = w.heap.size) => by omega))⟩
end Go.Proofs.Ythomlikmjgeccaa
