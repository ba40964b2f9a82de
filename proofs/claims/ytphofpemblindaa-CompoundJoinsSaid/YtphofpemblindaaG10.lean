/- Laid together: BLay, CkW, CkJ, CmC, CmI, Back, CkSp, CmF. -/
import Derived.Test.YtphofpemblindaaG03
import Derived.Test.YtphofpemblindaaG01
import Derived.Test.YtphofpemblindaaG04
import Derived.Test.YtphofpemblindaaG07
import Derived.Test.YtphofpemblindaaG05
import Derived.Test.YtphofpemblindaaG09
import Derived.ScopeJumps
import Derived.WalkMore
/- The walk of bits.Lay. -/
namespace Go.Proofs.Ytphofpemblindaa
open Go.RowKit
theorem placeN_lt {a s : Int} (h : mayB a s = true) : placeN a s < 18446744073709551616 := by
  obtain ⟨h1, h2, h3, h4⟩ := may_iff.1 h
  unfold placeN
  have e : 2 ^ s.toNat * 2 ^ a.toNat = 2 ^ (s.toNat + a.toNat) := (Nat.pow_add _ _ _).symm
  have h5 := pow_le_64 (s := s.toNat + a.toNat) (by omega)
  have h6 := Nat.two_pow_pos a.toNat
  rw [Nat.sub_mul, e]
  omega
theorem lay_eq (n v : Nat) (a s : Int) (h : mayB a s = true) :
    bits .or .u64 (bits .andNot .u64 (n : Int) (IntKind.u64.wrap (((2 ^ s.toNat - 1 : Nat) : Int) * 2 ^ a.toNat)))
      (bits .and .u64 (IntKind.u64.wrap ((v : Int) * 2 ^ a.toNat)) (IntKind.u64.wrap (((2 ^ s.toNat - 1 : Nat) : Int) * 2 ^ a.toNat))) = (layN n a s v : Int) := by
  have hp := placeN_lt h
  have e1 : IntKind.u64.wrap (((2 ^ s.toNat - 1 : Nat) : Int) * 2 ^ a.toNat) = (placeN a s : Int) := by
    rw [wrap_u64, natpow_cast, ← Int.natCast_mul]
    show ((placeN a s : Nat) : Int) % _ = _
    omega
  have e2 : IntKind.u64.wrap ((v : Int) * 2 ^ a.toNat) = ((v * 2 ^ a.toNat % 18446744073709551616 : Nat) : Int) := by
    rw [wrap_u64, natpow_cast, ← Int.natCast_mul]; omega
  have h2 := Nat.mod_lt (v * 2 ^ a.toNat) (y := 18446744073709551616) (by decide)
  rw [e1, e2, u64_andNot_nat, u64_and_nat _ _ h2, u64_or_nat _ _ (andNotN_lt _ _) (Nat.lt_of_le_of_lt Nat.and_le_left h2), layN, if_pos h]

set_option maxHeartbeats 400000 in
theorem lay_any (n a s v : Int) (w : World) (hn : U64 n) (hv : U64 v) :
    Calls Try.prog 63 #[.int .u64 n, .int .i64 a, .int .i64 s, .int .u64 v] w fun e w' => e = .returned (.int .u64 (layN n.toNat a s v.toNat)) ∧ w' = w := by
  obtain ⟨n, rfl⟩ := Int.eq_ofNat_of_zero_le hn.lo
  obtain ⟨v, rfl⟩ := Int.eq_ofNat_of_zero_le hv.lo
  rw [Int.toNat_natCast, Int.toNat_natCast]
  refine calls_q fun Q HQ => ?_
  have hc := may_any a s w
  by_cases hb : mayB a s = true
  · have hb' := may_iff.1 hb
    rw [hb] at hc
    have H := Lib.hid hc
    have Hb := Lib.hid hb
    clear hc hb
    obtain ⟨a1, a2, s1, s2⟩ := hb'
    go_enter Try.func63, Try.ntmps63
    go_wp2_with (first
      | (go_at_call 67; refine H.out.mono ?_; rintro e w' ⟨rfl, rfl⟩)
      | (go_at_call 68; refine (ones_any _ _ (by omega) (by omega)).mono ?_; rintro e w' ⟨rfl, rfl⟩))
    refine HQ.out _ _ ⟨ret_int ?_, rfl⟩
    exact lay_eq n v a s Hb.out
  · have hb' : mayB a s = false := by simpa using hb
    rw [hb'] at hc
    have H := Lib.hid hc
    have Hb := Lib.hid hb
    clear hc hb hb'
    go_enter Try.func63, Try.ntmps63
    go_wp2_with (go_at_call 67; refine H.out.mono ?_; rintro e w' ⟨rfl, rfl⟩)
    refine HQ.out _ _ ⟨ret_int ?_, rfl⟩
    rw [layN, if_neg Hb.out]

end Go.Proofs.Ytphofpemblindaa
/- The walk of write: a chunk's bytes onto a writer. -/
namespace Go.Proofs.Ytphofpemblindaa
open Go.RowKit

theorem lay_count : ∀ n : Fin 32, layN n.1 6 2 2 = 128 + n.1 := by decide +kernel
theorem layc (n : Nat) (h : n ≤ 31) : layN n 6 2 2 = 128 + n := lay_count ⟨n, by omega⟩
set_option maxHeartbeats 1000000 in
theorem cwrite_any (B pb : Nat) (ob : Option Nat) (l : List UInt8) (n y : Nat) (A : Option Addr) (c : Nat) (b : List UInt8) (w : World) (hw : Wr B w pb ob l) (hb : BSx (fun k => k < B) w (.slice A b.length c) b)
    (hr : rightC (n, y, b) = true) (hy : y < 256) (hl : l.length ≤ 100000) :
    Calls Try.prog 43 #[.pointer (some ⟨pb, 0, none⟩), .agg #[.int .u8 (n : Nat), .int .u8 (y : Nat), .slice A b.length c]] w fun e w' => e = .returned (.tuple #[]) ∧ WPost B w pb ob (l ++ encC (n, y, b)) w' := by
  have hri := right_iffC.1 hr
  simp only at hri
  obtain ⟨r1, r2, r3⟩ := hri
  have hs := CW.new hw (cs := #[.int .u8 (n : Nat), .int .u8 (y : Nat), .slice A b.length c]) (t := 40)
  have HS := Lib.hid hs
  have HB := Lib.hid (fun ob' l' w' (h : CW B pb w.heap.size (.cells #[.int .u8 (n : Nat), .int .u8 (y : Nat), .slice A b.length c] 40 (0, 0)) ob w ob' l' w') => h.bs hw hb)
  have hlay := fun w => lay_any (n : Nat) 6 2 2 w ⟨by omega, by omega⟩ ⟨by omega, by omega⟩
  rw [Int.toNat_natCast, show (2 : Int).toNat = 2 from rfl, layc n r1] at hlay
  have HLay := Lib.hid hlay
  have hu := u64_id (n := (n : Int)) ⟨by omega, by omega⟩
  have hw8 : IntKind.u8.wrap ((128 + n : Nat) : Int) = ((128 + n : Nat) : Int) := by rw [wrap_u8]; omega
  obtain ⟨x, hx⟩ : ∃ x : Nat, x = 128 + n := ⟨_, rfl⟩
  obtain ⟨u, hu4⟩ : ∃ u : Nat, u = b.length / 4 := ⟨_, rfl⟩
  have hu2 : u ≤ 49 := by omega
  have hq : (b.length : Int) / 4 = (u : Nat) := by omega
  have hx9 : x < 256 := by omega
  rw [← hx] at hw8 HLay
  have HE := Lib.hid (show l ++ encC (n, y, b) = l ++ bytesI x 1 ++ bytesI y 1 ++ bytesI u 2 ++ b by rw [encC, headC, hx, hu4]; simp)
  clear hw hb hr hs hlay hx hu4 r1
  refine calls_q fun Q HQ => ?_
  go_enter Try.func43, Try.ntmps43
  go_wp2_with fail
  refine (HLay.out _).mono ?_
  rintro e w1 ⟨rfl, rfl⟩
  go_wp2_with fail
  generalize w.alloc (.cells #[.int .u8 (n : Nat), .int .u8 (y : Nat), .slice A b.length c] 40) = wa at *
  generalize w.heap.size = bx at *
  refine (wbyte_any B pb ob l x wa HS.out.wr ⟨by omega, by omega⟩ (by omega)).mono ?_
  rintro e w2 ⟨rfl, hp⟩
  rw [Int.toNat_natCast] at hp
  obtain ⟨o2, h2⟩ := HS.out.step hp
  have k0 := obj_cell h2.box 1
  simp only [List.getElem?_toArray, List.getElem?_cons_succ, List.getElem?_cons_zero] at k0
  have H2 := Lib.hid h2
  clear HS hp h2
  go_wp2_with fail
  refine (wbyte_any B pb o2 _ y w2 H2.out.wr ⟨by omega, by omega⟩ (by rw [List.length_append, bytesI1]; simp; omega)).mono ?_
  rintro e w3 ⟨rfl, hp⟩
  rw [Int.toNat_natCast] at hp
  obtain ⟨o3, h3⟩ := H2.out.step hp
  have k2 := obj_cell h3.box 2
  simp only [List.getElem?_toArray, List.getElem?_cons_succ, List.getElem?_cons_zero] at k2
  have H3 := Lib.hid h3
  clear H2 hp h3 k0
  go_wp2_with fail
  refine (wshort_any B pb o3 _ u w3 H3.out.wr ⟨by omega, by omega⟩ (by rw [List.length_append, List.length_append, bytesI1, bytesI1]; simp; omega)).mono ?_
  rintro e w4 ⟨rfl, hp⟩
  rw [Int.toNat_natCast] at hp
  obtain ⟨o4, h4⟩ := H3.out.step hp
  have k3 := obj_cell h4.box 2
  simp only [List.getElem?_toArray, List.getElem?_cons_succ, List.getElem?_cons_zero] at k3
  have H4 := Lib.hid h4
  clear H3 hp h4 k2
  go_wp2_with fail
  refine (wraw_any B pb o4 _ _ b w4 H4.out.wr (HB.out _ _ _ H4.out) (by rw [List.length_append, List.length_append, List.length_append, bytesI1, bytesI1, bytesI2]; simp; omega)).mono ?_
  rintro e w5 ⟨rfl, hp⟩
  obtain ⟨o5, h5⟩ := H4.out.step hp
  have H5 := Lib.hid h5
  clear H4 hp h5 k3
  go_wp2_with fail
  go_end0
  refine HQ.out _ _ ⟨rfl, ?_⟩
  rw [HE.out]
  exact H5.out.post
end Go.Proofs.Ytphofpemblindaa
/- The walk of chunk.Join. -/
namespace Go.Proofs.Ytphofpemblindaa
open Go.RowKit

/-- what Join answers -/
def JoPost (w : World) (l : List DC) (e : Ending) (w' : World) : Prop := ∃ u, e = .returned (.tuple #[u, .int .i64 (joE l)]) ∧ BS w' u (joB l) ∧ Below w.heap.size w w'
set_option maxHeartbeats 1600000 in
theorem cjoin_any (v : Value) (ts : List Ck) (w : World) (h : CkS w v ts) (hm : ts.length ≤ 1000) (hm2 : ∀ t ∈ ts, t.b.length ≤ 1000) :
    Calls Try.prog 26 #[v] w (JoPost w (ds ts)) := by
  have HT := Lib.hid h
  have HM := Lib.hid hm2
  obtain ⟨A, c, rfl, hc, hcm, hA⟩ := h.parts
  have HA := Lib.hid hA
  clear h hA hm2
  refine calls_q fun Q HQ => ?_
  unfold JoPost at HQ
  go_enter Try.func26, Try.ntmps26
  go_wp2_with fail
  go_loopw [4, 12] (fun s i wr => ∃ j : Nat, j ≤ ts.length ∧ i = .int .i64 j ∧ s = .int .i64 ((encs (ds (ts.take j))).length : Nat) ∧ Below w.heap.size w wr ∧ (ds (ts.take j)).all rightC = true) (fun _ i _ => ts.length - (intOf i).toNat)
  case atStart => exact ⟨0, Nat.zero_le _, rfl, rfl, Below.refl _ _, rfl⟩
  case round =>
    obtain ⟨j, hj, rfl, rfl, hb, hall⟩ := hrel
    have HB := Lib.hid hb
    have HL := Lib.hid hall
    clear hb
    by_cases hlt : j < ts.length
    · obtain ⟨b, o, rfl, hbl⟩ := HA.out (by omega)
      obtain ⟨c0, c1, c2⟩ := (HT.out.below HB.out).at j hlt
      have hbs := ((HT.out.2 _ (List.getElem_mem hlt)).b).below HB.out
      have hb1000 := HM.out _ (List.getElem_mem hlt)
      have hbl2 := Nat.lt_of_lt_of_le hbl HB.out.size
      have hle := encs_le _ hall
      rw [ds_len] at hle
      simp only [List.length_take, Nat.min_eq_left hj] at hle
      have hst := encs_step ts j hlt
      have hst2 := congrArg List.length hst
      rw [List.length_append, encC_len] at hst2
      have HAs := Lib.hid (all_step ts j hlt hall)
      have HAn := Lib.hid (all_not ts j hlt)
      have hd : ts[j].d = (ts[j].n, ts[j].y, ts[j].b) := rfl
      rw [hd] at HAs HAn hst2
      clear hst hd hall
      generalize (encs (ds (List.take j ts))).length = sz at *
      have HS2 := Lib.hid hst2
      clear hst2
      generalize (ts[j]'hlt).n = n at *
      generalize (ts[j]'hlt).y = y at *
      generalize (ts[j]'hlt).v = vv at *
      generalize (ts[j]'hlt).b = bb at *
      obtain ⟨A2, cc, rfl, _, hcm2, _⟩ := bs_parts hbs
      clear hbs
      have h0 : (0 : Int) ≤ (j : Int) := by omega
      have h1 : (j : Int) < (ts.length : Int) := by omega
      have hX := heap_alloc_new wr (.cells #[.int .u8 (n : Nat), .int .u8 (y : Nat), .slice A2 bb.length cc] 40)
      have HX := Lib.hid hX
      clear hX
      go_wp2_with fail
      refine (cright_any n y A2 cc bb _ (by omega)).mono ?_
      rintro r w2 ⟨rfl, hb⟩
      have hX2 := (Fr.of hb).heap HX.out (fun h => h)
      have m0 := obj_cell hX2 0
      have m1 := obj_cell hX2 1
      have m2 := obj_cell hX2 2
      simp only [List.getElem?_toArray, List.getElem?_cons_succ, List.getElem?_cons_zero] at m0 m1 m2
      have hb2 := (HB.out.alloc HB.out.size (.cells #[.int .u8 (n : Nat), .int .u8 (y : Nat), .slice A2 bb.length cc] 40)).trans (hb.mono (by have := HB.out.size; simp; omega))
      have HB2 := Lib.hid hb2
      clear hb hb2 hX2
      by_cases hr : rightC (n, y, bb) = true
      · rw [hr]
        have hr2 := right_iffC.1 hr
        simp only at hr2
        have HY := Lib.hid (HAs.out hr)
        clear hr
        go_wp2_with fail
        refine (csize_any n y A2 cc bb _ (by omega)).mono ?_
        rintro r w3 ⟨rfl, hb⟩
        have HB3 := Lib.hid (HB2.out.trans (hb.mono HB2.out.size))
        clear hb
        go_wp2_with fail
        go_roundw
        case rel => exact ⟨j + 1, by omega, by go_num, by have := HS2.out; go_num, HB3.out, HY.out⟩
        case measure => simp [intOf]; omega
      · have hr' : rightC (n, y, bb) = false := by simpa using hr
        rw [hr']
        have HY := Lib.hid (HAn.out hr')
        clear hr hr'
        obtain ⟨q1, q2⟩ := jo_not HY.out
        go_wp2_with fail
        exact HQ.out _ _ ⟨.slice none 0 0, by rw [q1]; rfl, by rw [q2]; exact BS.nil _, HB2.out⟩
    · have : j = ts.length := by omega
      subst this
      rw [List.take_length] at HL ⊢
      have hle := encs_le _ HL.out
      rw [ds_len] at hle
      by_cases h200 : 200 < (encs (ds ts)).length
      · obtain ⟨q1, q2⟩ := jo_long HL.out h200
        have HQ1 := Lib.hid q1
        have HQ2 := Lib.hid q2
        clear q1 q2
        generalize (encs (ds ts)).length = sz at *
        go_wp2_with fail
        exact HQ.out _ _ ⟨.slice none 0 0, by rw [HQ1.out]; rfl, by rw [HQ2.out]; exact BS.nil _, HB.out⟩
      · obtain ⟨q1, q2⟩ := jo_ok HL.out (by omega)
        have HQ1 := Lib.hid q1
        have HQ2 := Lib.hid q2
        have HLe := Lib.hid (show (encs (ds ts)).length ≤ 200 by omega)
        clear q1 q2
        have hg : (encs (ds ts)).length ≤ 200 := by omega
        generalize (encs (ds ts)).length = sz at hg h200 hle ⊢
        go_wp2_with fail
        have HW0 := Lib.hid (wr_new wr)
        have HBw := Lib.hid (HB.out.alloc HB.out.size (.cells #[.slice none 0 0] 105))
        have HSz := Lib.hid HB.out.size
        clear HB
        generalize wr.alloc (.cells #[.slice none 0 0] 105) = wb at *
        generalize wr.heap.size = pb at *
        go_loopw [28] (fun i wr' => ∃ (j : Nat) (ob : Option Nat), j ≤ ts.length ∧ i = .int .i64 j ∧ Below w.heap.size w wr' ∧ Wr pb wr' pb ob (encs (ds (ts.take j)))) (fun i _ => ts.length - (intOf i).toNat)
        case atStart => exact ⟨0, none, Nat.zero_le _, rfl, HBw.out, HW0.out⟩
        case round =>
          obtain ⟨j, ob, hj, rfl, hb, ho⟩ := hrel
          have HB3 := Lib.hid hb
          have HO3 := Lib.hid ho
          clear hb ho
          by_cases hlt : j < ts.length
          · obtain ⟨b, o, rfl, hbl⟩ := HA.out (by omega)
            obtain ⟨c0, c1, c2⟩ := (HT.out.below HB3.out).at j hlt
            have hbs := ((HT.out.2 _ (List.getElem_mem hlt)).b).below HB3.out
            have hbx0 := (((HT.out.2 _ (List.getElem_mem hlt)).b).x.mono (G' := fun k => k < pb) (fun k hk _ => by have := HSz.out; omega)).fr (Fr.of HB3.out) (fun _ _ _ h => h)
            have hyl := (HT.out.2 _ (List.getElem_mem hlt)).y
            have hbl2 := Nat.lt_of_lt_of_le hbl HB3.out.size
            have hst := encs_step ts j hlt
            have hri := List.all_eq_true.1 HL.out ts[j].d (List.mem_map.2 ⟨_, List.getElem_mem hlt, rfl⟩)
            have hd : ts[j].d = (ts[j].n, ts[j].y, ts[j].b) := rfl
            rw [hd] at hst hri
            have hle3 := Nat.le_trans (encs_take ts j) HLe.out
            have HST := Lib.hid hst
            have HRi := Lib.hid hri
            clear hst hri hd
            generalize (encs (ds (ts.take j))) = E at *
            generalize (ts[j]'hlt).n = n at *
            generalize (ts[j]'hlt).y = y at *
            generalize (ts[j]'hlt).v = vv at *
            generalize (ts[j]'hlt).b = bb at *
            obtain ⟨A2, cc, rfl, _, hcm2, hrow⟩ := bs_parts hbs
            have HBx := Lib.hid (hbx0.fr (Fr.alloc wr (.cells #[.int .u8 (n : Nat), .int .u8 (y : Nat), .slice A2 bb.length cc] 40)) (fun _ _ _ h => h))
            have HO4 := Lib.hid (HO3.out.fr0 (Fr.alloc wr (.cells #[.int .u8 (n : Nat), .int .u8 (y : Nat), .slice A2 bb.length cc] 40)))
            have HB4 := Lib.hid (HB3.out.alloc HB3.out.size (.cells #[.int .u8 (n : Nat), .int .u8 (y : Nat), .slice A2 bb.length cc] 40))
            clear hbs hrow hbx0
            have h0 : (0 : Int) ≤ (j : Int) := by omega
            have h1 : (j : Int) < (ts.length : Int) := by omega
            go_wp2_with fail
            refine (cwrite_any pb pb ob E n y A2 cc bb _ HO4.out HBx.out HRi.out hyl (by omega)).mono ?_
            rintro r w3 ⟨rfl, hp⟩
            obtain ⟨ob', hw', hf', _⟩ := hp
            have hb5 := HB4.out.trans (hf'.below HB4.out.size (fun k hk => by have := (HO4.out.lt k hk).1; have := HSz.out; omega))
            rw [← HST.out] at hw'
            have HW5 := Lib.hid hw'
            have HB5 := Lib.hid hb5
            clear hw' hb5 hf'
            go_wp2_with fail
            go_roundw
            case rel => exact ⟨j + 1, ob', by omega, by go_num, HB5.out, HW5.out⟩
            case measure => simp [intOf]; omega
          · have : j = ts.length := by omega
            subst this
            rw [List.take_length] at HO3
            go_wp2_with fail
            refine (wbytes_any pb pb ob _ wr HO3.out (by have := HLe.out; omega)).mono ?_
            rintro r w3 ⟨u, rfl, hu, hb⟩
            have hbs := own_bs hu
            rw [← HQ2.out] at hbs
            have HU := Lib.hid hbs
            have HB5 := Lib.hid (HB3.out.trans (hb.mono HB3.out.size))
            clear hu hb hbs
            go_wp2_with fail
            exact HQ.out _ _ ⟨u, by rw [HQ1.out]; rfl, HU.out, HB5.out⟩
end Go.Proofs.Ytphofpemblindaa
/- The walks of chunksOf and Write. -/
namespace Go.Proofs.Ytphofpemblindaa
open Go.RowKit

/-- chunks that are told one behind the other -/
structure ChS (w0 : World) (sv : Value) (cks : List Ck) (w : World) : Prop where
  own : w.ownsRow w0.heap.size 40 3 sv cks.length (cellsC cks)
  dat : ∀ c ∈ cks, c.n < 256 ∧ c.y < 256 ∧ BSx (fun k => some k ≠ sv.ownBlock) w c.v c.b
  below : Below w0.heap.size w0 w
section
variable {w0 w w' : World} {sv sv' : Value} {cks : List Ck} {c : Ck}
theorem ChS.after (h : ChS w0 sv cks w) (hb : Below w.heap.size w w') : ChS w0 sv cks w' :=
  ⟨(Fr.of hb).own h.own (fun _ _ h => h), fun c hc => ⟨(h.dat c hc).1, (h.dat c hc).2.1, (h.dat c hc).2.2.fr (Fr.of hb) (fun _ _ _ h => h)⟩, h.below.trans (hb.mono h.below.size)⟩
theorem bsx_step {v : Value} {l : List UInt8} (h : BSx (fun k => some k ≠ sv.ownBlock) w v l) (hg : w.grownBy w' sv.ownBlock) (hk : sv'.ownBlock = sv.ownBlock ∨ sv'.ownBlock = some w.heap.size) : BSx (fun k => some k ≠ sv'.ownBlock) w' v l := by
  have h1 : BSx (fun k => some k ≠ sv.ownBlock ∧ some k ≠ sv'.ownBlock) w v l := h.mono fun k hlt hne => ⟨hne, by
    rcases hk with hk | hk
    · rw [hk]; exact hne
    · rw [hk]; simp only [ne_eq, Option.some.injEq]; omega⟩
  exact (h1.fr (Fr.grown hg) (fun k _ h2 h3 => h2.1 h3)).mono fun k _ h2 => h2.2
theorem ChS.app (h : ChS w0 sv cks w) (hn : c.n < 256) (hy : c.y < 256) (hb : BSx (fun k => some k ≠ sv.ownBlock) w c.v c.b) (ho : w'.ownsRow w0.heap.size 40 3 sv' (cks.length + 1) (cellsC cks ++ c.row)) (hg : w.grownBy w' sv.ownBlock)
    (hk : sv'.ownBlock = sv.ownBlock ∨ sv'.ownBlock = some w.heap.size) : ChS w0 sv' (cks ++ [c]) w' := by
  refine ⟨?_, fun d hd => ?_, h.below.trans ((Fr.grown hg).below h.below.size (fun k hx => (h.own.lt k hx.symm).1))⟩
  · rw [← cellsC_snoc, List.length_append]; exact ho
  · rcases List.mem_append.1 hd with hd | hd
    · exact ⟨(h.dat d hd).1, (h.dat d hd).2.1, bsx_step (h.dat d hd).2.2 hg hk⟩
    · rw [List.mem_singleton.1 hd]; exact ⟨hn, hy, bsx_step hb hg hk⟩
theorem ChS.isC (h : ChS w0 sv cks w) : CkS w sv cks := own_chunks rfl h.own fun c hc => ⟨(h.dat c hc).1, (h.dat c hc).2.1, (h.dat c hc).2.2.1⟩
end
theorem ChS.start (w : World) : ChS w (.slice none 0 0) [] w := ⟨World.ownsRow_nil _ _ _ _, fun _ h => absurd h (by simp), Below.refl _ _⟩
/-- what chunksOf answers -/
def CSPost (w : World) (l : List DI) (e : Ending) (w' : World) : Prop :=
  ∃ u cks, e = .returned (.tuple #[u, .int .i64 (if l.all rightI then 0 else 1)]) ∧ CkS w' u cks ∧ Below w.heap.size w w' ∧ ds cks = (if l.all rightI then l.map chunkI else [])
theorem dis_step (ts : List It) (j : Nat) (h : j < ts.length) : dis (ts.take (j + 1)) = dis (ts.take j) ++ [ts[j].d] := by
  rw [List.take_succ_eq_append_getElem h, dis, dis, List.map_append]; rfl
theorem dis_all (ts : List It) (j : Nat) (h : j < ts.length) (ha : (dis (ts.take j)).all rightI = true) (hr : rightI ts[j].d = true) : (dis (ts.take (j + 1))).all rightI = true := by
  rw [dis_step ts j h, List.all_append, ha]; simp [hr]
theorem dis_not (ts : List It) (j : Nat) (h : j < ts.length) (hr : rightI ts[j].d = false) : (dis ts).all rightI = false := by
  rw [List.all_eq_false]
  exact ⟨ts[j].d, List.mem_map.2 ⟨_, List.getElem_mem h, rfl⟩, by simp [hr]⟩
theorem wrCI_lt {x : DI} (ho : x.Ok) : (wrCI x).1 < 256 ∧ (wrCI x).2.1 < 256 := by
  unfold wrCI
  split
  · next h => have := back_i h ho; exact ⟨this.2.1, this.2.2.1⟩
  · exact ⟨by decide, by decide⟩
theorem chunkof_r {t : It} {w : World} (B : Nat) (h : t.Ok w) (hl : t.c.2.2.length ≤ 1000) (hB : B ≤ w.heap.size) (hg : OB (fun k => k < B) t.ca t.c.2.2.length) :
    Calls Try.prog 40 #[.agg #[.int .i64 t.k, .bool t.r.sd, .int .u32 (t.r.so : Nat), .int .u32 (t.r.i0 : Nat), .int .u32 (t.r.i1 : Nat), .int .u32 (t.r.i2 : Nat), .int .u32 (t.r.i3 : Nat), .int .u32 (t.r.i4 : Nat), (.slice t.ra t.r.bl.length t.rc), .int .i64 t.m.k, .int .u32 (t.m.se : Nat), .int .u32 (t.m.me : Nat), (.slice t.aa t.m.ak.length t.ac), (.slice t.la t.m.lo.length t.lc), .int .u8 (t.c.1 : Nat), .int .u8 (t.c.2.1 : Nat), (.slice t.ca t.c.2.2.length t.cc)]] w (COPost B w t.d) := chunkof_any B t w h hl hB hg
set_option maxRecDepth 20000 in
set_option maxHeartbeats 2000000 in
theorem chunksof_any (v : Value) (ts : List It) (w : World) (h : ItS w v ts) (hm : ts.length ≤ 1000) (hm2 : ∀ t ∈ ts, t.c.2.2.length ≤ 1000) :
    Calls Try.prog 25 #[v] w (CSPost w (dis ts)) := by
  have HT := Lib.hid h
  have HM := Lib.hid hm2
  obtain ⟨A, c, rfl, hc, hcm, hA⟩ := h.parts
  have HA := Lib.hid hA
  clear h hA hm2
  refine calls_q fun Q HQ => ?_
  unfold CSPost at HQ
  go_enter Try.func25, Try.ntmps25
  go_wp2_with fail
  go_loopw [4, 11] (fun s i wr => ∃ (j : Nat) (cks : List Ck), j ≤ ts.length ∧ i = .int .i64 j ∧ ChS w s cks wr ∧ cks.length = j ∧ ds cks = (dis (ts.take j)).map chunkI ∧ (dis (ts.take j)).all rightI = true) (fun _ i _ => ts.length - (intOf i).toNat)
  case atStart => exact ⟨0, [], Nat.zero_le _, rfl, ChS.start w, rfl, rfl, rfl⟩
  case round =>
    obtain ⟨j, cks, hj, rfl, hs, hjl, hds, hall⟩ := hrel
    obtain ⟨A5, c5, rfl⟩ := own_slice hs.own
    rw [hjl] at hs ⊢
    have HS := Lib.hid hs
    have HD := Lib.hid hds
    have HL := Lib.hid hall
    have HJ := Lib.hid hjl
    clear hs hds hall hjl
    by_cases hlt : j < ts.length
    · obtain ⟨b, o, rfl, hbl⟩ := HA.out (by omega)
      have HRg := Lib.hid ((HT.out.below HS.out.below).range j hlt)
      have hok := (HT.out.2 _ (List.getElem_mem hlt))
      have HG := Lib.hid hok.g.c
      have HOk := Lib.hid (hok.below HS.out.below)
      have HMt := Lib.hid (HM.out _ (List.getElem_mem hlt))
      have hbl2 := Nat.lt_of_lt_of_le hbl HS.out.below.size
      have HDs := Lib.hid (dis_step ts j hlt)
      have HAs := Lib.hid (dis_all ts j hlt HL.out)
      have HAn := Lib.hid (dis_not ts j hlt)
      have h0 : (0 : Int) ≤ (j : Int) := by omega
      have h1 : (j : Int) < (ts.length : Int) := by omega
      clear hok
      generalize (ts[j]'hlt) = t at *
      have HS2 := Lib.hid (HS.out.after (below_alloc (.cells #[.int .i64 t.k, .bool t.r.sd, .int .u32 (t.r.so : Nat), .int .u32 (t.r.i0 : Nat), .int .u32 (t.r.i1 : Nat), .int .u32 (t.r.i2 : Nat), .int .u32 (t.r.i3 : Nat), .int .u32 (t.r.i4 : Nat), (.slice t.ra t.r.bl.length t.rc), .int .i64 t.m.k, .int .u32 (t.m.se : Nat), .int .u32 (t.m.me : Nat), (.slice t.aa t.m.ak.length t.ac), (.slice t.la t.m.lo.length t.lc), .int .u8 (t.c.1 : Nat), .int .u8 (t.c.2.1 : Nat), (.slice t.ca t.c.2.2.length t.cc)] 42)))
      have HOk2 := Lib.hid (HOk.out.below (below_alloc (.cells #[.int .i64 t.k, .bool t.r.sd, .int .u32 (t.r.so : Nat), .int .u32 (t.r.i0 : Nat), .int .u32 (t.r.i1 : Nat), .int .u32 (t.r.i2 : Nat), .int .u32 (t.r.i3 : Nat), .int .u32 (t.r.i4 : Nat), (.slice t.ra t.r.bl.length t.rc), .int .i64 t.m.k, .int .u32 (t.m.se : Nat), .int .u32 (t.m.me : Nat), (.slice t.aa t.m.ak.length t.ac), (.slice t.la t.m.lo.length t.lc), .int .u8 (t.c.1 : Nat), .int .u8 (t.c.2.1 : Nat), (.slice t.ca t.c.2.2.length t.cc)] 42)))
      have HX := Lib.hid (box_range (t := t) (heap_alloc_new wr (.cells #[.int .i64 t.k, .bool t.r.sd, .int .u32 (t.r.so : Nat), .int .u32 (t.r.i0 : Nat), .int .u32 (t.r.i1 : Nat), .int .u32 (t.r.i2 : Nat), .int .u32 (t.r.i3 : Nat), .int .u32 (t.r.i4 : Nat), (.slice t.ra t.r.bl.length t.rc), .int .i64 t.m.k, .int .u32 (t.m.se : Nat), .int .u32 (t.m.me : Nat), (.slice t.aa t.m.ak.length t.ac), (.slice t.la t.m.lo.length t.lc), .int .u8 (t.c.1 : Nat), .int .u8 (t.c.2.1 : Nat), (.slice t.ca t.c.2.2.length t.cc)] 42)))
      go_wp2_with (first
        | (with_reducible refine wpl_load_item ?_ HRg.out ?_
           focus exact ⟨rfl, _, rfl, rfl⟩)
        | (with_reducible refine wpl_new_item (t := t) ?_ ?_ ?_
           focus exact ⟨rfl, _, _, rfl, rfl, rfl⟩
           focus rfl
           generalize wr.alloc (.cells #[.int .i64 t.k, .bool t.r.sd, .int .u32 (t.r.so : Nat), .int .u32 (t.r.i0 : Nat), .int .u32 (t.r.i1 : Nat), .int .u32 (t.r.i2 : Nat), .int .u32 (t.r.i3 : Nat), .int .u32 (t.r.i4 : Nat), (.slice t.ra t.r.bl.length t.rc), .int .i64 t.m.k, .int .u32 (t.m.se : Nat), .int .u32 (t.m.me : Nat), (.slice t.aa t.m.ak.length t.ac), (.slice t.la t.m.lo.length t.lc), .int .u8 (t.c.1 : Nat), .int .u8 (t.c.2.1 : Nat), (.slice t.ca t.c.2.2.length t.cc)] 42) = w1 at *)
        | (with_reducible refine wpl_load_item ?_ HX.out ?_
           focus exact ⟨rfl, _, rfl, rfl⟩))
      refine (chunkof_r w.heap.size HOk2.out HMt.out HS2.out.below.size HG.out).mono ?_
      rintro e w2 ⟨Au, cu, rfl, hu, hob, hb⟩
      have hlt2 := wrCI_lt HOk.out.ok
      have HS3 := Lib.hid (HS2.out.after hb)
      by_cases hr : rightI t.d = true
      · have HAl := Lib.hid (HAs.out hr)
        obtain ⟨hd1, hd2⟩ : wrCI t.d = chunkI t.d ∧ wrEI t.d = 0 := by rw [wrCI, wrEI, if_pos hr, if_pos hr]; exact ⟨rfl, rfl⟩
        rw [hd1] at hu hob hlt2 ⊢
        rw [hd2]
        clear hr hd1 hd2 HAs HAn
        have hsz2 := HS2.out.below.size
        have hbx : BSx (fun k => some k ≠ (Value.slice A5 j c5).ownBlock) w2 (.slice Au (chunkI t.d).2.2.length cu) (chunkI t.d).2.2 := ⟨hu, fun hp k hk hx => by
          rw [ownB] at hk
          obtain ⟨a, ha, rfl⟩ := Option.map_eq_some_iff.1 hk
          have h2 := HS2.out.own.lt _ hx.symm
          rcases hob hp a ha with h3 | h3 <;> omega⟩
        generalize hdd : chunkI t.d = d at *
        have HCd := Lib.hid hdd
        clear hdd
        obtain ⟨dn, dy, db⟩ := d
        simp only at *
        have HBx := Lib.hid hbx
        have HLt := Lib.hid hlt2
        have hx3 := heap_alloc_new w2 (oChk dn dy (.slice Au db.length cu))
        have HX3 := Lib.hid hx3
        have HS4 := Lib.hid (HS3.out.after (below_alloc (oChk dn dy (.slice Au db.length cu))))
        have HBx4 := Lib.hid (hbx.fr (Fr.of (below_alloc (oChk dn dy (.slice Au db.length cu)))) (fun _ _ _ h => h))
        clear hu hob hlt2 hsz2 hbx hx3 hb HS2 HS3 HX HOk HOk2 HRg HBx
        go_upto_region 6 with fail
        rw [show w2.alloc (.cells #[.int .u8 (dn : Nat), .int .u8 (dy : Nat), .slice Au db.length cu] 40) = w2.alloc (oChk dn dy (.slice Au db.length cu)) from rfl]
        generalize w2.alloc (oChk dn dy (.slice Au db.length cu)) = w3 at *
        generalize w2.heap.size = bc at *
        obtain ⟨m0, m1, m2, _, _, _⟩ := cells3m HX3.out
        have HOw := Lib.hid (show w3.ownsRow w.heap.size 40 3 (.slice A5 j c5) j (cellsC cks) by have := HS4.out.own; rw [HJ.out] at this; exact this)
        have HSz := Lib.hid HS4.out.below.size
        go_wp2_with (at_builtin; refine wpl_appk rfl _ _ 59 rfl w.heap.size 40 (.agg #[.int .u8 0, .int .u8 0, .slice none 0 0]) 3 32 Try.underlying59 (by kernel_rfl) rfl (by decide) _ j (cellsC cks) rfl ?c1 _ 1 1 [.int .u8 (dn : Nat), .int .u8 (dy : Nat), .slice Au db.length cu] rfl rfl ?c2 ?c3 ?c4 ?c5 ?c6 ?c7)
        case c1 => exact (Fr.alloc _ _).own HOw.out (fun _ _ h => h)
        case c2 => exact new_cells w3 [.int .u8 (dn : Nat), .int .u8 (dy : Nat), .slice Au db.length cu] 40
        case c3 => intro u hu; simp at hu; rcases hu with rfl | rfl | rfl <;> rfl
        case c4 => unfold maxLen; omega
        case c5 => omega
        case c6 => rw [World.size_alloc]; have := HSz.out; omega
        case c7 =>
          intro u' w4 ho hg hk
          obtain ⟨A6, c6, rfl⟩ := own_slice ho
          have hs5 := (HS4.out.after (below_alloc _)).app (c := ⟨dn, dy, .slice Au db.length cu, db⟩) HLt.out.1 HLt.out.2 (HBx4.out.fr (Fr.of (below_alloc _)) (fun _ _ _ h => h)) (by rw [HJ.out]; exact ho) hg (by rw [World.size_alloc]; exact hk)
          have HS5 := Lib.hid hs5
          have HDn := Lib.hid (show ds (cks ++ [⟨dn, dy, .slice Au db.length cu, db⟩]) = (dis (ts.take (j + 1))).map chunkI by
            rw [HDs.out, List.map_append, ← HD.out, ds, ds, List.map_append, List.map_cons (f := chunkI), HCd.out]; rfl)
          clear ho hg hk hs5
          go_wp2_with fail
          go_roundw
          case rel => exact ⟨j + 1, cks ++ [⟨dn, dy, .slice Au db.length cu, db⟩], by omega, by go_num, HS5.out, by rw [List.length_append, HJ.out]; rfl, HDn.out, HAl.out⟩
          case measure => simp [intOf]; omega
      · have hr' : rightI t.d = false := by simpa using hr
        have HN := Lib.hid (HAn.out hr')
        rw [(wrI_0 hr').1, (wrI_0 hr').2]
        have HB3 := Lib.hid (HS3.out.below.trans ((below_alloc (oChk 0 0 (.slice Au 0 cu))).mono HS3.out.below.size))
        rw [HN.out] at HQ
        clear hr hr' HAs hu hob hlt2 hb HS2 HS3 HX HOk HOk2 HRg
        go_wp2_with fail
        exact HQ.out _ _ ⟨.slice none 0 0, [], rfl, ⟨⟨none, 0, rfl, Nat.le_refl _, Nat.zero_le _, fun h => absurd h (by simp)⟩, fun _ h => absurd h (by simp)⟩, HB3.out, rfl⟩
    · have : j = ts.length := by omega
      subst this
      rw [List.take_length] at HD HL
      go_wp2_with fail
      rw [if_pos HL.out, if_pos HL.out] at HQ
      have hcs := HS.out.isC
      exact HQ.out _ _ ⟨_, cks, rfl, hcs, HS.out.below, HD.out⟩
/-- what Write answers -/
def WrPost (w : World) (l : List DI) (e : Ending) (w' : World) : Prop :=
  ∃ u, e = .returned (.tuple #[u, .int .i64 (wrEL l)]) ∧ BS w' u (wrBL l) ∧ Below w.heap.size w w'
set_option maxHeartbeats 1000000 in
theorem cmwrite_any (v : Value) (ts : List It) (w : World) (h : ItS w v ts) (hm : ts.length ≤ 1000) (hm2 : ∀ t ∈ ts, t.c.2.2.length ≤ 1000) :
    Calls Try.prog 9 #[v] w (WrPost w (dis ts)) := by
  have HC := Lib.hid (chunksof_any v ts w h hm hm2)
  have HO := Lib.hid h.okd
  have HLn := Lib.hid (show (dis ts).length ≤ 1000 by rw [dis_len]; exact hm)
  obtain ⟨A, c, rfl, _⟩ := h.parts
  clear h hm2
  refine calls_q fun Q HQ => ?_
  unfold WrPost at HQ
  generalize dis ts = l at *
  generalize ts.length = n at *
  go_enter Try.func9, Try.ntmps9
  go_wp2_with fail
  refine HC.out.mono ?_
  rintro e w1 ⟨u, cks, rfl, hck, hb, hds⟩
  by_cases hr : l.all rightI = true
  · rw [if_pos hr] at hds ⊢
    have h1 : wrEL l = joE (ds cks) ∧ wrBL l = joB (ds cks) := by rw [wrEL, wrBL, if_pos hr, if_pos hr, hds]; exact ⟨rfl, rfl⟩
    rw [h1.1, h1.2] at HQ
    have hall := (map_back hr HO.out).1
    have HJ := Lib.hid (cjoin_any u cks w1 hck (by have := ds_len cks; rw [hds, List.length_map] at this; have := HLn.out; omega) (fun t ht => by
      have h2 := List.all_eq_true.1 hall t.d (by rw [← hds]; exact List.mem_map.2 ⟨t, ht, rfl⟩)
      have h3 := (right_iffC.1 h2).2.2
      have h4 : t.d.2.2 = t.b := rfl
      rw [h4] at h3
      omega))
    have HB := Lib.hid hb
    obtain ⟨A1, c1, rfl, _⟩ := hck.parts
    generalize cks.length = k at *
    clear hck hb hr h1 hall hds HC HO HLn
    go_wp2_with fail
    refine HJ.out.mono ?_
    rintro e w2 ⟨u2, rfl, hu2, hb2⟩
    obtain ⟨A2, c2, rfl, _⟩ := bs_parts hu2
    have HU := Lib.hid hu2
    have HB2 := Lib.hid (HB.out.trans (hb2.mono HB.out.size))
    clear hu2 hb2
    generalize joE (ds cks) = z at *
    generalize (joB (ds cks)).length = m at *
    go_wp2_with fail
    exact HQ.out _ _ ⟨_, rfl, HU.out, HB2.out⟩
  · rw [if_neg hr] at hds ⊢
    have h1 : wrEL l = 1 ∧ wrBL l = [] := by rw [wrEL, wrBL, if_neg hr, if_neg hr]; exact ⟨rfl, rfl⟩
    rw [h1.1, h1.2] at HQ
    have HB := Lib.hid hb
    obtain ⟨A1, c1, rfl, _⟩ := hck.parts
    generalize cks.length = k at *
    clear hck hb hr h1 hds HC HO HLn
    go_wp2_with fail
    exact HQ.out _ _ ⟨.slice none 0 0, rfl, BS.nil _, HB.out⟩
end Go.Proofs.Ytphofpemblindaa
/- The walk of itemOf. -/
namespace Go.Proofs.Ytphofpemblindaa
open Go.RowKit

/-- what itemOf answers -/
def IOPost (B0 : Nat) (w : World) (d : DC) (e : Ending) (w' : World) : Prop :=
  ∃ t : It, e = .returned (.tuple #[.agg t.row.toArray, .int .i64 (errC d)]) ∧ t.d = itemC d ∧ t.Ok w' ∧ ItG (fun k => k < B0 ∨ w.heap.size ≤ k) t ∧ Below w.heap.size w w'
abbrev zeroI : Obj := .cells #[.int .i64 0, .bool false, .int .u32 0, .int .u32 0, .int .u32 0, .int .u32 0, .int .u32 0, .int .u32 0, .slice none 0 0, .int .i64 0, .int .u32 0, .int .u32 0, .slice none 0 0, .slice none 0 0, .int .u8 0, .int .u8 0, .slice none 0 0] 42 (0, 0)
/-- a chunk in its box, and the result's cells -/
structure IoS (w0 : World) (bx rx : Nat) (n y : Nat) (A : Option Addr) (c : Nat) (B : List UInt8) (w : World) : Prop where
  x : w.heap[bx]? = some (oChk n y (.slice A B.length c))
  res : w.heap[rx]? = some zeroI
  v : BS w (.slice A B.length c) B
  below : Below w0.heap.size w0 w
  o0 : w0.heap.size ≤ bx
  o1 : bx < rx
theorem IoS.after {w0 w w' : World} {bx rx n y : Nat} {A : Option Addr} {c : Nat} {B : List UInt8} (h : IoS w0 bx rx n y A c B w) (hb : Below w.heap.size w w') : IoS w0 bx rx n y A c B w' :=
  ⟨(Fr.of hb).heap h.x (fun h => h), (Fr.of hb).heap h.res (fun h => h), h.v.below hb, h.below.trans (hb.mono h.below.size), h.o0, h.o1⟩
theorem asS_nil (w : World) : AsS w (.slice none 0 0) [] := AsS.nil w
def it1 (r : DR) (A : Option Addr) (c : Nat) : It := ⟨1, r, A, c, DM.zero, none, 0, none, 0, cZero, none, 0⟩
def it2 (m : DM) (A : Option Addr) (c : Nat) (A2 : Option Addr) (c2 : Nat) : It := ⟨2, DR.zero, none, 0, m, A, c, A2, c2, cZero, none, 0⟩
def it3 (d : DC) (A : Option Addr) (c : Nat) : It := ⟨3, DR.zero, none, 0, DM.zero, none, 0, none, 0, d, A, c⟩
theorem it1_ok {w : World} {r : DR} {A : Option Addr} {c : Nat} (h : BlS w (.slice A r.bl.length c) r.bl) (ho : r.Ok) : (it1 r A c).Ok w :=
  ⟨h, AsS.nil w, LoS.nil w, BS.nil w, ⟨ho, dmZero_ok, Nat.zero_lt_succ _, Nat.zero_lt_succ _⟩⟩
theorem it2_ok {w : World} {m : DM} {A : Option Addr} {c : Nat} {A2 : Option Addr} {c2 : Nat} (h : AsS w (.slice A m.ak.length c) m.ak) (h2 : LoS w (.slice A2 m.lo.length c2) m.lo) (ho : m.Ok) : (it2 m A c A2 c2).Ok w :=
  ⟨BlS.nil w, h, h2, BS.nil w, ⟨drZero_ok, ho, Nat.zero_lt_succ _, Nat.zero_lt_succ _⟩⟩
theorem it3_ok {w : World} {d : DC} {A : Option Addr} {c : Nat} (h : BS w (.slice A d.2.2.length c) d.2.2) (hn : d.1 < 256) (hy : d.2.1 < 256) : (it3 d A c).Ok w :=
  ⟨BlS.nil w, AsS.nil w, LoS.nil w, h, ⟨drZero_ok, dmZero_ok, hn, hy⟩⟩
theorem it1_g {G : Nat → Prop} {r : DR} {A : Option Addr} {c : Nat} (h : OB G A r.bl.length) : ItG G (it1 r A c) := ⟨h, OB.nil _ _, OB.nil _ _, OB.nil _ _⟩
theorem it2_g {G : Nat → Prop} {m : DM} {A : Option Addr} {c : Nat} {A2 : Option Addr} {c2 : Nat} (h : OB G A m.ak.length) (h2 : OB G A2 m.lo.length) : ItG G (it2 m A c A2 c2) := ⟨OB.nil _ _, h, h2, OB.nil _ _⟩
theorem it3_g {G : Nat → Prop} {d : DC} {A : Option Addr} {c : Nat} (h : OB G A d.2.2.length) : ItG G (it3 d A c) := ⟨OB.nil _ _, OB.nil _ _, OB.nil _ _, h⟩
theorem io_1 {d : DC} (h : rdErr d ≠ 5) : itemC d = ⟨1, readR d, DM.zero, cZero⟩ ∧ errC d = rdErr d := by simp [itemC, errC, h]
theorem io_2 {d : DC} (h : rdErr d = 5) (h2 : rdEM d ≠ 5) : itemC d = ⟨2, DR.zero, readM d, cZero⟩ ∧ errC d = rdEM d := by simp [itemC, errC, h, h2]
theorem io_3 {d : DC} (h : rdErr d = 5) (h2 : rdEM d = 5) : itemC d = ⟨3, DR.zero, DM.zero, d⟩ ∧ errC d = 0 := by simp [itemC, errC, h, h2]
theorem io_ret {tmps : Array Value} {rx : Nat} {t : It} {z : Int} {w : World} (h2 : tmps.getD 2 undef = .pointer (some ⟨rx, 0, none⟩)) (h3 : tmps.getD 3 undef = .int .i64 z)
    (hh : w.heap[rx]? = some (.cells t.row.toArray 42 (0, 0))) : (results Try.f17 tmps).run Try.prog w = .ok (.tuple #[.agg t.row.toArray, .int .i64 z]) w := by
  have hld := run_loadVar_mid w rx 0 42 t.row _ (box_range hh) Try.underlying42 rfl item_size
  simp only [Array.getD_eq_getD_getElem?] at h2 h3
  simp [results, Try.results17, asAddr, h2, h3, hld]
set_option maxRecDepth 20000 in
set_option maxHeartbeats 2000000 in
theorem itemof_any (B0 n y : Nat) (A : Option Addr) (c : Nat) (B : List UInt8) (w : World) (hv : BS w (.slice A B.length c) B) (hn : n < 256) (hy : y < 256) (hl : B.length ≤ 1000) (hB : B0 ≤ w.heap.size) (hg : OB (fun k => k < B0) A B.length) :
    Calls Try.prog 17 #[.agg #[.int .u8 (n : Nat), .int .u8 (y : Nat), .slice A B.length c]] w (IOPost B0 w (n, y, B)) := by
  have hb1 := below_alloc (w := w) (oChk n y (.slice A B.length c))
  have hb2 := hb1.alloc hb1.size zeroI
  have hx2 := heap_alloc_new (w.alloc (oChk n y (.slice A B.length c))) zeroI
  rw [World.size_alloc] at hx2
  have HS := Lib.hid (show IoS w w.heap.size (w.heap.size + 1) n y A c B ((w.alloc (oChk n y (.slice A B.length c))).alloc zeroI) from
    ⟨(Fr.alloc _ zeroI).heap (heap_alloc_new w _) (fun h => h), hx2, hv.below hb2, hb2, Nat.le_refl _, Nat.lt_succ_self _⟩)
  have HG := Lib.hid hg
  have HB := Lib.hid hB
  clear hv hg hb1 hb2 hx2 hB
  refine calls_q fun Q HQ => ?_
  unfold IOPost at HQ
  go_enter Try.func17, Try.ntmps17
  go_upto_region 1 with fail
  rw [show (w.alloc (.cells #[.int .u8 (n : Nat), .int .u8 (y : Nat), .slice A B.length c] 40)).alloc (.cells #[.int .i64 0, .bool false, .int .u32 0, .int .u32 0, .int .u32 0, .int .u32 0, .int .u32 0, .int .u32 0, .slice none 0 0, .int .i64 0, .int .u32 0, .int .u32 0, .slice none 0 0, .slice none 0 0, .int .u8 0, .int .u8 0, .slice none 0 0] 42) = (w.alloc (oChk n y (.slice A B.length c))).alloc zeroI from rfl]
  generalize (w.alloc (oChk n y (.slice A B.length c))).alloc zeroI = w1 at *
  generalize hrx : w.heap.size + 1 = rx at *
  generalize hbx : w.heap.size = bx at *
  obtain ⟨k0, k1, k2, _, _, _⟩ := cells3m HS.out.x
  go_wp2_with fail
  refine (rpread_i n y _ B w1 HS.out.v hn hy hl).mono ?_
  rintro e w2 ⟨u, rfl, hu, hb, hnv⟩
  unfold rval
  obtain ⟨Au, cu, rfl, _⟩ := hu.parts
  have hsz := obj_lt HS.out.res
  have HOr := Lib.hid (OB.of_new (n := (readR (n, y, B)).bl.length) hnv)
  have HSz := Lib.hid hsz
  have hb2 := hb.alloc hb.size (objX (readR (n, y, B)) (.slice Au (readR (n, y, B)).bl.length cu))
  have HS2 := Lib.hid (HS.out.after hb2)
  have HU := Lib.hid (hu.below (below_alloc (objX (readR (n, y, B)) (.slice Au (readR (n, y, B)).bl.length cu))))
  have HX2 := Lib.hid (heap_alloc_new w2 (objX (readR (n, y, B)) (.slice Au (readR (n, y, B)).bl.length cu)))
  have HRo := Lib.hid (readR_ok (n, y, B))
  have HI1 := Lib.hid (io_1 (d := (n, y, B)))
  have HI2 := Lib.hid (io_2 (d := (n, y, B)))
  have HI3 := Lib.hid (io_3 (d := (n, y, B)))
  clear hu hb hnv hb2 hsz HS k0 k1 k2
  generalize readR (n, y, B) = r at *
  generalize rdErr (n, y, B) = e1 at *
  go_upto_region 2 with fail
  rw [show w2.alloc (.cells #[.bool r.sd, .int .u32 (r.so : Nat), .int .u32 (r.i0 : Nat), .int .u32 (r.i1 : Nat), .int .u32 (r.i2 : Nat), .int .u32 (r.i3 : Nat), .int .u32 (r.i4 : Nat), .slice Au r.bl.length cu] 34) = w2.alloc (objX r (.slice Au r.bl.length cu)) from rfl]
  generalize w2.alloc (objX r (.slice Au r.bl.length cu)) = w3 at *
  generalize w2.heap.size = br at *
  by_cases h1 : e1 = 5
  · subst h1
    have HJ2 := Lib.hid (HI2.out rfl)
    have HJ3 := Lib.hid (HI3.out rfl)
    obtain ⟨k0, k1, k2, _, _, _⟩ := cells3m HS2.out.x
    clear HI1 HI2 HI3 HU HX2 HOr HRo
    go_wp2_with fail
    refine (fread_i n y _ B w3 HS2.out.v hl).mono ?_
    rintro e w4 ⟨va, vl, rfl, hva, hvl, hb, hna, hnl⟩
    obtain ⟨Aa, ca, rfl, _⟩ := hva.parts
    obtain ⟨Al, cl, rfl, _⟩ := hvl.parts
    have hsz := obj_lt HS2.out.res
    have HOa := Lib.hid (OB.of_new (n := (readM (n, y, B)).ak.length) hna)
    have HOl := Lib.hid (OB.of_new (n := (readM (n, y, B)).lo.length) hnl)
    have HSz := Lib.hid hsz
    have HMo := Lib.hid (readM_ok (n, y, B))
    clear hna hnl hsz k0 k1 k2
    generalize readM (n, y, B) = m at *
    generalize rdEM (n, y, B) = e2 at *
    have hb2 := hb.alloc hb.size (oMsg m.k m.se m.me (.slice Aa m.ak.length ca) (.slice Al m.lo.length cl))
    have HS3 := Lib.hid (HS2.out.after hb2)
    have HUa := Lib.hid (hva.below (below_alloc (oMsg m.k m.se m.me (.slice Aa m.ak.length ca) (.slice Al m.lo.length cl))))
    have HUl := Lib.hid (hvl.below (below_alloc (oMsg m.k m.se m.me (.slice Aa m.ak.length ca) (.slice Al m.lo.length cl))))
    have HX3 := Lib.hid (heap_alloc_new w4 (oMsg m.k m.se m.me (.slice Aa m.ak.length ca) (.slice Al m.lo.length cl)))
    clear hb hb2 hva hvl HS2
    go_upto_region 5 with fail
    rw [show w4.alloc (.cells #[.int .i64 m.k, .int .u32 (m.se : Nat), .int .u32 (m.me : Nat), .slice Aa m.ak.length ca, .slice Al m.lo.length cl] 38) = w4.alloc (oMsg m.k m.se m.me (.slice Aa m.ak.length ca) (.slice Al m.lo.length cl)) from rfl]
    generalize w4.alloc (oMsg m.k m.se m.me (.slice Aa m.ak.length ca) (.slice Al m.lo.length cl)) = w5 at *
    generalize w4.heap.size = bm at *
    by_cases h2 : e2 = 5
    · subst h2
      obtain ⟨hI, hE⟩ := HJ3.out rfl
      rw [hI, hE] at HQ
      obtain ⟨k0, k1, k2, _, _, _⟩ := cells3m HS3.out.x
      clear hI hE HJ2 HJ3
      go_wp2_with (
          (with_reducible refine wpl_set_item (t := it3 (n, y, B) A c) ?_ ?_ HS3.out.res ?_)
          focus exact ⟨rfl, _, _, rfl, rfl, rfl⟩
          focus rfl
          intro w6 hx6 hf6)
      have o0 := HS3.out.o0
      have o1 := HS3.out.o1
      have hBb := HB.out
      have hbel := HS3.out.below.trans (hf6.below HS3.out.below.size (fun k (hk : k = rx) => by omega))
      rw [hbx] at hbel
      refine bodyPost_ret (io_ret rfl rfl hx6) rfl (HQ.out _ _ ⟨it3 (n, y, B) A c, rfl, rfl, ?_, ?_, hbel⟩)
      · refine it3_ok (d := (n, y, B)) (BS.frG (G := fun k => k < B0) hf6 (fun k _ hk (hx : k = rx) => by omega) HS3.out.v HG.out) hn hy
      · exact (it3_g (d := (n, y, B)) HG.out).mono fun k hk => Or.inl hk
    · have hi : (e2 != 5) = true := by simp [h2]
      obtain ⟨hI, hE⟩ := HJ2.out h2
      rw [hI, hE] at HQ
      obtain ⟨k0, k1, k2, k3, k4⟩ := cells5m HX3.out
      clear hI hE HJ2 HJ3 h2
      go_wp2_with (
          (with_reducible refine wpl_set_item (t := it2 m Aa ca Al cl) ?_ ?_ HS3.out.res ?_)
          focus exact ⟨rfl, _, _, rfl, rfl, rfl⟩
          focus rfl
          intro w6 hx6 hf6)
      have o0 := HS3.out.o0
      have o1 := HS3.out.o1
      have hs := HSz.out
      have hbel := HS3.out.below.trans (hf6.below HS3.out.below.size (fun k (hk : k = rx) => by omega))
      rw [hbx] at hbel o0
      refine bodyPost_ret (io_ret rfl rfl hx6) rfl (HQ.out _ _ ⟨it2 m Aa ca Al cl, rfl, rfl, ?_, ?_, hbel⟩)
      · refine it2_ok (RowsV.frG (G := fun k => w3.heap.size ≤ k) hf6 (fun k _ hk (hx : k = rx) => by omega) HUa.out (by simpa using HOa.out)) (SV.frG (G := fun k => w3.heap.size ≤ k) hf6 (fun k _ hk (hx : k = rx) => by omega) HUl.out (by simpa [ints] using HOl.out)) HMo.out
      · exact (it2_g HOa.out HOl.out).mono fun k hk => Or.inr (by omega)
  · have hi : (e1 != 5) = true := by simp [h1]
    obtain ⟨hI, hE⟩ := HI1.out h1
    rw [hI, hE] at HQ
    obtain ⟨k0, k1, k2, k3, k4, k5, k6, k7⟩ := cells8 HX2.out
    clear hI hE HI1 HI2 HI3 h1
    go_wp2_with (
        (with_reducible refine wpl_set_item (t := it1 r Au cu) ?_ ?_ HS2.out.res ?_)
        focus exact ⟨rfl, _, _, rfl, rfl, rfl⟩
        focus rfl
        intro w4 hx4 hf4)
    have o0 := HS2.out.o0
    have o1 := HS2.out.o1
    have hs := HSz.out
    have hbel := HS2.out.below.trans (hf4.below HS2.out.below.size (fun k (hk : k = rx) => by omega))
    rw [hbx] at hbel o0
    refine bodyPost_ret (io_ret rfl rfl hx4) rfl (HQ.out _ _ ⟨it1 r Au cu, rfl, rfl, ?_, ?_, hbel⟩)
    · refine it1_ok ⟨RowsV.frG (G := fun k => w1.heap.size ≤ k) hf4 (fun k _ hk (hx : k = rx) => by omega) HU.out.1 (by simpa using HOr.out), HU.out.2⟩ HRo.out
    · exact (it1_g HOr.out).mono fun k hk => Or.inr (by omega)
end Go.Proofs.Ytphofpemblindaa
/- A scope whose run jumps back to one label: what holds at the label, the code behind it walked once. -/
namespace Go.Proofs.Ytphofpemblindaa
/-- where the code behind the label begins by nothing (as a label's own statement is laid) -/
theorem wp_scope_back {P : Program} {a : Act} {w : World} {Q : Exit → Act → World → Prop} {c rest : Code} (l : Nat) (J : Act → World → Prop) (μ : Act → World → Nat) (hf : findLabel c l = some (Code.skip.seq rest))
    (pass : ∀ (K : Act → World → Prop) a w, J a w → (∀ a' w', J a' w' → μ a' w' < μ a w → K a' w') → rest.wp P (Exit.jump l K Q) a w)
    (first : (∀ (K : Act → World → Prop) a w, J a w → (∀ a' w', J a' w' → K a' w') → rest.wp P (Exit.jump l K Q) a w) → c.wp P (Exit.jump l J Q) a w) : (Code.scope c).wp P Q a w :=
  wp_scope_jumps l J μ hf (first fun K a w hJ hK => pass K a w hJ fun a' w' h _ => hK a' w' h) (fun a w hJ => wp_seq (wp_skip (show rest.wp P _ a w from pass _ a w hJ fun _ _ h hm => ⟨h, hm⟩)))
end Go.Proofs.Ytphofpemblindaa
/- The walk of chunk.Split. -/
namespace Go.Proofs.Ytphofpemblindaa
open Go.RowKit

/-- what Split answers -/
def SpPost (w : World) (b : List UInt8) (r : Ending) (w' : World) : Prop :=
  ∃ u z ts, r = .returned (.tuple #[u, .int .i64 z]) ∧ CkS w' u ts ∧ Below w.heap.size w w' ∧ SpR b z (ds ts)
/-- .. where it goes wrong no chunk is told -/
def SpPostX (w : World) (b : List UInt8) (r : Ending) (w' : World) : Prop :=
  ∃ u z ts, r = .returned (.tuple #[u, .int .i64 z]) ∧ CkS w' u ts ∧ Below w.heap.size w w' ∧ SpR b z (ds ts) ∧ (z ≠ 0 → ts = [])
theorem cks_nil (w : World) : CkS w (.slice none 0 0) [] := ⟨⟨none, 0, rfl, Nat.le_refl _, Nat.zero_le _, fun h => absurd h (by simp)⟩, fun _ h => absurd h (by simp)⟩
/-- what holds at the label -/
def SpJ (w0 : World) (rb : Nat) (b : List UInt8) (v0 : Value) (a' : Act) (w' : World) : Prop :=
  ∃ (u : Value) (L : List UInt8) (ts : List Ck) (t1 t6 t7 t8 t9 t10 t11 t12 t13 t14 t15 t16 t17 t18 t19 t20 t21 t22 t23 t24 t25 : Value),
    a' = { tmps := #[v0, t1, .slice none 0 0, .int .i64 0, .pointer (some ⟨rb, 0, none⟩), u, t6, t7, t8, t9, t10, t11, t12, t13, t14, t15, t16, t17, t18, t19, t20, t21, t22, t23, t24, t25], defers := [] } ∧ SpS w0 rb b L u ts w'
theorem encs_ge (l : List DC) : l.length ≤ (encs l).length := by
  induction l with
  | nil => exact Nat.le_refl _
  | cons d l ih => rw [encs_cons, List.length_append, encC_len, List.length_cons]; omega
set_option maxHeartbeats 2000000 in
theorem csplit_x (v : Value) (b : List UInt8) (w : World) (hv : BS w v b) :
    Calls Try.prog 16 #[v] w (SpPostX w b) := by
  have hvr := hv
  obtain ⟨A, c, rfl, hc, hcm, _⟩ := bs_parts hv
  have HV := Lib.hid hvr
  clear hv hvr
  refine calls_q fun Q HQ => ?_
  by_cases h200 : (200 : Int) < (b.length : Int)
  · have HL := Lib.hid (SpR.long (b := b) (by omega))
    go_enter Try.func16, Try.ntmps16
    go_wp2_with fail
    go_step3
    go_wp2_with fail
    exact HQ.out _ _ ⟨.slice none 0 0, 4, [], rfl, cks_nil _, Below.refl _ _, HL.out, fun _ => rfl⟩
  · have hb200 : b.length ≤ 200 := by omega
    have HNew := Lib.hid (new_any _ b w HV.out (by omega))
    go_enter Try.func16, Try.ntmps16
    go_wp2_with fail
    refine wp_scope_back 0 (fun a' w' => ∃ rb, SpJ w rb b (.slice A b.length c) a' w') (fun a' w' => leftOf (a'.tmps.getD 4 undef) w') rfl ?_ ?_
    · rintro K a' w' ⟨rb, u, L, ts, t1, t6, t7, t8, t9, t10, t11, t12, t13, t14, t15, t16, t17, t18, t19, t20, t21, t22, t23, t24, t25, rfl, hs⟩ HK
      have HKh := Lib.hid HK
      have HSp := Lib.hid hs
      obtain ⟨Au, cu, rfl⟩ := own_slice hs.own
      clear HK hs HNew
      go_wp2_with fail
      refine (cread_any w.heap.size rb L w' HSp.out.rd).mono ?_
      rintro e w1 ⟨v, rfl, hv, hp⟩
      have hA := fun o w3 u' ho hg => HSp.out.app (w3 := w3) (u' := u') hp hv o ho hg
      obtain ⟨A2, c2, rfl, _, _, _⟩ := bs_parts hv.1
      have HApp := Lib.hid hA
      have HOw := Lib.hid (hp.2.own HSp.out.own (fun k hk (hx : k = rb) => by have := (HSp.out.own.lt k hk).1; omega))
      have HI := Lib.hid HSp.out.inv
      have HLf := Lib.hid HSp.out.rd.leftOf
      have hrb1 : rb + 1 ≤ w1.heap.size := by have := hp.1.lt; omega
      have hcnt : ts.length ≤ 200 := by
        have h1 := HSp.out.inv.len
        have h2 := encs_ge (ds ts)
        rw [ds_len] at h2
        omega
      clear hA hv hp HSp
      go_wp2_with (at_builtin; refine wpl_appk rfl _ _ 59 rfl (rb + 1) 40 (.agg #[.int .u8 0, .int .u8 0, .slice none 0 0]) 3 32 Try.underlying59 (by kernel_rfl) rfl (by decide) _ ts.length (cellsC ts) rfl ?c1 _ 1 1 [.int .u8 (fstN L % 32 : Nat), .int .u8 (typN L : Nat), .slice A2 (rdB L).length c2] rfl rfl ?c2 ?c3 ?c4 ?c5 ?c6 ?c7)
      case c1 => exact (Fr.alloc _ _).own HOw.out (fun _ _ h => h)
      case c2 => exact new_cells w1 [.int .u8 (fstN L % 32 : Nat), .int .u8 (typN L : Nat), .slice A2 (rdB L).length c2] 40
      case c3 => intro u hu; simp at hu; rcases hu with rfl | rfl | rfl <;> rfl
      case c4 => unfold maxLen; omega
      case c5 => omega
      case c6 => rw [World.size_alloc]; omega
      case c7 =>
        intro u' w3 ho hg _
        obtain ⟨A3, c3, rfl⟩ := own_slice ho
        have HT := Lib.hid (HApp.out _ _ _ ho hg)
        clear ho hg HOw HApp
        go_wp2_with fail
        refine (rleft_any _ rb _ _ w3 HT.out.rd).mono ?_
        rintro e w4 ⟨rfl, rfl⟩
        by_cases hn : rdL L = []
        · have hz : (rdL L).length = 0 := by rw [hn]; rfl
          rw [hz]
          have hend := rend_any _ rb _ _ w4 HT.out.rd
          rw [show endE (rdL L) (rdE L) = rdE L by rw [endE, if_pos hn]] at hend
          have HEnd := Lib.hid hend
          have HN := Lib.hid hn
          clear hz hend hn HKh HLf
          by_cases he : rdE L = 0
          · have HD := Lib.hid (HI.out.done hb200 he HN.out)
            rw [he] at HEnd
            clear he
            go_wp2_with fail
            refine HEnd.out.mono ?_
            rintro e w5 ⟨rfl, rfl⟩
            go_wp2_with fail
            refine HQ.out _ _ ⟨_, 0, _, rfl, HT.out.items, HT.out.below, ?_, fun h => absurd rfl h⟩
            rw [ds_app]
            exact HD.out
          · have HD := Lib.hid (HI.out.bad he)
            have HB := Lib.hid HT.out.below
            clear HT HI
            generalize rdE L = z at *
            have hz : (z != 0) = true := by simp [he]
            go_wp2_with fail
            refine HEnd.out.mono ?_
            rintro e w5 ⟨rfl, rfl⟩
            go_wp2_with fail
            exact HQ.out _ _ ⟨.slice none 0 0, z, [], rfl, cks_nil _, HB.out, HD.out, fun _ => rfl⟩
        · have HN := Lib.hid hn
          have hpos : (0 : Int) < ((rdL L).length : Int) := by
            have : (rdL L).length ≠ 0 := fun h => hn (List.eq_nil_of_length_eq_zero h)
            omega
          have HX := Lib.hid (HT.out.next HI.out hb200 hn)
          have hne : L ≠ [] := by rintro rfl; exact hn (rd_short [] (by decide)).2
          have HM := Lib.hid (show leftOf (.pointer (some ⟨rb, 0, none⟩)) w4 < leftOf (.pointer (some ⟨rb, 0, none⟩)) w' by rw [HT.out.rd.leftOf, HLf.out]; exact rdL_lt L hne)
          clear hn hne HI HLf HT
          generalize (rdL L).length = m at hpos ⊢
          go_wp2_with fail
          go_step3
          refine ⟨rfl, HKh.out _ _ ⟨rb, _, rdL L, _, _, _, _, _, _, _, _, _, _, _, _, _, _, _, _, _, _, _, _, _, _, rfl, HX.out⟩ ?_⟩
          exact HM.out
    · intro h
      have H := Lib.hid h
      clear h
      go_wp2_with fail
      refine HNew.out.mono ?_
      rintro e w1 ⟨rb, rfl, hr, hb, hsz⟩
      have HS := Lib.hid (show SpS w rb b b (.slice none 0 0) [] w1 from ⟨hr, World.ownsRow_nil _ _ _ _, fun _ h => absurd h (by simp), hb, SpI.start b⟩)
      clear hr hb hsz HNew
      go_wp2_with fail
      go_step3
      rename_i K hK
      refine hK _ _ ?_
      exact H.out _ _ _ ⟨rb, _, b, [], _, _, _, _, _, _, _, _, _, _, _, _, _, _, _, _, _, _, _, _, _, rfl, HS.out⟩ (fun _ _ h => h)
theorem csplit_any (v : Value) (b : List UInt8) (w : World) (hv : BS w v b) :
    Calls Try.prog 16 #[v] w (SpPost w b) :=
  (csplit_x v b w hv).mono fun _ _ ⟨u, z, ts, he, hc, hb, hs, _⟩ => ⟨u, z, ts, he, hc, hb, hs⟩
end Go.Proofs.Ytphofpemblindaa
/- The walk of first; what Read holds while it goes on. -/
namespace Go.Proofs.Ytphofpemblindaa
open Go.RowKit

/-- a slice of errors -/
def ErS (w : World) (v : Value) (es : List Int) : Prop := SV w v (ints .i64 es)
theorem ErS.parts {w : World} {v : Value} {es : List Int} (h : ErS w v es) : ∃ A c, v = .slice A es.length c ∧ es.length ≤ c ∧ c ≤ 9223372036854775807 ∧
    (0 < es.length → ∃ b o, A = some ⟨b, o, none⟩ ∧ b < w.heap.size ∧ ∀ j (h : j < es.length), w.cell? ⟨b, o + j, none⟩ = some (.int .i64 es[j])) := by
  obtain ⟨A, c, rfl, h1, h2, h3⟩ := h
  rw [ints_len] at h1 ⊢
  refine ⟨A, c, rfl, h1, by unfold maxLen at h2; omega, fun hp => ?_⟩
  obtain ⟨b, o, rfl, hb, hc⟩ := h3 (by rw [ints_len]; exact hp)
  refine ⟨b, o, rfl, hb, fun j hj => ?_⟩
  rw [hc j (by rw [ints_len]; exact hj)]
  simp [ints]
theorem firstE_step (es : List Int) (j : Nat) (h : j < es.length) : firstE (es.drop j) = if es[j] = 0 then firstE (es.drop (j + 1)) else es[j] := by
  rw [List.drop_eq_getElem_cons h, firstE]
set_option maxHeartbeats 1000000 in
theorem first_any (v : Value) (es : List Int) (w : World) (h : ErS w v es) :
    Calls Try.prog 18 #[v] w fun e w' => e = .returned (.int .i64 (firstE es)) ∧ Below w.heap.size w w' := by
  obtain ⟨A, c, rfl, h1, h2, h3⟩ := h.parts
  have HA := Lib.hid h3
  clear h h3
  refine calls_q fun Q HQ => ?_
  go_enter Try.func18, Try.ntmps18
  go_wp2_with fail
  go_loopw [7] (fun i wr => ∃ j : Nat, j ≤ es.length ∧ i = .int .i64 j ∧ firstE es = firstE (es.drop j) ∧ Below w.heap.size w wr) (fun i _ => es.length - (intOf i).toNat)
  case atStart => exact ⟨0, Nat.zero_le _, rfl, rfl, Below.refl _ _⟩
  case round =>
    obtain ⟨j, hj, rfl, hf, hb⟩ := hrel
    have HB := Lib.hid hb
    have HF := Lib.hid hf
    clear hb hf
    by_cases hlt : j < es.length
    · obtain ⟨b, o, rfl, hbl, hc⟩ := HA.out (by omega)
      have c0 := ((HB.out.cell (p := ⟨b, o + j, none⟩) hbl).trans (hc j hlt))
      have hst := firstE_step es j hlt
      have hbl2 := Nat.lt_of_lt_of_le hbl HB.out.size
      have h0 : (0 : Int) ≤ (j : Int) := by omega
      have h1 : (j : Int) < (es.length : Int) := by omega
      clear hc
      generalize es[j] = x at *
      have HSt := Lib.hid hst
      clear hst
      by_cases hx : x = 0
      · subst hx
        have HN := Lib.hid (HF.out.trans (by rw [HSt.out, if_pos rfl]))
        go_wp2_with fail
        go_roundw
        case rel => exact ⟨j + 1, by omega, by go_num, HN.out, HB.out⟩
        case measure => simp [intOf]; omega
      · have hi : (x != 0) = true := by simp [hx]
        have HN := Lib.hid (HF.out.trans (by rw [HSt.out, if_neg hx]))
        clear hx
        go_wp2_with fail
        exact HQ.out _ _ ⟨ret_int HN.out.symm, HB.out⟩
    · have : j = es.length := by omega
      subst this
      have HN := Lib.hid (HF.out.trans (by rw [List.drop_length, firstE]))
      go_wp2_with fail
      exact HQ.out _ _ ⟨ret_int HN.out.symm, HB.out⟩
/-- items and errors that are told one behind the other -/
structure ReS (w1 : World) (lv ev : Value) (its : List It) (es : List Int) (w : World) : Prop where
  l : w.ownsRow w1.heap.size 42 17 lv its.length (cellsI its)
  e : w.ownsRow w1.heap.size 26 1 ev es.length (ints .i64 es)
  ne : ∀ k, ev.ownBlock = some k → lv.ownBlock ≠ some k
  dat : ∀ t ∈ its, t.Ok w ∧ ItG (fun k => some k ≠ lv.ownBlock ∧ some k ≠ ev.ownBlock) t
  below : Below w1.heap.size w1 w
theorem ItG.and {G G' : Nat → Prop} {t : It} (h : ItG G t) (h' : ItG G' t) : ItG (fun k => G k ∧ G' k) t :=
  ⟨fun hp a ha => ⟨h.r hp a ha, h'.r hp a ha⟩, fun hp a ha => ⟨h.a hp a ha, h'.a hp a ha⟩, fun hp a ha => ⟨h.l hp a ha, h'.l hp a ha⟩, fun hp a ha => ⟨h.c hp a ha, h'.c hp a ha⟩⟩
section
variable {w1 w w' : World} {lv ev lv' ev' : Value} {its : List It} {es : List Int}
theorem ReS.after (h : ReS w1 lv ev its es w) (hb : Below w.heap.size w w') : ReS w1 lv ev its es w' :=
  ⟨(Fr.of hb).own h.l (fun _ _ h => h), (Fr.of hb).own h.e (fun _ _ h => h), h.ne, fun t ht => ⟨(h.dat t ht).1.below hb, (h.dat t ht).2⟩, h.below.trans (hb.mono h.below.size)⟩
theorem ReS.appI {t : It} (h : ReS w1 lv ev its es w) (ht : t.Ok w) (hG : ItG (fun k => some k ≠ lv.ownBlock ∧ some k ≠ ev.ownBlock) t) (ho : w'.ownsRow w1.heap.size 42 17 lv' (its.length + 1) (cellsI its ++ t.row)) (hg : w.grownBy w' lv.ownBlock)
    (hk : lv'.ownBlock = lv.ownBlock ∨ lv'.ownBlock = some w.heap.size) : ReS w1 lv' ev (its ++ [t]) es w' := by
  have hf := Fr.grown hg
  have hstep : ∀ u : It, u.Ok w → ItG (fun k => some k ≠ lv.ownBlock ∧ some k ≠ ev.ownBlock) u → u.Ok w' ∧ ItG (fun k => some k ≠ lv'.ownBlock ∧ some k ≠ ev.ownBlock) u := fun u hu hg2 => by
    refine ⟨hu.frG hg2 hf (fun k _ h1 h2 => h1.1 h2), (hg2.and hu.g).mono fun k hx => ⟨?_, hx.1.2⟩⟩
    rcases hk with hk | hk
    · rw [hk]; exact hx.1.1
    · rw [hk]; simp only [ne_eq, Option.some.injEq]; have := hx.2; omega
  refine ⟨?_, hf.own h.e (fun k h1 h2 => h.ne k h1 h2.symm), fun k h1 => ?_, fun u hu => ?_, h.below.trans (hf.below h.below.size (fun k hx => (h.l.lt k hx.symm).1))⟩
  · rw [cellsI_snoc, List.length_append]; exact ho
  · rcases hk with hk | hk
    · rw [hk]; exact h.ne k h1
    · rw [hk]; simp only [ne_eq, Option.some.injEq]; have := (h.e.lt k h1).2; omega
  · rcases List.mem_append.1 hu with hu | hu
    · exact hstep u (h.dat u hu).1 (h.dat u hu).2
    · rw [List.mem_singleton.1 hu]; exact hstep t ht hG
theorem ReS.appE {z : Int} (h : ReS w1 lv ev its es w) (ho : w'.ownsRow w1.heap.size 26 1 ev' (es.length + 1) (ints .i64 es ++ [.int .i64 z])) (hg : w.grownBy w' ev.ownBlock)
    (hk : ev'.ownBlock = ev.ownBlock ∨ ev'.ownBlock = some w.heap.size) : ReS w1 lv ev' its (es ++ [z]) w' := by
  have hf := Fr.grown hg
  refine ⟨hf.own h.l (fun k h1 h2 => h.ne k h2.symm h1), ?_, fun k h1 => ?_, fun u hu => ?_, h.below.trans (hf.below h.below.size (fun k hx => (h.e.lt k hx.symm).1))⟩
  · rw [List.length_append]
    have : ints .i64 (es ++ [z]) = ints .i64 es ++ [.int .i64 z] := by simp [ints]
    rw [this]; exact ho
  · rcases hk with hk | hk
    · rw [hk] at h1; exact h.ne k h1
    · intro h2
      rw [hk] at h1
      have := (h.l.lt k h2).2
      simp only [Option.some.injEq] at h1
      omega
  · obtain ⟨h1, h2⟩ := h.dat u hu
    refine ⟨h1.frG h2 hf (fun k _ h3 h4 => h3.2 h4), (h2.and h1.g).mono fun k hx => ⟨hx.1.1, ?_⟩⟩
    rcases hk with hk | hk
    · rw [hk]; exact hx.1.2
    · rw [hk]; simp only [ne_eq, Option.some.injEq]; have := hx.2; omega
theorem ReS.items (h : ReS w1 lv ev its es w) : ItS w lv its := own_items rfl h.l fun t ht => (h.dat t ht).1
theorem ReS.errs (h : ReS w1 lv ev its es w) : ErS w ev es := own_sv h.e
end
theorem ReS.start (w1 : World) (z : Int) : ReS w1 (.slice none 0 0) (.slice (some ⟨w1.heap.size, 0, none⟩) 1 1) [] [z] (w1.alloc (.cells #[.int .i64 z] 26)) :=
  ⟨World.ownsRow_nil _ _ _ _, own_new w1 _ _ _ (Nat.le_refl _), fun k _ h => by simp [Value.ownBlock] at h, fun _ h => absurd h (by simp), below_alloc _⟩
end Go.Proofs.Ytphofpemblindaa
