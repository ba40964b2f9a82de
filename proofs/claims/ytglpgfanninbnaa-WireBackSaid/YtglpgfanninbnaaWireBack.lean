/- The walk of WireBack. -/
import Derived.Test.YtglpgfanninbnaaWireWrites
import Derived.Test.YtglpgfanninbnaaWireStays
import Derived.Test.YtglpgfanninbnaaWireRd
namespace Go.Proofs.Ytglpgfanninbnaa
open Go.RowKit

theorem takeT_len (t : Th) : takeT t = (encT t).length := by
  unfold takeT encT bytesI
  split
  · rw [if_pos (by omega), bytesL_len]
  · split <;> rfl
theorem encs_drop (ts : List Th) (j : Nat) (h : j < ts.length) : encs (ts.drop j) = encT ts[j] ++ encs (ts.drop (j + 1)) := by
  unfold encs
  rw [List.drop_eq_getElem_cons h, List.flatMap_cons]
theorem encs_end (ts : List Th) : encs (ts.drop ts.length) = [] := by simp [encs]
theorem rawR_app (xs rest : List UInt8) (n : Nat) (h : n = xs.length) : rawR n (xs ++ rest) = rest := by
  subst h
  rw [rawR, if_pos (by simp)]; simp
theorem rawE_app (xs rest : List UInt8) (n : Nat) (e : Int) (h : n = xs.length) : rawE n (xs ++ rest) e = e := by
  subst h
  rw [rawE, if_pos (by simp)]
/-- a reader of bytes that were cut: it still goes on, and something lacks, or it went wrong -/
def CutS (R l : List UInt8) (e : Int) : Prop := (e = 0 ∧ ∃ x, x ≠ [] ∧ l ++ x = R) ∨ (e = 3 ∧ l = [])
theorem CutS.step {t : Th} {R l : List UInt8} {e : Int} (h : CutS (encT t ++ R) l e) : CutS R (rawR (takeT t) l) (rawE (takeT t) l e) := by
  rcases h with ⟨rfl, x, hx, h⟩ | ⟨rfl, rfl⟩
  · rw [takeT_len]
    by_cases hn : (encT t).length ≤ l.length
    · left
      rw [rawR, rawE, if_pos hn, if_pos hn]
      refine ⟨rfl, x, hx, ?_⟩
      have h2 := congrArg (List.drop (encT t).length) h
      rwa [List.drop_append_of_le_length hn, List.drop_left] at h2
    · right
      rw [rawR, rawE, if_neg hn, if_neg hn]
      exact ⟨rfl, rfl⟩
  · right
    rw [rawR_nil, rawE_stay _ _ _ (by decide)]
    exact ⟨rfl, rfl⟩
/-- a call of read that fits -/
theorem read_fits {lo rb : Nat} {rest : List UInt8} {t : Th} {w : World} (hr : Rd lo w rb (encT t ++ rest) 0) (hn : Fits 4294967296 t.n) (ht : BSx (fun k => k < lo) w t.v t.b) :
    Calls Try.prog 13 #[.pointer (some ⟨rb, 0, none⟩), t.val] w fun r w' => r = .returned (.bool true) ∧ RPost lo w rb rest 0 w' := by
  refine (read_any lo rb _ 0 t w hr hn ht).mono fun r w' h => ?_
  obtain ⟨b, rfl, hb, hp⟩ := h
  rw [hb rest rfl]
  rw [rawR_app _ _ _ (takeT_len t), rawE_app _ _ _ _ (takeT_len t)] at hp
  exact ⟨rfl, hp⟩
theorem BS.lit8 (w : World) (l : List UInt8) (t : TypeId) (hm : l.length ≤ maxLen) : Row8 (w.alloc (.cells (c8 l).toArray t)) (some ⟨w.heap.size, 0, none⟩) l := by
  obtain ⟨A, c, he, _, _, hr⟩ := BS.lit w l t hm
  simp only [Value.slice.injEq] at he
  rw [he.1]; exact hr
theorem BS.take {w : World} {A : Option Addr} {m c : Nat} {l : List UInt8} (h : BS w (.slice A m c) l) {n : Nat} (hn : n ≤ l.length) : BS w (.slice A n c) (l.take n) := by
  obtain ⟨A', c', he, h1, h2, h3⟩ := h
  simp only [Value.slice.injEq] at he
  obtain ⟨rfl, _, rfl⟩ := he
  have hl : (l.take n).length = n := by simp; omega
  refine ⟨A, c, by rw [hl], by omega, h2, fun hp => ?_⟩
  obtain ⟨b, o, rfl, hb, hc⟩ := h3 (by omega)
  exact ⟨b, o, rfl, hb, fun j hj => by rw [List.getElem_take]; exact hc j (by omega)⟩
/-- the two readers, and the bytes, in the middle -/
structure Back (w : World) (lo rb lo2 rb2 : Nat) (v : Value) (b l : List UInt8) (w' : World) : Prop where
  one : Rd lo w' rb l 0
  more : Rd lo2 w' rb2 (l ++ [0]) 0
  bytes : BSx (fun k => k < lo) w' v b
  below : Below w.heap.size w w'
theorem Back.alloc {w w' : World} {lo rb lo2 rb2 : Nat} {v : Value} {b l : List UInt8} (h : Back w lo rb lo2 rb2 v b l w') (o : Obj) : Back w lo rb lo2 rb2 v b l (w'.alloc o) :=
  ⟨h.one.fr0 (Fr.alloc _ _), h.more.fr0 (Fr.alloc _ _), h.bytes.fr (Fr.alloc _ _) (fun _ _ _ h => h), h.below.alloc h.below.size _⟩
set_option maxHeartbeats 2000000 in
theorem back_walk (u : Value) (ts : List Th) (cut : Int) (w : World) (ht : ThS w u ts) :
    Calls Try.prog 4 #[u, .int .i64 cut] w fun r w' => r = .returned (.bool true) ∧ Below w.heap.size w w' := by
  have HT := Lib.hid ht
  obtain ⟨A2, c2, rfl, hc2, hcm2, hA⟩ := ht.parts
  have HA := Lib.hid hA
  clear ht hA
  refine calls_q fun Q HQ => ?_
  by_cases hfew : fewB ts = true
  · have HF := Lib.hid (few_len hfew)
    go_enter Try.func4, Try.ntmps4
    go_wp2_with fail
    refine (awake3_any _).mono ?_
    rintro r w1 ⟨rfl, hb⟩
    have HB := Lib.hid hb
    clear hb
    go_wp2_with fail
    have hc := large_any _ _ _ (HT.out.fr (Fr.of HB.out) (fun _ _ h => h))
    rw [hfew] at hc
    refine hc.mono ?_
    rintro r w2 ⟨rfl, hb⟩
    have HB2 := Lib.hid (HB.out.trans (hb.mono HB.out.size))
    clear hb hc hfew
    go_wp2_with fail
    have HW0 := Lib.hid (wr_new w2)
    have HB0 := Lib.hid (HB2.out.alloc HB2.out.size (.cells #[.slice none 0 0] 28))
    have HS2 := Lib.hid HB2.out.size
    go_loopw [24] (fun i wr => ∃ (j : Nat) (ob : Option Nat), j ≤ ts.length ∧ i = .int .i64 j ∧ Wr w2.heap.size wr w2.heap.size ob (encs (ts.take j)) ∧ Below w.heap.size w wr ∧ (encs (ts.take j)).length ≤ 40 * j) (fun i _ => ts.length - (intOf i).toNat)
    case atStart => exact ⟨0, none, Nat.zero_le _, rfl, HW0.out, HB0.out, by simp [encs]⟩
    case round =>
      obtain ⟨j, ob, hj, rfl, hw, hb, hL⟩ := hrel
      have HWr := Lib.hid hw
      have HBr := Lib.hid hb
      clear hw hb
      by_cases hlt : j < ts.length
      · obtain ⟨b, o, rfl, hbl⟩ := HA.out (by omega)
        have hat := (HT.out.fr (Fr.of HBr.out) (fun _ _ h => h)).at j hlt
        have htok := HT.out.2 _ (List.getElem_mem hlt)
        have h40 := HF.out.2 _ (List.getElem_mem hlt)
        have h60 := HF.out.1
        have HSn := Lib.hid (encs_snoc ts j hlt)
        have HDp := Lib.hid (encs_drop ts j hlt)
        generalize (ts[j]'hlt) = t at *
        obtain ⟨c0, c1, c2, c3⟩ := hat
        have hbx0 := htok.b.x.fr (Fr.of HBr.out) (fun _ _ _ h => h)
        have HFi := Lib.hid htok.n
        clear htok
        have hbl2 := Nat.lt_of_lt_of_le hbl HBr.out.size
        obtain ⟨A3, cc, hv, _, hcm3, _⟩ := bs_parts hbx0.1
        have hval : t.val = .agg #[.int .i64 t.k, .int .u32 t.n, .slice A3 t.b.length cc, .int .i64 t.e] := by rw [← hv]; rfl
        have n0 := HFi.out.lo
        have n1 := HFi.out.hi
        have ha := Fr.alloc wr (.cells #[.int .i64 t.k, .int .u32 t.n, .slice A3 t.b.length cc, .int .i64 t.e] 32)
        have HBx := Lib.hid (HBr.out.alloc HBr.out.size (.cells #[.int .i64 t.k, .int .u32 t.n, .slice A3 t.b.length cc, .int .i64 t.e] 32))
        have HTb := Lib.hid (hbx0.fr ha (fun _ _ _ h => h))
        have HVal := Lib.hid hval
        rw [hv] at c2
        have h0 : (0 : Int) ≤ (j : Int) := by omega
        have h1 : (j : Int) < (ts.length : Int) := by omega
        clear hval hv hbx0
        have hcall := fun hm => write_any w2.heap.size w2.heap.size ob (encs (ts.take j)) t (wr.alloc (.cells #[.int .i64 t.k, .int .u32 t.n, .slice A3 t.b.length cc, .int .i64 t.e] 32)) (HWr.out.fr0 ha) ⟨HFi.out, HTb.out.1⟩ h40 hm
        rw [HVal.out] at hcall
        have HC := Lib.hid (hcall (by omega))
        have HLt := Lib.hid (HWr.out.lt)
        clear hcall ha
        have HL2 := Lib.hid (show (encs (ts.take (j + 1))).length ≤ 40 * (j + 1) by rw [HSn.out, List.length_append]; have := encT_len t h40; omega)
        go_wp2_with fail
        refine HC.out.mono ?_
        rintro r w4 ⟨rfl, ob5, hw4, hf4, _⟩
        rw [← HSn.out] at hw4
        have HW5 := Lib.hid hw4
        have HB4 := Lib.hid (HBx.out.trans (hf4.below HBx.out.size (fun k hk => by have := (HLt.out _ hk).1; have := HS2.out; omega)))
        clear hw4 hf4
        go_wp2_with fail
        go_roundw
        case rel => exact ⟨j + 1, ob5, by omega, by go_num, HW5.out, HB4.out, HL2.out⟩
        case measure => simp [intOf]; omega
      · have : j = ts.length := by omega
        subst this
        rw [List.take_length] at HWr hL
        have h60 := HF.out.1
        go_wp2_with fail
        refine (wbytes_any _ _ _ _ _ HWr.out (by omega)).mono ?_
        rintro r w4 ⟨ub, rfl, hu, hb⟩
        have HB4 := Lib.hid (HBr.out.trans (hb.mono HBr.out.size))
        have HU4 := Lib.hid (own_bs hu).x
        clear hb hu
        go_wp2_with fail
        refine (new_any _ _ _ HU4.out.1 (by omega)).mono ?_
        rintro r w5 ⟨rb, rfl, hr, hb, hsz⟩
        have HB5 := Lib.hid (HB4.out.trans (hb.mono HB4.out.size))
        have HU5 := Lib.hid (HU4.out.fr (Fr.of hb) (fun _ _ _ h => h))
        have HS5 := Lib.hid hsz
        have HR5 := Lib.hid hr
        clear hr hb hsz
        obtain ⟨Ab, cb, rfl, hcb, hcb2, hrb⟩ := bs_parts HU5.out.1
        have HRb := Lib.hid hrb
        clear hrb
        go_wp2_with (at_builtin; refine wpl_app rfl _ _ 26 rfl w5.heap.size 5 (.int .u8 0) 1 Try.underlying26 (by kernel_rfl) rfl _ 0 [] rfl (own_empty _ _ _ (Nat.le_refl _)) _ _ _ (c8 (encs ts)) rfl ?c1 (c8_one _) ?c2 ?c3 ?c4 ?c5)
        case c1 => exact src_of rfl (HRb.out.below (Nat.le_refl _) (below_alloc _))
        case c2 => unfold maxLen; omega
        case c3 => omega
        case c4 => simp
        case c5 =>
          intro v6 w6 hown hg _
          obtain ⟨A6, c6, rfl⟩ := own_slice hown
          have hb56 : Below w5.heap.size w5 w6 := ((Below.refl _ _).alloc (Nat.le_refl _) _).grown hg (by simp) (fun k hk => by simp [Value.ownBlock] at hk; omega)
          have HB56 := Lib.hid hb56
          have HO6 := Lib.hid (hown.alloc (.cells #[.int .u8 0] 5))
          have HBa := Lib.hid (hb56.alloc hb56.size (.cells #[.int .u8 0] 5))
          clear hown hg hb56
          go_wp2_with (at_builtin; refine wpl_app rfl _ _ 26 rfl w5.heap.size 5 (.int .u8 0) 1 Try.underlying26 (by kernel_rfl) rfl _ _ _ rfl HO6.out _ _ _ (c8 [0]) rfl ?d1 (c8_one _) ?d2 ?d3 ?d4 ?d5)
          case d1 => exact src_of rfl (BS.lit8 w6 [0] 5 (by decide))
          case d2 => unfold maxLen; omega
          case d3 => omega
          case d4 => have := HBa.out.size; omega
          case d5 =>
            intro v7 w7 hown hg _
            rw [← c8_app] at hown
            obtain ⟨A7, c7, rfl⟩ := own_slice hown
            have hb57 := HBa.out.grown hg (HBa.out.size) (fun k hk => (HO6.out.lt k hk).1)
            have HB7 := Lib.hid (HB5.out.trans (hb57.mono HB5.out.size))
            have HU7 := Lib.hid (HU5.out.fr (Fr.of hb57) (fun _ _ _ h => h))
            have HR7 := Lib.hid (HR5.out.fr0 (Fr.of hb57))
            have HO7 := Lib.hid (own_bs hown)
            have HS7 := Lib.hid hb57.size
            clear hown hg hb57
            go_wp2_with fail
            refine (new_any _ _ _ HO7.out (by simp; omega)).mono ?_
            rintro r w8 ⟨rb2, rfl, hr, hb, hsz⟩
            have HB8 := Lib.hid (HB7.out.trans (hb.mono HB7.out.size))
            have HU8 := Lib.hid (HU7.out.fr (Fr.of hb) (fun _ _ _ h => h))
            have HR8 := Lib.hid (HR7.out.fr0 (Fr.of hb))
            have HM8 := Lib.hid hr
            have HD8 := Lib.hid (show rb < w7.heap.size by have := HS7.out; have := HS5.out; omega)
            have HE8 := Lib.hid (show w4.heap.size ≤ rb from HR5.out.lt.1)
            have HW4 := Lib.hid (show w.heap.size ≤ w4.heap.size from HB4.out.size)
            clear hr hb hsz
            go_wp2_with fail
            go_loopw [44] (fun i wr => ∃ j : Nat, j ≤ ts.length ∧ i = .int .i64 j ∧ Back w w4.heap.size rb w7.heap.size rb2 (.slice Ab (encs ts).length cb) (encs ts) (encs (ts.drop j)) wr) (fun i _ => ts.length - (intOf i).toNat)
            case atStart => exact ⟨0, Nat.zero_le _, rfl, HR8.out, HM8.out, HU8.out, HB8.out⟩
            case round =>
              obtain ⟨j, hj, rfl, hs⟩ := hrel
              have HSt := Lib.hid hs
              clear hs
              have HBr := Lib.hid HSt.out.below
              by_cases hlt : j < ts.length
              · obtain ⟨b, o, rfl, hbl⟩ := HA.out (by omega)
                have hat := (HT.out.fr (Fr.of HBr.out) (fun _ _ h => h)).at j hlt
                have htok := HT.out.2 _ (List.getElem_mem hlt)
                have h40 := HF.out.2 _ (List.getElem_mem hlt)
                have h60 := HF.out.1
                have HSn := Lib.hid (encs_snoc ts j hlt)
                have HDp := Lib.hid (encs_drop ts j hlt)
                generalize (ts[j]'hlt) = t at *
                obtain ⟨c0, c1, c2, c3⟩ := hat
                have hbx0 := htok.b.x.fr (Fr.of HBr.out) (fun _ _ _ h => h)
                have HFi := Lib.hid htok.n
                clear htok
                have hbl2 := Nat.lt_of_lt_of_le hbl HBr.out.size
                obtain ⟨A3, cc, hv, _, hcm3, _⟩ := bs_parts hbx0.1
                have hval : t.val = .agg #[.int .i64 t.k, .int .u32 t.n, .slice A3 t.b.length cc, .int .i64 t.e] := by rw [← hv]; rfl
                have n0 := HFi.out.lo
                have n1 := HFi.out.hi
                have ha := Fr.alloc wr (.cells #[.int .i64 t.k, .int .u32 t.n, .slice A3 t.b.length cc, .int .i64 t.e] 32)
                have HBx := Lib.hid (HBr.out.alloc HBr.out.size (.cells #[.int .i64 t.k, .int .u32 t.n, .slice A3 t.b.length cc, .int .i64 t.e] 32))
                have HTb := Lib.hid (hbx0.fr ha (fun _ _ _ h => h))
                have HVal := Lib.hid hval
                rw [hv] at c2
                have h0 : (0 : Int) ≤ (j : Int) := by omega
                have h1 : (j : Int) < (ts.length : Int) := by omega
                clear hval hv hbx0
                have HS0 := Lib.hid (HSt.out.alloc (.cells #[.int .i64 t.k, .int .u32 t.n, .slice A3 t.b.length cc, .int .i64 t.e] 32))
                have HLr := Lib.hid (HSt.out.one.lt)
                go_wp2_with fail
                have hcall := read_fits (rest := encs (ts.drop (j + 1))) (t := t) (by rw [← HDp.out]; exact HS0.out.one) HFi.out (HTb.out.mono (fun k _ h => by have := HW4.out; omega))
                rw [HVal.out] at hcall
                refine hcall.mono ?_
                rintro r w10 ⟨rfl, hp⟩
                have hx := hp.2.heap (k := wr.heap.size) (heap_alloc_new wr (.cells #[.int .i64 t.k, .int .u32 t.n, .slice A3 t.b.length cc, .int .i64 t.e] 32)) (fun h => by have h2 : wr.heap.size = rb := h; have := HLr.out.2; omega)
                have x0 := obj_cell hx 0
                have x1 := obj_cell hx 1
                have x2 := obj_cell hx 2
                have x3 := obj_cell hx 3
                simp only [List.getElem?_toArray, List.getElem?_cons_succ, List.getElem?_cons_zero] at x0 x1 x2 x3
                have HB10 := Lib.hid (HBx.out.trans (hp.2.below HBx.out.size (fun k (hk : k = rb) => by have := HE8.out; have := HW4.out; omega)))
                have HR10 := Lib.hid hp.1
                have HM10 := Lib.hid (HS0.out.more.fr hp.2 (fun k h1 h2 (h3 : k = rb) => by have := HD8.out; omega))
                have HU10 := Lib.hid (HS0.out.bytes.fr hp.2 (fun k _ h (h3 : k = rb) => by have := HE8.out; omega))
                have HT10 := Lib.hid (HTb.out.fr hp.2 (fun k _ h (h3 : k = rb) => by have := HE8.out; have := HW4.out; omega))
                clear hp hx hcall ha
                go_wp2_with fail
                have hcall := read_fits (rest := encs (ts.drop (j + 1)) ++ [0]) (t := t) (by rw [← List.append_assoc, ← HDp.out]; exact HM10.out) HFi.out (HT10.out.mono (fun k _ h => by have := HW4.out; have := HE8.out; have := HD8.out; omega))
                rw [HVal.out] at hcall
                refine hcall.mono ?_
                rintro r w11 ⟨rfl, hp⟩
                have HB11 := Lib.hid (HB10.out.trans (hp.2.below HB10.out.size (fun k (hk : k = rb2) => by have := HE8.out; have := HW4.out; have := HD8.out; have := HM10.out.lt; omega)))
                have HM11 := Lib.hid hp.1
                have HR11 := Lib.hid (HR10.out.fr hp.2 (fun k h1 h2 (h3 : k = rb2) => by have := HD8.out; have := HM10.out.lt; omega))
                have HU11 := Lib.hid (HU10.out.fr hp.2 (fun k _ h (h3 : k = rb2) => by have := HE8.out; have := HD8.out; have := HM10.out.lt; omega))
                clear hp hcall x0 x1 x2 x3
                go_wp2_with fail
                go_roundw
                case rel => exact ⟨j + 1, by omega, by go_num, HR11.out, HM11.out, HU11.out, HB11.out⟩
                case measure => simp [intOf]; omega
              · have : j = ts.length := by omega
                subst this
                rw [encs_end] at HSt
                by_cases hneg : cut < 0
                · go_wp2_with fail
                  have hc := rend_any _ _ _ _ _ HSt.out.one
                  rw [show endE [] 0 = 0 by decide] at hc
                  refine hc.mono ?_
                  rintro r wz ⟨rfl, rfl⟩
                  clear hc
                  go_wp2_with fail
                  have hc := rleft_any _ _ _ _ _ HSt.out.one
                  rw [show ([] : List UInt8).length = 0 by decide] at hc
                  refine hc.mono ?_
                  rintro r wz ⟨rfl, rfl⟩
                  clear hc
                  go_wp2_with fail
                  have hc := rend_any _ _ _ _ _ HSt.out.more
                  rw [show endE ([] ++ [0]) 0 = 4 by decide] at hc
                  refine hc.mono ?_
                  rintro r wz ⟨rfl, rfl⟩
                  clear hc
                  go_wp2_with fail
                  have hc := rleft_any _ _ _ _ _ HSt.out.more
                  rw [show ([] ++ [0] : List UInt8).length = 1 by decide] at hc
                  refine hc.mono ?_
                  rintro r wz ⟨rfl, rfl⟩
                  clear hc
                  go_wp2_with fail
                  exact HQ.out _ _ ⟨rfl, HBr.out⟩
                · by_cases hge : ((encs ts).length : Int) ≤ cut
                  · go_wp2_with fail
                    have hc := rend_any _ _ _ _ _ HSt.out.one
                    rw [show endE [] 0 = 0 by decide] at hc
                    refine hc.mono ?_
                    rintro r wz ⟨rfl, rfl⟩
                    clear hc
                    go_wp2_with fail
                    have hc := rleft_any _ _ _ _ _ HSt.out.one
                    rw [show ([] : List UInt8).length = 0 by decide] at hc
                    refine hc.mono ?_
                    rintro r wz ⟨rfl, rfl⟩
                    clear hc
                    go_wp2_with fail
                    have hc := rend_any _ _ _ _ _ HSt.out.more
                    rw [show endE ([] ++ [0]) 0 = 4 by decide] at hc
                    refine hc.mono ?_
                    rintro r wz ⟨rfl, rfl⟩
                    clear hc
                    go_wp2_with fail
                    have hc := rleft_any _ _ _ _ _ HSt.out.more
                    rw [show ([] ++ [0] : List UInt8).length = 1 by decide] at hc
                    refine hc.mono ?_
                    rintro r wz ⟨rfl, rfl⟩
                    clear hc
                    go_wp2_with fail
                    exact HQ.out _ _ ⟨rfl, HBr.out⟩
                  · obtain ⟨n, rfl⟩ := Int.eq_ofNat_of_zero_le (show 0 ≤ cut by omega)
                    have hnl : n < (encs ts).length := by omega
                    go_wp2_with fail
                    have hc := rend_any _ _ _ _ _ HSt.out.one
                    rw [show endE [] 0 = 0 by decide] at hc
                    refine hc.mono ?_
                    rintro r wz ⟨rfl, rfl⟩
                    clear hc
                    go_wp2_with fail
                    have hc := rleft_any _ _ _ _ _ HSt.out.one
                    rw [show ([] : List UInt8).length = 0 by decide] at hc
                    refine hc.mono ?_
                    rintro r wz ⟨rfl, rfl⟩
                    clear hc
                    go_wp2_with fail
                    have hc := rend_any _ _ _ _ _ HSt.out.more
                    rw [show endE ([] ++ [0]) 0 = 4 by decide] at hc
                    refine hc.mono ?_
                    rintro r wz ⟨rfl, rfl⟩
                    clear hc
                    go_wp2_with fail
                    have hc := rleft_any _ _ _ _ _ HSt.out.more
                    rw [show ([] ++ [0] : List UInt8).length = 1 by decide] at hc
                    refine hc.mono ?_
                    rintro r wz ⟨rfl, rfl⟩
                    clear hc
                    go_wp2_with fail
                    have hbt := BS.take HSt.out.bytes.1 (n := n) (by omega)
                    refine (new_any _ _ _ hbt (by simp; omega)).mono ?_
                    rintro r wy ⟨rb3, rfl, hr, hb, _⟩
                    have HB9 := Lib.hid (HBr.out.trans (hb.mono HBr.out.size))
                    have HR9 := Lib.hid hr
                    have HZ := Lib.hid HBr.out.size
                    have hcut : CutS (encs (ts.drop 0)) ((encs ts).take n) 0 := .inl ⟨rfl, (encs ts).drop n, by (intro h; have := congrArg List.length h; simp at this; omega), by rw [List.take_append_drop, List.drop_zero]⟩
                    have HC9 := Lib.hid hcut
                    clear hr hb hbt hcut HBr
                    go_wp2_with fail
                    go_loopw [91] (fun i wr => ∃ (j : Nat) (l : List UInt8) (e : Int), j ≤ ts.length ∧ i = .int .i64 j ∧ Rd wz.heap.size wr rb3 l e ∧ CutS (encs (ts.drop j)) l e ∧ Below w.heap.size w wr) (fun i _ => ts.length - (intOf i).toNat)
                    case atStart => exact ⟨0, _, _, Nat.zero_le _, rfl, HR9.out, HC9.out, HB9.out⟩
                    case round =>
                      obtain ⟨j, l, e, hj, rfl, hr, hcs, hb⟩ := hrel
                      have HRr := Lib.hid hr
                      have HCr := Lib.hid hcs
                      have HBr := Lib.hid hb
                      clear hr hcs hb
                      by_cases hlt : j < ts.length
                      · obtain ⟨b, o, rfl, hbl⟩ := HA.out (by omega)
                        have hat := (HT.out.fr (Fr.of HBr.out) (fun _ _ h => h)).at j hlt
                        have htok := HT.out.2 _ (List.getElem_mem hlt)
                        have h40 := HF.out.2 _ (List.getElem_mem hlt)
                        have h60 := HF.out.1
                        have HSn := Lib.hid (encs_snoc ts j hlt)
                        have HDp := Lib.hid (encs_drop ts j hlt)
                        generalize (ts[j]'hlt) = t at *
                        obtain ⟨c0, c1, c2, c3⟩ := hat
                        have hbx0 := htok.b.x.fr (Fr.of HBr.out) (fun _ _ _ h => h)
                        have HFi := Lib.hid htok.n
                        clear htok
                        have hbl2 := Nat.lt_of_lt_of_le hbl HBr.out.size
                        obtain ⟨A3, cc, hv, _, hcm3, _⟩ := bs_parts hbx0.1
                        have hval : t.val = .agg #[.int .i64 t.k, .int .u32 t.n, .slice A3 t.b.length cc, .int .i64 t.e] := by rw [← hv]; rfl
                        have n0 := HFi.out.lo
                        have n1 := HFi.out.hi
                        have ha := Fr.alloc wr (.cells #[.int .i64 t.k, .int .u32 t.n, .slice A3 t.b.length cc, .int .i64 t.e] 32)
                        have HBx := Lib.hid (HBr.out.alloc HBr.out.size (.cells #[.int .i64 t.k, .int .u32 t.n, .slice A3 t.b.length cc, .int .i64 t.e] 32))
                        have HTb := Lib.hid (hbx0.fr ha (fun _ _ _ h => h))
                        have HVal := Lib.hid hval
                        rw [hv] at c2
                        have h0 : (0 : Int) ≤ (j : Int) := by omega
                        have h1 : (j : Int) < (ts.length : Int) := by omega
                        clear hval hv hbx0
                        have HR0 := Lib.hid (HRr.out.fr0 ha)
                        have hcall := read_any _ _ l e t (wr.alloc (.cells #[.int .i64 t.k, .int .u32 t.n, .slice A3 t.b.length cc, .int .i64 t.e] 32)) HR0.out HFi.out (HTb.out.mono (fun k _ h => by have := HZ.out; omega))
                        rw [HVal.out] at hcall
                        have HC := Lib.hid hcall
                        have HLo := Lib.hid (HRr.out.lt)
                        clear hcall ha
                        go_wp2_with fail
                        refine HC.out.mono ?_
                        rintro r w10 ⟨bb, rfl, _, hp⟩
                        have HB10 := Lib.hid (HBx.out.trans (hp.2.below HBx.out.size (fun k (hk : k = rb3) => by have := HZ.out; have := HLo.out; omega)))
                        have HR10 := Lib.hid hp.1
                        have HC10 := Lib.hid (show CutS (encs (ts.drop (j + 1))) _ _ from CutS.step (by rw [← HDp.out]; exact HCr.out))
                        clear hp
                        go_wp2_with fail
                        go_roundw
                        case rel => exact ⟨j + 1, _, _, by omega, by go_num, HR10.out, HC10.out, HB10.out⟩
                        case measure => simp [intOf]; omega
                      · have : j = ts.length := by omega
                        subst this
                        rw [encs_end] at HCr
                        obtain ⟨rfl, rfl⟩ : e = 3 ∧ l = [] := by
                          rcases HCr.out with ⟨_, x, hx, h⟩ | h
                          · simp at h; exact absurd h.2 hx
                          · exact h
                        go_wp2_with fail
                        have hc := rend_any _ _ _ _ _ HRr.out
                        rw [show endE [] 3 = 3 by decide] at hc
                        refine hc.mono ?_
                        rintro r wx ⟨rfl, rfl⟩
                        clear hc
                        go_wp2_with fail
                        have hc := rleft_any _ _ _ _ _ HRr.out
                        rw [show ([] : List UInt8).length = 0 by decide] at hc
                        refine hc.mono ?_
                        rintro r wx ⟨rfl, rfl⟩
                        clear hc
                        go_wp2_with fail
                        exact HQ.out _ _ ⟨rfl, HBr.out⟩
  · have hfw : fewB ts = false := by simpa using hfew
    go_enter Try.func4, Try.ntmps4
    go_wp2_with fail
    refine (awake3_any _).mono ?_
    rintro r w1 ⟨rfl, hb⟩
    have HB := Lib.hid hb
    clear hb
    go_wp2_with fail
    have hc := large_any _ _ _ (HT.out.fr (Fr.of HB.out) (fun _ _ h => h))
    rw [hfw] at hc
    refine hc.mono ?_
    rintro r w2 ⟨rfl, hb⟩
    have HB2 := Lib.hid (HB.out.trans (hb.mono HB.out.size))
    clear hb hc
    go_wp2_with fail
    exact HQ.out _ _ ⟨rfl, HB2.out⟩
end Go.Proofs.Ytglpgfanninbnaa
