/- The walk of WireStays. -/
import Derived.Test.YtglpgfanninbnaaWireT
import Derived.Test.YtglpgfanninbnaaWireAw
namespace Go.Proofs.Ytglpgfanninbnaa
open Go.RowKit

theorem rawL_nil (n : Nat) : rawL n [] = [] := by unfold rawL; split <;> simp
theorem rawR_nil (n : Nat) : rawR n [] = [] := by unfold rawR; split <;> simp
theorem rdN_nil (n : Nat) : rdN n [] = 0 := by rw [rdN, rawL_nil]; rfl
theorem rawE_stay (n : Nat) (l : List UInt8) (e : Int) (he : e ≠ 0) : rawE n l e = e := by
  unfold rawE
  split <;> rfl
/-- a reader of which something went wrong, in a world that is as w below w's end -/
def Stay (w : World) (lo rb : Nat) (e : Int) (w' : World) : Prop := Rd lo w' rb [] e ∧ w.heap.size ≤ lo ∧ Below w.heap.size w w'
theorem Stay.post {w w1 w' : World} {lo rb : Nat} {e : Int} (h : Stay w lo rb e w1) (hp : RPost lo w1 rb [] e w') : Stay w lo rb e w' :=
  ⟨hp.1, h.2.1, h.2.2.trans (hp.2.below h.2.2.size (fun k (hk : k = rb) => by have := h.1.lt; have := h.2.1; omega))⟩
theorem Stay.fr0 {w w1 w' : World} {lo rb : Nat} {e : Int} (h : Stay w lo rb e w1) (hf : Fr F0 w1 w') : Stay w lo rb e w' :=
  ⟨h.1.fr0 hf, h.2.1, h.2.2.trans (hf.below0.mono h.2.2.size)⟩
/-- .. and an object that is none of the reader's stays as it is -/
def StayO (w : World) (lo rb : Nat) (e : Int) (bx : Nat) (o : Obj) (w' : World) : Prop := Stay w lo rb e w' ∧ bx ≠ rb ∧ w'.heap[bx]? = some o
theorem StayO.post {w w1 w' : World} {lo rb bx : Nat} {e : Int} {o : Obj} (h : StayO w lo rb e bx o w1) (hp : RPost lo w1 rb [] e w') : StayO w lo rb e bx o w' :=
  ⟨h.1.post hp, h.2.1, hp.2.heap h.2.2 h.2.1⟩
theorem sbyte {w w1 : World} {lo rb bx : Nat} {e : Int} {o : Obj} (he : e ≠ 0) (h : StayO w lo rb e bx o w1) :
    Calls Try.prog 17 #[.pointer (some ⟨rb, 0, none⟩)] w1 fun r w' => r = .returned (.int .u8 0) ∧ StayO w lo rb e bx o w' := by
  have hc := rbyte_any _ _ _ _ _ h.1.1
  rw [rdN_nil, rawR_nil, rawE_stay _ _ _ he] at hc
  exact hc.mono fun r w' hr => ⟨hr.1, h.post hr.2⟩
theorem sshort {w w1 : World} {lo rb bx : Nat} {e : Int} {o : Obj} (he : e ≠ 0) (h : StayO w lo rb e bx o w1) :
    Calls Try.prog 18 #[.pointer (some ⟨rb, 0, none⟩)] w1 fun r w' => r = .returned (.int .u16 0) ∧ StayO w lo rb e bx o w' := by
  have hc := rshort_any _ _ _ _ _ h.1.1
  rw [rdN_nil, rawR_nil, rawE_stay _ _ _ he] at hc
  exact hc.mono fun r w' hr => ⟨hr.1, h.post hr.2⟩
theorem sthree {w w1 : World} {lo rb bx : Nat} {e : Int} {o : Obj} (he : e ≠ 0) (h : StayO w lo rb e bx o w1) :
    Calls Try.prog 19 #[.pointer (some ⟨rb, 0, none⟩)] w1 fun r w' => r = .returned (.int .u32 0) ∧ StayO w lo rb e bx o w' := by
  have hc := rthree_any _ _ _ _ _ h.1.1
  rw [rdN_nil, rawR_nil, rawE_stay _ _ _ he] at hc
  exact hc.mono fun r w' hr => ⟨hr.1, h.post hr.2⟩
theorem snum {w w1 : World} {lo rb bx : Nat} {e : Int} {o : Obj} (he : e ≠ 0) (h : StayO w lo rb e bx o w1) :
    Calls Try.prog 20 #[.pointer (some ⟨rb, 0, none⟩)] w1 fun r w' => r = .returned (.int .u32 0) ∧ StayO w lo rb e bx o w' := by
  have hc := rnum_any _ _ _ _ _ h.1.1
  rw [rdN_nil, rawR_nil, rawE_stay _ _ _ he] at hc
  exact hc.mono fun r w' hr => ⟨hr.1, h.post hr.2⟩
theorem sraw {w w1 : World} {lo rb bx n : Nat} {e : Int} {o : Obj} (he : e ≠ 0) (h : StayO w lo rb e bx o w1) (hn : n ≤ 9223372036854775807) :
    Calls Try.prog 21 #[.pointer (some ⟨rb, 0, none⟩), .int .i64 n] w1 fun r w' => (∃ A c, r = .returned (.slice A 0 c)) ∧ StayO w lo rb e bx o w' := by
  have hc := rraw_any _ _ n _ _ _ h.1.1 hn
  rw [RawPost.eq, rawL_nil, rawR_nil, rawE_stay _ _ _ he] at hc
  refine hc.mono fun r w' hr => ?_
  obtain ⟨v, rfl, hv, hp⟩ := hr
  obtain ⟨A, c, rfl, _⟩ := bs_parts hv.1
  exact ⟨⟨A, c, rfl⟩, h.post hp⟩
theorem sleft {w w1 : World} {lo rb : Nat} {e : Int} (h : Stay w lo rb e w1) :
    Calls Try.prog 15 #[.pointer (some ⟨rb, 0, none⟩)] w1 fun r w' => r = .returned (.int .i64 0) ∧ w' = w1 := rleft_any _ _ _ _ _ h.1
theorem send {w w1 : World} {lo rb : Nat} {e : Int} (h : Stay w lo rb e w1) :
    Calls Try.prog 14 #[.pointer (some ⟨rb, 0, none⟩)] w1 fun r w' => r = .returned (.int .i64 e) ∧ w' = w1 := rend_any _ _ _ _ _ h.1
theorem swrong {w w1 : World} {lo rb bx : Nat} {e : Int} {o : Obj} (he : e ≠ 0) (x : Int) (h : StayO w lo rb e bx o w1) :
    Calls Try.prog 16 #[.pointer (some ⟨rb, 0, none⟩), .int .i64 x] w1 fun r w' => r = .returned (.tuple #[]) ∧ StayO w lo rb e bx o w' := by
  by_cases hx : x = 0
  · subst hx
    exact (rwrong_ok _ _ _ _ _ h.1.1).mono fun r w' hr => ⟨hr.1, hr.2 ▸ h⟩
  · have hc := rwrong_any _ _ _ _ x _ h.1.1 hx
    rw [wrongE, if_neg he] at hc
    exact hc.mono fun r w' hr => ⟨hr.1, h.post hr.2⟩
set_option maxHeartbeats 1000000 in
theorem stays_walk (v : Value) (l : List UInt8) (e : Int) (u : Value) (ts : List Th) (w : World) (hb : BS w v l) (ht : ThS w u ts) :
    Calls Try.prog 5 #[v, .int .i64 e, u] w fun r w' => r = .returned (.bool true) ∧ Below w.heap.size w w' := by
  have HV := Lib.hid hb
  have HT := Lib.hid ht
  obtain ⟨A, c, rfl, hc, hcm, _⟩ := bs_parts hb
  obtain ⟨A2, c2, rfl, hc2, hcm2, hA⟩ := ht.parts
  have HA := Lib.hid hA
  clear hb ht hA
  refine calls_q fun Q HQ => ?_
  by_cases h1000 : (1000 : Int) < (l.length : Int)
  · go_enter Try.func5, Try.ntmps5
    go_wp2_with fail
    refine (awake3_any _).mono ?_
    rintro r w1 ⟨rfl, hb⟩
    have HB := Lib.hid hb
    clear hb
    go_wp2_with fail
    exact HQ.out _ _ ⟨rfl, HB.out⟩
  have hd : decide ((1000 : Int) < (l.length : Int)) = false := by simp; omega
  by_cases hfew : fewB ts = true
  · by_cases he : e = 0
    · subst he
      go_enter Try.func5, Try.ntmps5
      go_wp2_with fail
      refine (awake3_any _).mono ?_
      rintro r w1 ⟨rfl, hb⟩
      have HB := Lib.hid hb
      clear hb
      go_wp2_with fail
      have hc := large_any _ _ _ (HT.out.fr (Fr.of HB.out) (fun _ _ h => h))
      rw [hfew] at hc
      refine hc.mono ?_
      rintro r w2 ⟨rfl, hb⟩
      have HB2 := Lib.hid (HB.out.trans (hb.mono HB.out.size))
      clear hb hc
      go_wp2_with fail
      exact HQ.out _ _ ⟨rfl, HB2.out⟩
    · have he1 : (e == 0) = false := by simp [he]
      go_enter Try.func5, Try.ntmps5
      go_wp2_with fail
      refine (awake3_any _).mono ?_
      rintro r w1 ⟨rfl, hb⟩
      have HB := Lib.hid hb
      clear hb
      go_wp2_with fail
      have hc := large_any _ _ _ (HT.out.fr (Fr.of HB.out) (fun _ _ h => h))
      rw [hfew] at hc
      refine hc.mono ?_
      rintro r w2 ⟨rfl, hb⟩
      have HB2 := Lib.hid (HB.out.trans (hb.mono HB.out.size))
      clear hb hc
      go_wp2_with fail
      refine (new_any _ _ _ (HV.out.below HB2.out) (by omega)).mono ?_
      rintro r w3 ⟨rb, rfl, hr, hb, _⟩
      have HB3 := Lib.hid (HB2.out.trans (hb.mono HB2.out.size))
      have HR3 := Lib.hid hr
      clear hr hb
      go_wp2_with fail
      refine (rwrong_any _ _ _ _ e _ HR3.out he).mono ?_
      rintro r w4 ⟨rfl, hp⟩
      rw [wrongE, if_pos rfl] at hp
      have HS := Lib.hid (show Stay w w2.heap.size rb e w4 from ⟨hp.1, HB2.out.size, HB3.out.trans (hp.2.below HB3.out.size (fun k (hk : k = rb) => by have := HR3.out.lt; have := HB2.out.size; omega))⟩)
      clear hp
      go_wp2_with fail
      go_loopw [30] (fun i wr => ∃ j : Nat, j ≤ ts.length ∧ i = .int .i64 j ∧ Stay w w2.heap.size rb e wr) (fun i _ => ts.length - (intOf i).toNat)
      case atStart => exact ⟨0, Nat.zero_le _, rfl, HS.out⟩
      case round =>
        obtain ⟨j, hj, rfl, hs⟩ := hrel
        have HS1 := Lib.hid hs
        clear hs
        by_cases hlt : j < ts.length
        · obtain ⟨b, o, rfl, hbl⟩ := HA.out (by omega)
          have HBr := Lib.hid HS1.out.2.2
          obtain ⟨c0, c1, c2, c3⟩ := (HT.out.fr (Fr.of HBr.out) (fun _ _ h => h)).at j hlt
          have hbs := ((HT.out.2 _ (List.getElem_mem hlt)).b).below HBr.out
          have hbl2 := Nat.lt_of_lt_of_le hbl HBr.out.size
          obtain ⟨A3, cc, hv, _, hcm3, _⟩ := bs_parts hbs
          rw [hv] at c2
          clear hbs hv
          generalize (ts[j]'hlt) = t at *
          have h0 : (0 : Int) ≤ (j : Int) := by omega
          have h1 : (j : Int) < (ts.length : Int) := by omega
          have HO0 := Lib.hid (show StayO w w2.heap.size rb e wr.heap.size (.cells #[.int .i64 t.k, .int .u32 t.n, .slice A3 t.b.length cc, .int .i64 t.e] 32) (wr.alloc (.cells #[.int .i64 t.k, .int .u32 t.n, .slice A3 t.b.length cc, .int .i64 t.e] 32)) from ⟨HS1.out.fr0 (Fr.alloc wr _), by have := HS1.out.1.lt; omega, heap_alloc_new _ _⟩)
          by_cases h6 : t.k = 6
          · have h6' : (t.k == 6) = true := by simp [h6]
            clear h6
            go_wp2_with fail
            refine (swrong he _ HO0.out).mono ?_
            rintro r x1 ⟨rfl, hs⟩
            have HO1 := Lib.hid hs
            clear hs
            go_wp2_with fail
            refine (sbyte he HO1.out).mono ?_
            rintro r x2 ⟨rfl, hs⟩
            have HO2 := Lib.hid hs
            clear hs
            go_wp2_with fail
            refine (sshort he HO2.out).mono ?_
            rintro r x3 ⟨rfl, hs⟩
            have HO3 := Lib.hid hs
            clear hs
            go_wp2_with fail
            refine (sthree he HO3.out).mono ?_
            rintro r x4 ⟨rfl, hs⟩
            have HO4 := Lib.hid hs
            clear hs
            go_wp2_with fail
            refine (snum he HO4.out).mono ?_
            rintro r x5 ⟨rfl, hs⟩
            have HO5 := Lib.hid hs
            clear hs
            have k2 := obj_cell HO5.out.2.2 2
            simp only [List.getElem?_toArray, List.getElem?_cons_succ, List.getElem?_cons_zero] at k2
            go_wp2_with fail
            refine (sraw he HO5.out (by omega)).mono ?_
            rintro r x6 ⟨⟨A6, c6, rfl⟩, hs⟩
            have HO6 := Lib.hid hs
            clear hs k2
            go_wp2_with fail
            refine (sleft HO6.out.1).mono ?_
            rintro r x7 ⟨rfl, rfl⟩
            go_wp2_with fail
            refine (send HO6.out.1).mono ?_
            rintro r x8 ⟨rfl, rfl⟩
            go_wp2_with fail
            go_roundw
            case rel => exact ⟨j + 1, by omega, by go_num, HO6.out.1⟩
            case measure => simp [intOf]; omega
          · have h6' : (t.k == 6) = false := by simp [h6]
            go_wp2_with fail
            have HO1 := HO0
            refine (sbyte he HO1.out).mono ?_
            rintro r x2 ⟨rfl, hs⟩
            have HO2 := Lib.hid hs
            clear hs
            go_wp2_with fail
            refine (sshort he HO2.out).mono ?_
            rintro r x3 ⟨rfl, hs⟩
            have HO3 := Lib.hid hs
            clear hs
            go_wp2_with fail
            refine (sthree he HO3.out).mono ?_
            rintro r x4 ⟨rfl, hs⟩
            have HO4 := Lib.hid hs
            clear hs
            go_wp2_with fail
            refine (snum he HO4.out).mono ?_
            rintro r x5 ⟨rfl, hs⟩
            have HO5 := Lib.hid hs
            clear hs
            have k2 := obj_cell HO5.out.2.2 2
            simp only [List.getElem?_toArray, List.getElem?_cons_succ, List.getElem?_cons_zero] at k2
            go_wp2_with fail
            refine (sraw he HO5.out (by omega)).mono ?_
            rintro r x6 ⟨⟨A6, c6, rfl⟩, hs⟩
            have HO6 := Lib.hid hs
            clear hs k2
            go_wp2_with fail
            refine (sleft HO6.out.1).mono ?_
            rintro r x7 ⟨rfl, rfl⟩
            go_wp2_with fail
            refine (send HO6.out.1).mono ?_
            rintro r x8 ⟨rfl, rfl⟩
            go_wp2_with fail
            go_roundw
            case rel => exact ⟨j + 1, by omega, by go_num, HO6.out.1⟩
            case measure => simp [intOf]; omega
        · have : j = ts.length := by omega
          subst this
          go_wp2_with fail
          refine (send HS1.out).mono ?_
          rintro r x7 ⟨rfl, rfl⟩
          go_wp2_with fail
          refine (sleft HS1.out).mono ?_
          rintro r x8 ⟨rfl, rfl⟩
          go_wp2_with fail
          exact HQ.out _ _ ⟨rfl, HS1.out.2.2⟩
  · have hfw : fewB ts = false := by simpa using hfew
    go_enter Try.func5, Try.ntmps5
    go_wp2_with fail
    refine (awake3_any _).mono ?_
    rintro r w1 ⟨rfl, hb⟩
    have HB := Lib.hid hb
    clear hb
    go_wp2_with fail
    have hc := large_any _ _ _ (HT.out.fr (Fr.of HB.out) (fun _ _ h => h))
    rw [hfw] at hc
    refine hc.mono ?_
    rintro r w2 ⟨rfl, hb⟩
    have HB2 := Lib.hid (HB.out.trans (hb.mono HB.out.size))
    clear hb hc
    go_wp2_with fail
    exact HQ.out _ _ ⟨rfl, HB2.out⟩
end Go.Proofs.Ytglpgfanninbnaa
