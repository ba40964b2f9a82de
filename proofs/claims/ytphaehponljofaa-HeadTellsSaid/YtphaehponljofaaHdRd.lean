/- What reading a packet tells; the walks of readHead and padding. -/
import Derived.Test.YtphaehponljofaaHdS
import Derived.Test.YtphaehponljofaaWireR
namespace Go.Proofs.Ytphaehponljofaa
open Go.RowKit

/-! ### what reading tells -/
def itR : Nat → List UInt8 → List UInt8
  | 0, l => l
  | j + 1, l => rawR 4 (itR j l)
def itE : Nat → List UInt8 → Int → Int
  | 0, _, e => e
  | j + 1, l, e => rawE 4 (itR j l) (itE j l e)
def itS : Nat → List UInt8 → List Nat
  | 0, _ => []
  | j + 1, l => itS j l ++ [rdN 4 (itR j l)]
theorem itS_len (j : Nat) (l : List UInt8) : (itS j l).length = j := by
  induction j with
  | zero => rfl
  | succ j ih => simp [itS, ih]
/-- the head of bytes -/
def firstN (l : List UInt8) : Nat := rdN 1 l
def secondN (l : List UInt8) : Nat := rdN 1 (l.drop 1)
def hasB (l : List UInt8) : Bool := decide (firstN l / 16 % 2 = 1)
def padB (l : List UInt8) : Bool := decide (firstN l / 32 % 2 = 1)
def hdOf (l : List UInt8) : PD := { PD.zero with m := decide (128 ≤ secondN l), ty := secondN l % 128, seq := rdN 2 (l.drop 2), st := rdN 4 (l.drop 4), so := rdN 4 (l.drop 8) }
def rd2L (l : List UInt8) : List UInt8 := itR (firstN l % 16) (l.drop 12)
def rd2E (l : List UInt8) : Int := itE (firstN l % 16) (l.drop 12) 0
def srcsOf (l : List UInt8) : PD := { hdOf l with srcs := itS (firstN l % 16) (l.drop 12) }
def exN (l : List UInt8) : Nat := 4 * rdN 2 (rawR 2 (rd2L l))
def rd3L (l : List UInt8) : List UInt8 := if hasB l then rawR (exN l) (rawR 2 (rawR 2 (rd2L l))) else rd2L l
def rd3E (l : List UInt8) : Int := if hasB l then rawE (exN l) (rawR 2 (rawR 2 (rd2L l))) (rawE 2 (rawR 2 (rd2L l)) (rawE 2 (rd2L l) (rd2E l))) else rd2E l
def extOf (l : List UInt8) : PD := if hasB l then { srcsOf l with has := true, prof := rdN 2 (rd2L l), ex := rawL (exN l) (rawR 2 (rawR 2 (rd2L l))) } else srcsOf l
def lastB (l : List UInt8) : Nat := (l.getLastD 0).toNat
def padOk (l3 : List UInt8) (k : Nat) : Bool := decide (k ≠ 0 ∧ k ≤ l3.length)
def padN (l3 : List UInt8) (k : Nat) : Nat := if padOk l3 k then k else 0
def padL (l3 : List UInt8) (k : Nat) : List UInt8 := if padOk l3 k then l3 else []
def padE (l3 : List UInt8) (k : Nat) (e : Int) : Int := if padOk l3 k then e else wrongE e 2
def rd4N (l : List UInt8) : Nat := if padB l then padN (rd3L l) (lastB l) else 0
def rd4L (l : List UInt8) : List UInt8 := if padB l then padL (rd3L l) (lastB l) else rd3L l
def rd4E (l : List UInt8) : Int := if padB l then padE (rd3L l) (lastB l) (rd3E l) else rd3E l
def readOf (l : List UInt8) : PD := { extOf l with pl := (rd4L l).take ((rd4L l).length - rd4N l) }
def readE (l : List UInt8) : Int := if 200 < l.length then 4 else if l.length < 12 then 3 else if firstN l < 128 ∨ 191 < firstN l then 2 else rd4E l
def readP (l : List UInt8) : PD := if readE l = 0 then readOf l else PD.zero

theorem rdN1 (l : List UInt8) (h : 0 < l.length) : rdN 1 l = l[0].toNat := by
  match l, h with
  | x :: xs, _ => simp [rdN, rawL, beN]
theorem firstN_lt (l : List UInt8) : firstN l < 256 := by have := rdN_lt 1 l; unfold firstN; omega
theorem secondN_lt (l : List UInt8) : secondN l < 256 := by have := rdN_lt 1 (l.drop 1); unfold secondN; omega
theorem fieldN_eq (n a s : Nat) (h : a + s ≤ 64) (ha : a ≤ 63) : fieldN n (a : Int) (s : Int) = n / 2 ^ a % 2 ^ s := by
  unfold fieldN
  rw [if_pos (by rw [may_iff]; omega), Int.toNat_natCast, Int.toNat_natCast]
theorem u64n (n : Nat) (h : n < 256) : U64 (n : Int) := ⟨by omega, by omega⟩
/-- bits of a byte -/
theorem fld_any (n a s : Nat) (hn : n < 256) (h : a + s ≤ 64) (ha : a ≤ 63) (w : World) :
    Calls Try.prog 28 #[.int .u64 (n : Nat), .int .i64 (a : Nat), .int .i64 (s : Nat)] w fun e w' => e = .returned (.int .u64 (n / 2 ^ a % 2 ^ s : Nat)) ∧ ∃ k, w' = w.drewN k := by
  have hc := field_any n a s w (u64n n hn)
  rw [Int.toNat_natCast, fieldN_eq n a s h ha] at hc
  exact hc
/-! ### a reader that goes on -/
theorem rawR_drop {l : List UInt8} {k n m : Nat} (h : k + n ≤ l.length) (hm : m = k + n) : rawR n (l.drop k) = l.drop m := by
  subst hm
  rw [rawR, if_pos (by simp; omega), List.drop_drop]
theorem rawE_drop {l : List UInt8} {k n : Nat} {e : Int} (h : k + n ≤ l.length) : rawE n (l.drop k) e = e := by rw [rawE, if_pos (by simp; omega)]
/-- a reader, and that nothing else was changed -/
structure RSt (w0 : World) (lo rb : Nat) (l : List UInt8) (e : Int) (w : World) : Prop where
  rd : Rd lo w rb l e
  fr : Fr (F1 rb) w0 w
theorem RSt.step {w0 : World} {lo rb : Nat} {l l' : List UInt8} {e e' : Int} {w w' : World} (h : RSt w0 lo rb l e w) (hp : RPost lo w rb l' e' w') : RSt w0 lo rb l' e' w' :=
  ⟨hp.1, h.fr.trans hp.2 (fun _ h => .inl h)⟩
theorem RSt.fr0 {w0 : World} {lo rb : Nat} {l : List UInt8} {e : Int} {w w' : World} (h : RSt w0 lo rb l e w) (hf : Fr F0 w w') : RSt w0 lo rb l e w' :=
  ⟨h.rd.fr0 hf, h.fr.trans hf (fun _ h => h.elim)⟩
theorem RSt.box {w0 : World} {lo rb : Nat} {l : List UInt8} {e : Int} {w : World} (h : RSt w0 lo rb l e w) {b : Nat} {o : Obj} (hb : w0.heap[b]? = some o) (hne : b ≠ rb) : w.heap[b]? = some o :=
  h.fr.heap hb hne
section
variable {w0 : World} {lo rb : Nat} {l : List UInt8} {e : Int} {w : World}
theorem rbyte_st (h : RSt w0 lo rb l e w) : Calls Try.prog 27 #[.pointer (some ⟨rb, 0, none⟩)] w fun r w' => r = .returned (.int .u8 (rdN 1 l : Nat)) ∧ RSt w0 lo rb (rawR 1 l) (rawE 1 l e) w' :=
  (rbyte_any lo rb l e w h.rd).mono fun _ _ hp => ⟨hp.1, h.step hp.2⟩
theorem rshort_st (h : RSt w0 lo rb l e w) : Calls Try.prog 31 #[.pointer (some ⟨rb, 0, none⟩)] w fun r w' => r = .returned (.int .u16 (rdN 2 l : Nat)) ∧ RSt w0 lo rb (rawR 2 l) (rawE 2 l e) w' :=
  (rshort_any lo rb l e w h.rd).mono fun _ _ hp => ⟨hp.1, h.step hp.2⟩
theorem rnum_st (h : RSt w0 lo rb l e w) : Calls Try.prog 30 #[.pointer (some ⟨rb, 0, none⟩)] w fun r w' => r = .returned (.int .u32 (rdN 4 l : Nat)) ∧ RSt w0 lo rb (rawR 4 l) (rawE 4 l e) w' :=
  (rnum_any lo rb l e w h.rd).mono fun _ _ hp => ⟨hp.1, h.step hp.2⟩
/-- of bytes that are there -/
theorem rshort_at {l0 : List UInt8} {k m : Nat} (h : RSt w0 lo rb (l0.drop k) e w) (hk : k + 2 ≤ l0.length) (hm : m = k + 2) : Calls Try.prog 31 #[.pointer (some ⟨rb, 0, none⟩)] w fun r w' => r = .returned (.int .u16 (rdN 2 (l0.drop k) : Nat)) ∧ RSt w0 lo rb (l0.drop m) e w' := by
  have hc := rshort_st h
  rwa [rawR_drop hk hm, rawE_drop hk] at hc
theorem rnum_at {l0 : List UInt8} {k m : Nat} (h : RSt w0 lo rb (l0.drop k) e w) (hk : k + 4 ≤ l0.length) (hm : m = k + 4) : Calls Try.prog 30 #[.pointer (some ⟨rb, 0, none⟩)] w fun r w' => r = .returned (.int .u32 (rdN 4 (l0.drop k) : Nat)) ∧ RSt w0 lo rb (l0.drop m) e w' := by
  have hc := rnum_st h
  rwa [rawR_drop hk hm, rawE_drop hk] at hc
theorem rbyte_at {l0 : List UInt8} {k m : Nat} (h : RSt w0 lo rb (l0.drop k) e w) (hk : k + 1 ≤ l0.length) (hm : m = k + 1) : Calls Try.prog 27 #[.pointer (some ⟨rb, 0, none⟩)] w fun r w' => r = .returned (.int .u8 (rdN 1 (l0.drop k) : Nat)) ∧ RSt w0 lo rb (l0.drop m) e w' := by
  have hc := rbyte_st h
  rwa [rawR_drop hk hm, rawE_drop hk] at hc
end
theorem obj_set5 {w : World} {b : Nat} {x0 x1 x2 x3 x4 : Value} {t : TypeId} (h : w.heap[b]? = some (.cells #[x0, x1, x2, x3, x4] t (0, 0))) (y0 y1 y2 y3 y4 : Value) :
    (((((w.setCell ⟨b, 0, none⟩ y0).setCell ⟨b, 1, none⟩ y1).setCell ⟨b, 2, none⟩ y2).setCell ⟨b, 3, none⟩ y3).setCell ⟨b, 4, none⟩ y4).heap[b]? = some (.cells #[y0, y1, y2, y3, y4] t (0, 0)) ∧
    Fr (F1 b) w (((((w.setCell ⟨b, 0, none⟩ y0).setCell ⟨b, 1, none⟩ y1).setCell ⟨b, 2, none⟩ y2).setCell ⟨b, 3, none⟩ y3).setCell ⟨b, 4, none⟩ y4) := by
  have h0 := obj_set h 0 y0
  have h1 := obj_set h0 1 y1
  have h2 := obj_set h1 2 y2
  have h3 := obj_set h2 3 y3
  have h4 := obj_set h3 4 y4
  refine ⟨by simpa using h4, ?_⟩
  have f0 : Fr (F1 b) w (w.setCell ⟨b, 0, none⟩ y0) := Fr.setCell w ⟨b, 0, none⟩ y0
  have f1 : Fr (F1 b) w ((w.setCell ⟨b, 0, none⟩ y0).setCell ⟨b, 1, none⟩ y1) := f0.trans (Fr.setCell _ ⟨b, 1, none⟩ y1) (fun _ h => .inl h)
  have f2 := f1.trans (Fr.setCell _ ⟨b, 2, none⟩ y2) (fun _ h => .inl h)
  have f3 := f2.trans (Fr.setCell _ ⟨b, 3, none⟩ y3) (fun _ h => .inl h)
  exact f3.trans (Fr.setCell _ ⟨b, 4, none⟩ y4) (fun _ h => .inl h)
theorem fr_drewN {w0 w : World} {F : Nat → Prop} (h : Fr F w0 w) (n : Nat) : Fr F w0 (w.drewN n) := h.trans (Fr.drewN w n) (fun _ h => h.elim)
set_option maxHeartbeats 1000000 in
theorem rhead_any (lo rb : Nat) (l : List UInt8) (w : World) (hr : Rd lo w rb (l.drop 1) 0) (h12 : 12 ≤ l.length) :
    Calls Try.prog 29 #[.pointer (some ⟨rb, 0, none⟩)] w fun e w' =>
      e = .returned (.agg #[.bool (decide (128 ≤ secondN l)), .int .u8 (secondN l % 128 : Nat), .int .u16 (rdN 2 (l.drop 2) : Nat), .int .u32 (rdN 4 (l.drop 4) : Nat), .int .u32 (rdN 4 (l.drop 8) : Nat)]) ∧
      Rd lo w' rb (l.drop 12) 0 ∧ Fr (F1 rb) w w' := by
  have ha := Fr.alloc w (.cells #[.bool false, .int .u8 0, .int .u16 0, .int .u32 0, .int .u32 0] 25)
  have HS := Lib.hid (show RSt w lo rb (l.drop 1) 0 (w.alloc (.cells #[.bool false, .int .u8 0, .int .u16 0, .int .u32 0, .int .u32 0] 25)) from ⟨hr.fr0 ha, ha.mono (fun _ h => h.elim)⟩)
  have hs2 : RSt (w.alloc (.cells #[.bool false, .int .u8 0, .int .u16 0, .int .u32 0, .int .u32 0] 25)) lo rb (l.drop 1) 0 (w.alloc (.cells #[.bool false, .int .u8 0, .int .u16 0, .int .u32 0, .int .u32 0] 25)) := ⟨hr.fr0 ha, Fr.refl _ _⟩
  have HS2 := Lib.hid hs2
  have HX := Lib.hid (heap_alloc_new w (.cells #[.bool false, .int .u8 0, .int .u16 0, .int .u32 0, .int .u32 0] 25))
  have HL := Lib.hid hr.lt
  have HAl := Lib.hid (show Fr (F1 rb) w (w.alloc (.cells #[.bool false, .int .u8 0, .int .u16 0, .int .u32 0, .int .u32 0] 25)) from ha.mono (fun _ h => h.elim))
  clear ha hr hs2 HS
  have hsec := secondN_lt l
  have hdef : rdN 1 (l.drop 1) = secondN l := rfl
  have hf1 := fun w => fld_any (secondN l) 7 1 hsec (by omega) (by omega) w
  have hf2 := fun w => fld_any (secondN l) 0 7 hsec (by omega) (by omega) w
  have hb1 : (((secondN l / 2 ^ 7 % 2 ^ 1 : Nat) : Int) == 1) = decide (128 ≤ secondN l) := by rw [Bool.eq_iff_iff]; simp; omega
  generalize secondN l / 2 ^ 7 % 2 ^ 1 = fb at *
  have hb2 : secondN l / 2 ^ 0 % 2 ^ 7 = secondN l % 128 := by omega
  have hu := u64_id (u64n _ hsec)
  have hm8 : IntKind.u8.wrap ((secondN l % 128 : Nat) : Int) = ((secondN l % 128 : Nat) : Int) := by rw [wrap_u8]; omega
  simp only [hb2] at hf2
  generalize secondN l = sec at *
  have HD := Lib.hid hdef
  have FA := Lib.hid hf1
  have FB := Lib.hid hf2
  clear hdef hf1 hf2 hb2
  refine calls_q fun Q HQ => ?_
  go_enter Try.func29, Try.ntmps29
  go_wp2_with fail
  have hc := rbyte_at HS2.out (m := 2) (by omega) rfl
  rw [HD.out] at hc
  refine hc.mono ?_
  rintro e w2 ⟨rfl, hs⟩
  clear hc HS2
  have HS := Lib.hid hs
  clear hs
  go_wp2_with fail
  refine (FA.out _).mono ?_
  rintro e w3 ⟨rfl, n1, rfl⟩
  go_wp2_with fail
  refine (FB.out _).mono ?_
  rintro e w3 ⟨rfl, n2, rfl⟩
  go_wp2_with fail
  have hs2 := HS.out.fr0 (Fr.drewN w2 (n1 + n2))
  refine (rshort_at hs2 (m := 4) (by omega) rfl).mono ?_
  rintro e w4 ⟨rfl, hs⟩
  clear HS hs2
  have HS := Lib.hid hs
  clear hs
  go_wp2_with fail
  refine (rnum_at HS.out (m := 8) (by omega) rfl).mono ?_
  rintro e w5 ⟨rfl, hs⟩
  clear HS
  have HS := Lib.hid hs
  clear hs
  go_wp2_with fail
  refine (rnum_at HS.out (m := 12) (by omega) rfl).mono ?_
  rintro e w6 ⟨rfl, hs⟩
  clear HS
  have HS := Lib.hid hs
  clear hs
  have hbx := HS.out.box HX.out (by have := HL.out; omega)
  have y0 := obj_cell hbx 0
  have y1 := obj_cell hbx 1
  have y2 := obj_cell hbx 2
  have y3 := obj_cell hbx 3
  have y4 := obj_cell hbx 4
  have z0 := obj_frozen hbx 0
  have z1 := obj_frozen hbx 1
  have z2 := obj_frozen hbx 2
  have z3 := obj_frozen hbx 3
  have z4 := obj_frozen hbx 4
  simp only [List.getElem?_toArray, List.getElem?_cons_succ, List.getElem?_cons_zero] at y0 y1 y2 y3 y4
  go_wp2_with fail
  obtain ⟨hx5, hf5⟩ := obj_set5 hbx (.bool (decide (128 ≤ sec))) (.int .u8 ((sec : Int) % 128)) (.int .u16 (rdN 2 (l.drop 2) : Nat)) (.int .u32 (rdN 4 (l.drop 4) : Nat)) (.int .u32 (rdN 4 (l.drop 8) : Nat))
  have hS := HS.out
  clear y0 y1 y2 y3 y4 z0 z1 z2 z3 z4
  generalize ((((w6.setCell ⟨w.heap.size, 0, none⟩ _).setCell ⟨w.heap.size, 1, none⟩ _).setCell ⟨w.heap.size, 2, none⟩ _).setCell ⟨w.heap.size, 3, none⟩ _).setCell ⟨w.heap.size, 4, none⟩ _ = wf at *
  have y0 := obj_cell hx5 0
  have y1 := obj_cell hx5 1
  have y2 := obj_cell hx5 2
  have y3 := obj_cell hx5 3
  have y4 := obj_cell hx5 4
  simp only [List.getElem?_toArray, List.getElem?_cons_succ, List.getElem?_cons_zero] at y0 y1 y2 y3 y4
  have hlt := HL.out
  refine bodyPost_ret (v := .agg #[.bool (decide (128 ≤ sec)), .int .u8 (sec % 128 : Nat), .int .u16 (rdN 2 (l.drop 2) : Nat), .int .u32 (rdN 4 (l.drop 4) : Nat), .int .u32 (rdN 4 (l.drop 8) : Nat)]) (by simp [results, Try.results29, go_sem, y0, y1, y2, y3, y4]; try rfl) rfl ?_
  refine HQ.out _ _ ⟨rfl, hS.rd.fr hf5 (fun k _ hk (h : k = w.heap.size) => by omega), ?_⟩
  exact (HAl.out.trans hS.fr (fun _ h => .inl h)).trans hf5 (fun k h => .inr (by have h2 : k = w.heap.size := h; omega))
set_option maxHeartbeats 1000000 in
theorem padding_any (lo rb k : Nat) (l : List UInt8) (e : Int) (w : World) (hr : Rd lo w rb l e) (hk : k < 256) :
    Calls Try.prog 33 #[.pointer (some ⟨rb, 0, none⟩), .int .u8 (k : Nat)] w fun r w' => r = .returned (.int .i64 (padN l k : Nat)) ∧ RPost lo w rb (padL l k) (padE l k e) w' := by
  have HR := Lib.hid hr
  have hlen : l.length ≤ 9223372036854775807 := by obtain ⟨_, _, v, _, hb⟩ := hr; exact hb.1.len
  clear hr
  refine calls_q fun Q HQ => ?_
  by_cases h0 : k = 0
  · have hok : padOk l k = false := by unfold padOk; simp [h0]
    unfold padN padL padE at HQ
    rw [hok] at HQ
    subst h0
    go_enter Try.func33, Try.ntmps33
    go_wp2_with fail
    refine (rwrong_any lo rb l e 2 w HR.out (by decide)).mono ?_
    rintro r w2 ⟨rfl, hp⟩
    have HP := Lib.hid hp
    clear hp
    go_wp2_with fail
    exact HQ.out _ _ ⟨rfl, HP.out⟩
  · have hk0 : ((k : Int) == 0) = false := by simp; omega
    by_cases h1 : k ≤ l.length
    · have hok : padOk l k = true := by unfold padOk; simp; exact ⟨h0, h1⟩
      unfold padN padL padE at HQ
      rw [hok] at HQ
      have h1' : ¬ ((l.length : Int) < (k : Int)) := by omega
      go_enter Try.func33, Try.ntmps33
      go_wp2_with fail
      refine (rleft_any lo rb l e w HR.out).mono ?_
      rintro r w2 ⟨rfl, rfl⟩
      go_wp2_with fail
      exact HQ.out _ _ ⟨rfl, HR.out, Fr.refl _ _⟩
    · have hok : padOk l k = false := by unfold padOk; simp; omega
      unfold padN padL padE at HQ
      rw [hok] at HQ
      have h1' : (l.length : Int) < (k : Int) := by omega
      go_enter Try.func33, Try.ntmps33
      go_wp2_with fail
      refine (rleft_any lo rb l e w HR.out).mono ?_
      rintro r w2 ⟨rfl, rfl⟩
      go_wp2_with fail
      refine (rwrong_any lo rb l e 2 _ HR.out (by decide)).mono ?_
      rintro r w2 ⟨rfl, hp⟩
      have HP := Lib.hid hp
      clear hp
      go_wp2_with fail
      exact HQ.out _ _ ⟨rfl, HP.out⟩
end Go.Proofs.Ytphaehponljofaa
