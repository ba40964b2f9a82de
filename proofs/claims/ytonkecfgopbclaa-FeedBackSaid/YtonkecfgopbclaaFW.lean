/- The walks of writeAsks and writeLost. -/
import Derived.Test.YtonkecfgopbclaaFRt
import Derived.Test.YtonkecfgopbclaaWireW2
import Derived.Test.YtonkecfgopbclaaWireW3
import Derived.Test.YtonkecfgopbclaaWireW4
import Derived.Test.YtonkecfgopbclaaCW
namespace Go.Proofs.Ytonkecfgopbclaa
open Go.RowKit

theorem fwnum (B pb : Nat) (ob : Option Nat) (l : List UInt8) (n : Nat) (w : World) (hw : Wr B w pb ob l) (hm : l.length ≤ 140737488300000) (hn : n < 4294967296) :
    Calls Try.prog 24 #[.pointer (some ⟨pb, 0, none⟩), .int .u32 (n : Nat)] w fun e w' => e = .returned (.tuple #[]) ∧ WPost B w pb ob (l ++ bytesL n 4) w' := by
  have h := wnum_any B pb ob l n w hw ⟨by omega, by omega⟩ hm
  rw [Int.toNat_natCast, show (bytesI n 4) = bytesL n 4 from bytesI_n n 4 (by decide)] at h
  exact h
theorem fwbyte (B pb : Nat) (ob : Option Nat) (l : List UInt8) (n : Nat) (w : World) (hw : Wr B w pb ob l) (hm : l.length ≤ 140737488300000) (hn : n < 256) :
    Calls Try.prog 43 #[.pointer (some ⟨pb, 0, none⟩), .int .u8 (n : Nat)] w fun e w' => e = .returned (.tuple #[]) ∧ WPost B w pb ob (l ++ bytesL n 1) w' := by
  have h := wbyte_any B pb ob l n w hw ⟨by omega, by omega⟩ hm
  rw [Int.toNat_natCast, show (bytesI n 1) = bytesL n 1 from bytesI_n n 1 (by decide)] at h
  exact h
theorem fwthree0 (B pb : Nat) (ob : Option Nat) (l : List UInt8) (w : World) (hw : Wr B w pb ob l) (hm : l.length ≤ 140737488300000) :
    Calls Try.prog 44 #[.pointer (some ⟨pb, 0, none⟩), .int .u32 0] w fun e w' => e = .returned (.tuple #[]) ∧ WPost B w pb ob (l ++ bytesL 0 3) w' := by
  have h := wthree_any B pb ob l 0 w hw ⟨by omega, by omega⟩ hm
  rw [show (bytesI (0 : Int).toNat 3) = bytesL 0 3 from bytesI_n 0 3 (by decide)] at h
  exact h
theorem fwshort (B pb : Nat) (ob : Option Nat) (l : List UInt8) (w : World) (hw : Wr B w pb ob l) (hm : l.length ≤ 140737488300000) (x : Int) (hx : Fits 65536 x) :
    Calls Try.prog 45 #[.pointer (some ⟨pb, 0, none⟩), .int .u16 x] w fun e w' => e = .returned (.tuple #[]) ∧ WPost B w pb ob (l ++ bytesL x.toNat 2) w' := by
  have h := wshort_any B pb ob l x w hw hx hm
  rw [show (bytesI x.toNat 2) = bytesL x.toNat 2 from bytesI_n _ 2 (by decide)] at h
  exact h
theorem wpost_fr {B pb : Nat} {ob : Option Nat} {l : List UInt8} {w w' : World} (h : WPost B w pb ob l w') : Fr (WF pb ob) w w' := by
  obtain ⟨_, _, h, _⟩ := h
  exact h
/-- a writer since a call began -/
structure WP (B pb : Nat) (ob0 : Option Nat) (w0 : World) (ob : Option Nat) (l : List UInt8) (w : World) : Prop where
  wr : Wr B w pb ob l
  fr : Fr (WF pb ob0) w0 w
  ob : ob = ob0 ∨ ∃ k, ob = some k ∧ w0.heap.size ≤ k
section
variable {B pb bx : Nat} {o : Obj} {ob0 ob : Option Nat} {w0 w w' : World} {l l' : List UInt8}
theorem WP.new (h : Wr B w pb ob l) : WP B pb ob w ob l w := ⟨h, Fr.refl _ _, .inl rfl⟩
theorem WP.box (h : WP B pb ob0 w0 ob l w) {cs : Array Value} {t : TypeId} : CW B pb w.heap.size (.cells cs t (0, 0)) ob0 w0 ob l (w.alloc (.cells cs t)) := by
  have hf := Fr.alloc w (.cells cs t)
  exact ⟨h.wr.fr0 hf, heap_alloc_new _ _, fun hx => by have := (h.wr.lt _ hx).2; omega, h.fr.trans hf (fun _ hx => hx.elim), h.ob⟩
theorem CW.wp (h : CW B pb bx o ob0 w0 ob l w) : WP B pb ob0 w0 ob l w := ⟨h.wr, h.fr, h.ob⟩
theorem WP.post (h : WP B pb ob0 w0 ob l w) : WPost B w0 pb ob0 l w := ⟨ob, h.wr, h.fr, h.ob⟩
/-- what only grows leaves it -/
theorem WP.fr0 (h : WP B pb ob0 w0 ob l w) (hb : Below w.heap.size w w') : WP B pb ob0 w0 ob l w' :=
  ⟨h.wr.fr0 (Fr.of hb), h.fr.trans (Fr.of hb) (fun _ hx => hx.elim), h.ob⟩
/-- asks that lie below a block -/
def AsB (B : Nat) (w : World) (v : Value) (ak : List (Nat × Nat)) : Prop := AsS w v ak ∧ (0 < ak.length → ∀ k, v.ownBlock = some k → k < B)
theorem AsB.fr {va : Value} {ak : List (Nat × Nat)} (h : AsB B w va ak) {F : Nat → Prop} (hf : Fr F w w') (hF : ∀ b, b < B → ¬ F b) : AsB B w' va ak := by
  obtain ⟨⟨A, c, rfl, h1, h2, h3⟩, h4⟩ := h
  refine ⟨⟨A, c, rfl, h1, h2, fun hp => ?_⟩, h4⟩
  obtain ⟨b, o, rfl, hb, hc⟩ := h3 hp
  refine ⟨b, o, rfl, Nat.lt_of_lt_of_le hb hf.size, fun i hi j u hu => ?_⟩
  rw [World.cell?_of_block (w := w) (a := ⟨b, o + i * 2 + j, none⟩) (hf.block b hb (hF b (h4 (by simpa using hp) b rfl)))]
  exact hc i hi j u hu
theorem WP.asb (h : WP B pb ob0 w0 ob l w) (hw : Wr B w0 pb ob0 l') {va : Value} {ak : List (Nat × Nat)} (ha : AsB B w0 va ak) : AsB B w va ak :=
  ha.fr h.fr (fun b hb hF => by have := (hw.lt b hF).1; omega)
theorem CW.below (h : CW B pb bx o ob0 w0 ob l w) (hb : Below w.heap.size w w') : CW B pb bx o ob0 w0 ob l w' :=
  ⟨h.wr.fr0 (Fr.of hb), (Fr.of hb).heap h.box (fun h => h), h.nb, h.fr.trans (Fr.of hb) (fun _ hx => hx.elim), h.ob⟩
theorem CW.set2 {c0 c1 : Value} {t : TypeId} (h : CW B pb bx (.cells #[c0, c1] t (0, 0)) ob0 w0 ob l w) (hge : w0.heap.size ≤ bx) (x y : Value) : ∀ w', w' = (w.setCell ⟨bx, 0, none⟩ x).setCell ⟨bx, 1, none⟩ y → CW B pb bx (.cells #[x, y] t (0, 0)) ob0 w0 ob l w' := by
  intro w' hw
  obtain ⟨h1, hf⟩ := objs2 h.box x y w' hw
  exact ⟨h.wr.fr hf (fun k hk (hx : k = bx) => h.nb (hx ▸ hk)), h1, h.nb, h.fr.trans hf (fun k (hk : k = bx) => .inr (by omega)), h.ob⟩
theorem CW.cells2 {c0 c1 : Value} {t : TypeId} (h : CW B pb bx (.cells #[c0, c1] t (0, 0)) ob0 w0 ob l w) : w.cell? ⟨bx, 0, none⟩ = some c0 ∧ w.cell? ⟨bx, 1, none⟩ = some c1 := ⟨obj_cell h.box 0, obj_cell h.box 1⟩
end
theorem encAs_step (ak : List (Nat × Nat)) (j : Nat) (h : j < ak.length) : encAs (ak.take (j + 1)) = encAs (ak.take j) ++ encA ak[j] := by
  rw [List.take_succ_eq_append_getElem h, encAs_snoc]
set_option maxHeartbeats 1000000 in
theorem writeasks_any (B pb : Nat) (ob : Option Nat) (l : List UInt8) (va : Value) (ak : List (Nat × Nat)) (w : World) (hw : Wr B w pb ob l) (ha : AsB B w va ak) (hok : ∀ a ∈ ak, okA a) (hl : l.length ≤ 100000) (hn : ak.length ≤ 1000) :
    Calls Try.prog 25 #[.pointer (some ⟨pb, 0, none⟩), va] w fun e w' => e = .returned (.tuple #[]) ∧ WPost B w pb ob (l ++ encAs ak) w' := by
  obtain ⟨A, c, rfl, _, hc2, _⟩ := ha.1.parts
  have HW := Lib.hid hw
  have HA := Lib.hid ha
  have HO := Lib.hid hok
  clear hw ha hok
  refine calls_q fun Q HQ => ?_
  go_enter Try.func25, Try.ntmps25
  go_wp2_with fail
  go_loopw [8] (fun i wr => ∃ (j : Nat) (ob' : Option Nat), j ≤ ak.length ∧ i = .int .i64 j ∧ WP B pb ob w ob' (l ++ encAs (ak.take j)) wr) (fun i _ => ak.length - (intOf i).toNat)
  case atStart => exact ⟨0, ob, Nat.zero_le _, rfl, by simpa [encAs] using WP.new HW.out⟩
  case round =>
    obtain ⟨j, o1, hj, rfl, hs⟩ := hrel
    have HS := Lib.hid hs
    clear hs
    by_cases hlt : j < ak.length
    · obtain ⟨_, _, he, _, _, hp⟩ := (HS.out.asb HW.out HA.out).1.parts
      simp only [Value.slice.injEq, true_and] at he
      obtain ⟨rfl, rfl⟩ := he
      obtain ⟨b, o, rfl, hb, hcell⟩ := hp (by omega)
      obtain ⟨c0, c1⟩ := hcell j hlt
      clear hcell hp
      have h0 : (0 : Int) ≤ (j : Int) := by omega
      have h1 : (j : Int) < (ak.length : Int) := by omega
      have HSt := Lib.hid (encAs_step ak j hlt)
      obtain ⟨hk1, hk2⟩ := HO.out _ (List.getElem_mem hlt)
      have hle : (encAs (ak.take j)).length ≤ 8000 := by rw [encAs_len]; simp; omega
      generalize ak[j] = a at *
      obtain ⟨s, m⟩ := a
      simp only at c0 c1 hk1 hk2
      generalize encAs (ak.take j) = E at *
      have hLn : (l ++ E).length ≤ 108000 := by rw [List.length_append]; omega
      have H1 := Lib.hid (HS.out.box (cs := #[.int .u32 (s : Nat), .int .u8 (m : Nat)]) (t := 68))
      have HLn := Lib.hid hLn
      clear hle hLn HS
      go_wp2_with fail
      generalize wr.alloc (.cells #[.int .u32 (s : Nat), .int .u8 (m : Nat)] 68) = w1 at *
      generalize wr.heap.size = bx at *
      refine (fwnum B pb o1 _ s w1 H1.out.wr (by have := HLn.out; omega) hk1).mono ?_
      rintro e w2 ⟨rfl, hp⟩
      obtain ⟨o2, h2⟩ := H1.out.step hp
      have H2 := Lib.hid h2
      obtain ⟨k0, k1⟩ := h2.cells2
      clear hp h2 H1 c0 c1
      go_wp2_with fail
      refine (fwbyte B pb o2 _ m w2 H2.out.wr (by have := HLn.out; rw [List.length_append, bytesL_len]; omega) hk2).mono ?_
      rintro e w3 ⟨rfl, hp⟩
      obtain ⟨o3, h3⟩ := H2.out.step hp
      have H3 := Lib.hid h3
      clear hp h3 H2 k0 k1
      go_wp2_with fail
      refine (fwthree0 B pb o3 _ w3 H3.out.wr (by have := HLn.out; rw [List.length_append, List.length_append, bytesL_len, bytesL_len]; omega)).mono ?_
      rintro e w4 ⟨rfl, hp⟩
      obtain ⟨o4, h4⟩ := H3.out.step hp
      rw [show l ++ E ++ bytesL s 4 ++ bytesL m 1 ++ bytesL 0 3 = l ++ (E ++ encA (s, m)) by simp [encA], ← HSt.out] at h4
      have H4 := Lib.hid h4
      clear hp h4 H3
      go_wp2_with fail
      go_roundw
      case rel => exact ⟨j + 1, o4, by omega, by go_num, H4.out.wp⟩
      case measure => simp [intOf]; omega
    · have : j = ak.length := by omega
      subst this
      rw [List.take_length] at HS
      go_wp2_with fail
      go_end0
      exact HQ.out _ _ ⟨rfl, HS.out.post⟩
set_option maxHeartbeats 1000000 in
theorem writelost_any (B pb : Nat) (ob : Option Nat) (l : List UInt8) (vl : Value) (lo : List Int) (w : World) (hw : Wr B w pb ob l) (ha : LoG (fun k => k < B) w vl lo) (hok : ∀ x ∈ lo, Fits 65536 x) (hl : l.length ≤ 100000) (hn : (pairsL lo).length ≤ 1000) :
    Calls Try.prog 26 #[.pointer (some ⟨pb, 0, none⟩), vl] w fun e w' => e = .returned (.tuple #[]) ∧ WPost B w pb ob (l ++ encPs (pairsL lo)) w' := by
  obtain ⟨A, c, rfl, _, hc2, _⟩ := LoG.parts ha
  have HW := Lib.hid hw
  have HA := Lib.hid ha
  have HO := Lib.hid (pairs_ok lo hok)
  clear hw ha hok
  refine calls_q fun Q HQ => ?_
  go_enter Try.func26, Try.ntmps26
  go_wp2_with fail
  go_loopw [1] (fun v wr => ∃ (t : List Int) (ps : List (Int × Nat)) (ob' : Option Nat), pairsL lo = ps ++ pairsL t ∧ LoG (fun k => k < B) wr v t ∧ WP B pb ob w ob' (l ++ encPs ps) wr) (fun v _ => slen v)
  case atStart => exact ⟨lo, [], ob, rfl, HA.out, by simpa [encPs] using WP.new HW.out⟩
  case round =>
    obtain ⟨t, ps, o1, hps, hv, hs⟩ := hrel
    obtain ⟨A1, c1, rfl, _, hc3, _⟩ := LoG.parts hv
    have HS := Lib.hid hs
    have HV := Lib.hid hv
    have HP := Lib.hid hps
    clear hs hv hps
    cases t with
    | nil =>
      simp only [List.length_nil]
      go_wp2_with fail
      go_end0
      refine HQ.out _ _ ⟨rfl, ?_⟩
      have := HP.out
      rw [pairsL_nil, List.append_nil] at this
      rw [this]; exact HS.out.post
    | cons x t =>
      have hl0 : (x :: t).length = t.length + 1 := rfl
      rw [hl0] at HV ⊢
      have hsh : (fp x t).2.length ≤ t.length := fp_len x t
      have hpq := HP.out
      rw [pairsL_cons] at hpq
      have hok := HO.out (x, (fp x t).1) (by rw [hpq]; simp)
      have hle : (encPs ps).length ≤ 4000 := by
        have := congrArg List.length hpq
        rw [List.length_append] at this
        rw [encPs_len]; omega
      have hpq2 : pairsL lo = (ps ++ [(x, (fp x t).1)]) ++ pairsL (fp x t).2 := by rw [hpq]; simp
      have HFp := Lib.hid (fun w h => firstpair_any (fun k => k < B) x t (.slice A1 (t.length + 1) c1) w h)
      generalize fp x t = s at *
      obtain ⟨a, t2⟩ := s
      simp only at hsh hok hpq2 HFp
      obtain ⟨hk1, hk2⟩ := hok
      simp only at hk1 hk2
      have HPq := Lib.hid hpq2
      have hLn : (l ++ encPs ps).length ≤ 104000 := by rw [List.length_append]; omega
      have HLn := Lib.hid hLn
      have HSn := Lib.hid (encPs_snoc ps (x, a))
      clear hpq hpq2 hle hLn HP
      generalize encPs ps = E at *
      have h0 : (0 : Int) < (t.length : Int) + 1 := by omega
      have H1 := Lib.hid (HS.out.box (cs := #[.int .u16 0, .int .u16 0]) (t := 82))
      have HV1 := Lib.hid (LoG.below HV.out (below_alloc (.cells #[.int .u16 0, .int .u16 0] 82)))
      have HGe := Lib.hid HS.out.fr.size
      clear HS HV
      go_wp2_with fail
      refine (HFp.out _ HV1.out).mono ?_
      rintro e w3 ⟨u, rfl, hu, hb⟩
      have hge : w.heap.size ≤ wr.heap.size := HGe.out
      have h3 := H1.out.below hb
      have k0 := h3.cells2.1
      have k1 := h3.cells2.2
      have z0 := obj_frozen h3.box 0
      have z1 := obj_frozen h3.box 1
      have hset := h3.set2 hge (.int .u16 x) (.int .u16 (a : Nat)) _ rfl
      have huset : LoG (fun k => k < B) ((w3.setCell ⟨wr.heap.size, 0, none⟩ (.int .u16 x)).setCell ⟨wr.heap.size, 1, none⟩ (.int .u16 (a : Nat))) u t2 := by
        have hBl := (HW.out.lt pb (.inl rfl))
        have hf := (objs2 h3.box (.int .u16 x) (.int .u16 (a : Nat)) _ rfl).2
        exact SVx.fr hu hf (fun k _ hk (hx : k = wr.heap.size) => by omega)
      have HU := Lib.hid huset
      have H4 := Lib.hid hset
      obtain ⟨A2, c2, rfl, _, _, _⟩ := LoG.parts hu
      clear hu hb h3 hset huset H1 HV1 hge HGe
      go_upto_region 3 with fail
      generalize ((w3.setCell ⟨wr.heap.size, 0, none⟩ (.int .u16 x)).setCell ⟨wr.heap.size, 1, none⟩ (.int .u16 (a : Nat))) = w4 at *
      generalize wr.heap.size = bx at *
      clear k0 k1 z0 z1
      obtain ⟨k0, k1⟩ := H4.out.cells2
      go_wp2_with fail
      refine (fwshort B pb o1 _ w4 H4.out.wr (by have := HLn.out; omega) x hk1).mono ?_
      rintro e w5 ⟨rfl, hp⟩
      obtain ⟨o5, h5⟩ := H4.out.step hp
      have H5 := Lib.hid h5
      have HU5 := Lib.hid (show LoG (fun k => k < B) w5 (.slice A2 t2.length c2) t2 from SVx.fr HU.out (wpost_fr hp) (fun k _ hk hF => by have := (H4.out.wr.lt k hF).1; omega))
      clear hp h5 H4 k0 k1 HU
      obtain ⟨k0, k1⟩ := H5.out.cells2
      go_wp2_with fail
      refine (fwshort B pb o5 _ w5 H5.out.wr (by have := HLn.out; rw [List.length_append, bytesL_len]; omega) (a : Nat) ⟨by omega, by omega⟩).mono ?_
      rintro e w6 ⟨rfl, hp⟩
      obtain ⟨o6, h6⟩ := H5.out.step hp
      have HU6 := Lib.hid (show LoG (fun k => k < B) w6 (.slice A2 t2.length c2) t2 from SVx.fr HU5.out (wpost_fr hp) (fun k _ hk hF => by have := (H5.out.wr.lt k hF).1; omega))
      rw [show l ++ E ++ bytesL x.toNat 2 ++ bytesL ((a : Nat) : Int).toNat 2 = l ++ (E ++ encPr (x, a)) by simp [encPr], ← HSn.out] at h6
      have H6 := Lib.hid h6
      clear hp h6 H5 k0 k1 HU5
      go_wp2_with fail
      go_roundw
      case rel => exact ⟨t2, ps ++ [(x, a)], o6, HPq.out, HU6.out, H6.out.wp⟩
      case measure => simp [slen]; omega
end Go.Proofs.Ytonkecfgopbclaa
