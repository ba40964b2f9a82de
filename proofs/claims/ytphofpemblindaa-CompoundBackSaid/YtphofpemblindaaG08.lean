/- Laid together: FW, FWr, FRd. -/
import Derived.Test.YtphofpemblindaaG07
import Derived.Test.YtphofpemblindaaG04
import Derived.Test.YtphofpemblindaaG05
import Derived.Deep.RegionHeld3
import Derived.Deep.CutBlock
/- The walks of writeAsks and writeLost. -/
namespace Go.Proofs.Ytphofpemblindaa
open Go.RowKit

theorem fwnum (B pb : Nat) (ob : Option Nat) (l : List UInt8) (n : Nat) (w : World) (hw : Wr B w pb ob l) (hm : l.length ≤ 140737488300000) (hn : n < 4294967296) :
    Calls Try.prog 75 #[.pointer (some ⟨pb, 0, none⟩), .int .u32 (n : Nat)] w fun e w' => e = .returned (.tuple #[]) ∧ WPost B w pb ob (l ++ bytesL n 4) w' := by
  have h := wnum_any B pb ob l n w hw ⟨by omega, by omega⟩ hm
  rw [Int.toNat_natCast, show (bytesI n 4) = bytesL n 4 from bytesI_n n 4 (by decide)] at h
  exact h
theorem fwbyte (B pb : Nat) (ob : Option Nat) (l : List UInt8) (n : Nat) (w : World) (hw : Wr B w pb ob l) (hm : l.length ≤ 140737488300000) (hn : n < 256) :
    Calls Try.prog 62 #[.pointer (some ⟨pb, 0, none⟩), .int .u8 (n : Nat)] w fun e w' => e = .returned (.tuple #[]) ∧ WPost B w pb ob (l ++ bytesL n 1) w' := by
  have h := wbyte_any B pb ob l n w hw ⟨by omega, by omega⟩ hm
  rw [Int.toNat_natCast, show (bytesI n 1) = bytesL n 1 from bytesI_n n 1 (by decide)] at h
  exact h
theorem fwthree0 (B pb : Nat) (ob : Option Nat) (l : List UInt8) (w : World) (hw : Wr B w pb ob l) (hm : l.length ≤ 140737488300000) :
    Calls Try.prog 83 #[.pointer (some ⟨pb, 0, none⟩), .int .u32 0] w fun e w' => e = .returned (.tuple #[]) ∧ WPost B w pb ob (l ++ bytesL 0 3) w' := by
  have h := wthree_any B pb ob l 0 w hw ⟨by omega, by omega⟩ hm
  rw [show (bytesI (0 : Int).toNat 3) = bytesL 0 3 from bytesI_n 0 3 (by decide)] at h
  exact h
theorem fwshort (B pb : Nat) (ob : Option Nat) (l : List UInt8) (w : World) (hw : Wr B w pb ob l) (hm : l.length ≤ 140737488300000) (x : Int) (hx : Fits 65536 x) :
    Calls Try.prog 64 #[.pointer (some ⟨pb, 0, none⟩), .int .u16 x] w fun e w' => e = .returned (.tuple #[]) ∧ WPost B w pb ob (l ++ bytesL x.toNat 2) w' := by
  have h := wshort_any B pb ob l x w hw hx hm
  rw [show (bytesI x.toNat 2) = bytesL x.toNat 2 from bytesI_n _ 2 (by decide)] at h
  exact h
theorem wpost_fr {B pb : Nat} {ob : Option Nat} {l : List UInt8} {w w' : World} (h : WPost B w pb ob l w') : Fr (WF pb ob) w w' := by
  obtain ⟨_, _, h, _⟩ := h
  exact h
/-- a writer since a call began -/
structure WP (B pb : Nat) (ob0 : Option Nat) (w0 : World) (ob : Option Nat) (l : List UInt8) (w : World) : Prop where
  wr : Wr B w pb ob l
  fr : Fr (WF pb ob0) w0 w
  ob : ob = ob0 ∨ ∃ k, ob = some k ∧ w0.heap.size ≤ k
section
variable {B pb bx : Nat} {o : Obj} {ob0 ob : Option Nat} {w0 w w' : World} {l l' : List UInt8}
theorem WP.new (h : Wr B w pb ob l) : WP B pb ob w ob l w := ⟨h, Fr.refl _ _, .inl rfl⟩
theorem WP.box (h : WP B pb ob0 w0 ob l w) {cs : Array Value} {t : TypeId} : CW B pb w.heap.size (.cells cs t (0, 0)) ob0 w0 ob l (w.alloc (.cells cs t)) := by
  have hf := Fr.alloc w (.cells cs t)
  exact ⟨h.wr.fr0 hf, heap_alloc_new _ _, fun hx => by have := (h.wr.lt _ hx).2; omega, h.fr.trans hf (fun _ hx => hx.elim), h.ob⟩
theorem CW.wp (h : CW B pb bx o ob0 w0 ob l w) : WP B pb ob0 w0 ob l w := ⟨h.wr, h.fr, h.ob⟩
theorem WP.post (h : WP B pb ob0 w0 ob l w) : WPost B w0 pb ob0 l w := ⟨ob, h.wr, h.fr, h.ob⟩
/-- what only grows leaves it -/
theorem WP.fr0 (h : WP B pb ob0 w0 ob l w) (hb : Below w.heap.size w w') : WP B pb ob0 w0 ob l w' :=
  ⟨h.wr.fr0 (Fr.of hb), h.fr.trans (Fr.of hb) (fun _ hx => hx.elim), h.ob⟩
/-- asks that lie below a block -/
def AsB (B : Nat) (w : World) (v : Value) (ak : List (Nat × Nat)) : Prop := AsS w v ak ∧ (0 < ak.length → ∀ k, v.ownBlock = some k → k < B)
theorem AsB.fr {va : Value} {ak : List (Nat × Nat)} (h : AsB B w va ak) {F : Nat → Prop} (hf : Fr F w w') (hF : ∀ b, b < B → ¬ F b) : AsB B w' va ak := by
  obtain ⟨⟨A, c, rfl, h1, h2, h3⟩, h4⟩ := h
  refine ⟨⟨A, c, rfl, h1, h2, fun hp => ?_⟩, h4⟩
  obtain ⟨b, o, rfl, hb, hc⟩ := h3 hp
  refine ⟨b, o, rfl, Nat.lt_of_lt_of_le hb hf.size, fun i hi j u hu => ?_⟩
  rw [World.cell?_of_block (w := w) (a := ⟨b, o + i * 2 + j, none⟩) (hf.block b hb (hF b (h4 (by simpa using hp) b rfl)))]
  exact hc i hi j u hu
theorem WP.asb (h : WP B pb ob0 w0 ob l w) (hw : Wr B w0 pb ob0 l') {va : Value} {ak : List (Nat × Nat)} (ha : AsB B w0 va ak) : AsB B w va ak :=
  ha.fr h.fr (fun b hb hF => by have := (hw.lt b hF).1; omega)
theorem CW.below (h : CW B pb bx o ob0 w0 ob l w) (hb : Below w.heap.size w w') : CW B pb bx o ob0 w0 ob l w' :=
  ⟨h.wr.fr0 (Fr.of hb), (Fr.of hb).heap h.box (fun h => h), h.nb, h.fr.trans (Fr.of hb) (fun _ hx => hx.elim), h.ob⟩
theorem CW.set2 {c0 c1 : Value} {t : TypeId} (h : CW B pb bx (.cells #[c0, c1] t (0, 0)) ob0 w0 ob l w) (hge : w0.heap.size ≤ bx) (x y : Value) : ∀ w', w' = (w.setCell ⟨bx, 0, none⟩ x).setCell ⟨bx, 1, none⟩ y → CW B pb bx (.cells #[x, y] t (0, 0)) ob0 w0 ob l w' := by
  intro w' hw
  obtain ⟨h1, hf⟩ := objs2 h.box x y w' hw
  exact ⟨h.wr.fr hf (fun k hk (hx : k = bx) => h.nb (hx ▸ hk)), h1, h.nb, h.fr.trans hf (fun k (hk : k = bx) => .inr (by omega)), h.ob⟩
theorem CW.cells2 {c0 c1 : Value} {t : TypeId} (h : CW B pb bx (.cells #[c0, c1] t (0, 0)) ob0 w0 ob l w) : w.cell? ⟨bx, 0, none⟩ = some c0 ∧ w.cell? ⟨bx, 1, none⟩ = some c1 := ⟨obj_cell h.box 0, obj_cell h.box 1⟩
end
theorem encAs_step (ak : List (Nat × Nat)) (j : Nat) (h : j < ak.length) : encAs (ak.take (j + 1)) = encAs (ak.take j) ++ encA ak[j] := by
  rw [List.take_succ_eq_append_getElem h, encAs_snoc]
set_option maxHeartbeats 1000000 in
theorem writeasks_any (B pb : Nat) (ob : Option Nat) (l : List UInt8) (va : Value) (ak : List (Nat × Nat)) (w : World) (hw : Wr B w pb ob l) (ha : AsB B w va ak) (hok : ∀ a ∈ ak, okA a) (hl : l.length ≤ 100000) (hn : ak.length ≤ 1000) :
    Calls Try.prog 78 #[.pointer (some ⟨pb, 0, none⟩), va] w fun e w' => e = .returned (.tuple #[]) ∧ WPost B w pb ob (l ++ encAs ak) w' := by
  obtain ⟨A, c, rfl, _, hc2, _⟩ := ha.1.parts
  have HW := Lib.hid hw
  have HA := Lib.hid ha
  have HO := Lib.hid hok
  clear hw ha hok
  refine calls_q fun Q HQ => ?_
  go_enter Try.func78, Try.ntmps78
  go_wp2_with fail
  go_loopw [8] (fun i wr => ∃ (j : Nat) (ob' : Option Nat), j ≤ ak.length ∧ i = .int .i64 j ∧ WP B pb ob w ob' (l ++ encAs (ak.take j)) wr) (fun i _ => ak.length - (intOf i).toNat)
  case atStart => exact ⟨0, ob, Nat.zero_le _, rfl, by simpa [encAs] using WP.new HW.out⟩
  case round =>
    obtain ⟨j, o1, hj, rfl, hs⟩ := hrel
    have HS := Lib.hid hs
    clear hs
    by_cases hlt : j < ak.length
    · obtain ⟨_, _, he, _, _, hp⟩ := (HS.out.asb HW.out HA.out).1.parts
      simp only [Value.slice.injEq, true_and] at he
      obtain ⟨rfl, rfl⟩ := he
      obtain ⟨b, o, rfl, hb, hcell⟩ := hp (by omega)
      obtain ⟨c0, c1⟩ := hcell j hlt
      clear hcell hp
      have h0 : (0 : Int) ≤ (j : Int) := by omega
      have h1 : (j : Int) < (ak.length : Int) := by omega
      have HSt := Lib.hid (encAs_step ak j hlt)
      obtain ⟨hk1, hk2⟩ := HO.out _ (List.getElem_mem hlt)
      have hle : (encAs (ak.take j)).length ≤ 8000 := by rw [encAs_len]; simp; omega
      generalize ak[j] = a at *
      obtain ⟨s, m⟩ := a
      simp only at c0 c1 hk1 hk2
      generalize encAs (ak.take j) = E at *
      have hLn : (l ++ E).length ≤ 108000 := by rw [List.length_append]; omega
      have H1 := Lib.hid (HS.out.box (cs := #[.int .u32 (s : Nat), .int .u8 (m : Nat)]) (t := 57))
      have HLn := Lib.hid hLn
      clear hle hLn HS
      go_wp2_with fail
      generalize wr.alloc (.cells #[.int .u32 (s : Nat), .int .u8 (m : Nat)] 57) = w1 at *
      generalize wr.heap.size = bx at *
      refine (fwnum B pb o1 _ s w1 H1.out.wr (by have := HLn.out; omega) hk1).mono ?_
      rintro e w2 ⟨rfl, hp⟩
      obtain ⟨o2, h2⟩ := H1.out.step hp
      have H2 := Lib.hid h2
      obtain ⟨k0, k1⟩ := h2.cells2
      clear hp h2 H1 c0 c1
      go_wp2_with fail
      refine (fwbyte B pb o2 _ m w2 H2.out.wr (by have := HLn.out; rw [List.length_append, bytesL_len]; omega) hk2).mono ?_
      rintro e w3 ⟨rfl, hp⟩
      obtain ⟨o3, h3⟩ := H2.out.step hp
      have H3 := Lib.hid h3
      clear hp h3 H2 k0 k1
      go_wp2_with fail
      refine (fwthree0 B pb o3 _ w3 H3.out.wr (by have := HLn.out; rw [List.length_append, List.length_append, bytesL_len, bytesL_len]; omega)).mono ?_
      rintro e w4 ⟨rfl, hp⟩
      obtain ⟨o4, h4⟩ := H3.out.step hp
      rw [show l ++ E ++ bytesL s 4 ++ bytesL m 1 ++ bytesL 0 3 = l ++ (E ++ encA (s, m)) by simp [encA], ← HSt.out] at h4
      have H4 := Lib.hid h4
      clear hp h4 H3
      go_wp2_with fail
      go_roundw
      case rel => exact ⟨j + 1, o4, by omega, by go_num, H4.out.wp⟩
      case measure => simp [intOf]; omega
    · have : j = ak.length := by omega
      subst this
      rw [List.take_length] at HS
      go_wp2_with fail
      go_end0
      exact HQ.out _ _ ⟨rfl, HS.out.post⟩
set_option maxHeartbeats 1000000 in
theorem writelost_any (B pb : Nat) (ob : Option Nat) (l : List UInt8) (vl : Value) (lo : List Int) (w : World) (hw : Wr B w pb ob l) (ha : LoG (fun k => k < B) w vl lo) (hok : ∀ x ∈ lo, Fits 65536 x) (hl : l.length ≤ 100000) (hn : (pairsL lo).length ≤ 1000) :
    Calls Try.prog 79 #[.pointer (some ⟨pb, 0, none⟩), vl] w fun e w' => e = .returned (.tuple #[]) ∧ WPost B w pb ob (l ++ encPs (pairsL lo)) w' := by
  obtain ⟨A, c, rfl, _, hc2, _⟩ := LoG.parts ha
  have HW := Lib.hid hw
  have HA := Lib.hid ha
  have HO := Lib.hid (pairs_ok lo hok)
  clear hw ha hok
  refine calls_q fun Q HQ => ?_
  go_enter Try.func79, Try.ntmps79
  go_wp2_with fail
  go_loopw [1] (fun v wr => ∃ (t : List Int) (ps : List (Int × Nat)) (ob' : Option Nat), pairsL lo = ps ++ pairsL t ∧ LoG (fun k => k < B) wr v t ∧ WP B pb ob w ob' (l ++ encPs ps) wr) (fun v _ => slen v)
  case atStart => exact ⟨lo, [], ob, rfl, HA.out, by simpa [encPs] using WP.new HW.out⟩
  case round =>
    obtain ⟨t, ps, o1, hps, hv, hs⟩ := hrel
    obtain ⟨A1, c1, rfl, _, hc3, _⟩ := LoG.parts hv
    have HS := Lib.hid hs
    have HV := Lib.hid hv
    have HP := Lib.hid hps
    clear hs hv hps
    cases t with
    | nil =>
      simp only [List.length_nil]
      go_wp2_with fail
      go_end0
      refine HQ.out _ _ ⟨rfl, ?_⟩
      have := HP.out
      rw [pairsL_nil, List.append_nil] at this
      rw [this]; exact HS.out.post
    | cons x t =>
      have hl0 : (x :: t).length = t.length + 1 := rfl
      rw [hl0] at HV ⊢
      have hsh : (fp x t).2.length ≤ t.length := fp_len x t
      have hpq := HP.out
      rw [pairsL_cons] at hpq
      have hok := HO.out (x, (fp x t).1) (by rw [hpq]; simp)
      have hle : (encPs ps).length ≤ 4000 := by
        have := congrArg List.length hpq
        rw [List.length_append] at this
        rw [encPs_len]; omega
      have hpq2 : pairsL lo = (ps ++ [(x, (fp x t).1)]) ++ pairsL (fp x t).2 := by rw [hpq]; simp
      have HFp := Lib.hid (fun w h => firstpair_any (fun k => k < B) x t (.slice A1 (t.length + 1) c1) w h)
      generalize fp x t = s at *
      obtain ⟨a, t2⟩ := s
      simp only at hsh hok hpq2 HFp
      obtain ⟨hk1, hk2⟩ := hok
      simp only at hk1 hk2
      have HPq := Lib.hid hpq2
      have hLn : (l ++ encPs ps).length ≤ 104000 := by rw [List.length_append]; omega
      have HLn := Lib.hid hLn
      have HSn := Lib.hid (encPs_snoc ps (x, a))
      clear hpq hpq2 hle hLn HP
      generalize encPs ps = E at *
      have h0 : (0 : Int) < (t.length : Int) + 1 := by omega
      have H1 := Lib.hid (HS.out.box (cs := #[.int .u16 0, .int .u16 0]) (t := 126))
      have HV1 := Lib.hid (LoG.below HV.out (below_alloc (.cells #[.int .u16 0, .int .u16 0] 126)))
      have HGe := Lib.hid HS.out.fr.size
      clear HS HV
      go_wp2_with fail
      refine (HFp.out _ HV1.out).mono ?_
      rintro e w3 ⟨u, rfl, hu, hb⟩
      have hge : w.heap.size ≤ wr.heap.size := HGe.out
      have h3 := H1.out.below hb
      have k0 := h3.cells2.1
      have k1 := h3.cells2.2
      have z0 := obj_frozen h3.box 0
      have z1 := obj_frozen h3.box 1
      have hset := h3.set2 hge (.int .u16 x) (.int .u16 (a : Nat)) _ rfl
      have huset : LoG (fun k => k < B) ((w3.setCell ⟨wr.heap.size, 0, none⟩ (.int .u16 x)).setCell ⟨wr.heap.size, 1, none⟩ (.int .u16 (a : Nat))) u t2 := by
        have hBl := (HW.out.lt pb (.inl rfl))
        have hf := (objs2 h3.box (.int .u16 x) (.int .u16 (a : Nat)) _ rfl).2
        exact SVx.fr hu hf (fun k _ hk (hx : k = wr.heap.size) => by omega)
      have HU := Lib.hid huset
      have H4 := Lib.hid hset
      obtain ⟨A2, c2, rfl, _, _, _⟩ := LoG.parts hu
      clear hu hb h3 hset huset H1 HV1 hge HGe
      go_upto_region 3 with fail
      generalize ((w3.setCell ⟨wr.heap.size, 0, none⟩ (.int .u16 x)).setCell ⟨wr.heap.size, 1, none⟩ (.int .u16 (a : Nat))) = w4 at *
      generalize wr.heap.size = bx at *
      clear k0 k1 z0 z1
      obtain ⟨k0, k1⟩ := H4.out.cells2
      go_wp2_with fail
      refine (fwshort B pb o1 _ w4 H4.out.wr (by have := HLn.out; omega) x hk1).mono ?_
      rintro e w5 ⟨rfl, hp⟩
      obtain ⟨o5, h5⟩ := H4.out.step hp
      have H5 := Lib.hid h5
      have HU5 := Lib.hid (show LoG (fun k => k < B) w5 (.slice A2 t2.length c2) t2 from SVx.fr HU.out (wpost_fr hp) (fun k _ hk hF => by have := (H4.out.wr.lt k hF).1; omega))
      clear hp h5 H4 k0 k1 HU
      obtain ⟨k0, k1⟩ := H5.out.cells2
      go_wp2_with fail
      refine (fwshort B pb o5 _ w5 H5.out.wr (by have := HLn.out; rw [List.length_append, bytesL_len]; omega) (a : Nat) ⟨by omega, by omega⟩).mono ?_
      rintro e w6 ⟨rfl, hp⟩
      obtain ⟨o6, h6⟩ := H5.out.step hp
      have HU6 := Lib.hid (show LoG (fun k => k < B) w6 (.slice A2 t2.length c2) t2 from SVx.fr HU5.out (wpost_fr hp) (fun k _ hk hF => by have := (H5.out.wr.lt k hF).1; omega))
      rw [show l ++ E ++ bytesL x.toNat 2 ++ bytesL ((a : Nat) : Int).toNat 2 = l ++ (E ++ encPr (x, a)) by simp [encPr], ← HSn.out] at h6
      have H6 := Lib.hid h6
      clear hp h6 H5 k0 k1 HU5
      go_wp2_with fail
      go_roundw
      case rel => exact ⟨t2, ps ++ [(x, a)], o6, HPq.out, HU6.out, H6.out.wp⟩
      case measure => simp [slen]; omega
end Go.Proofs.Ytphofpemblindaa
/- The walk of feed's Write. -/
namespace Go.Proofs.Ytphofpemblindaa
open Go.RowKit

theorem AsS.b {B : Nat} {w : World} {v : Value} {ak : List (Nat × Nat)} (h : AsS w v ak) (hB : w.heap.size ≤ B) : AsB B w v ak := by
  refine ⟨h, fun hp k hk => ?_⟩
  obtain ⟨A, c, rfl, _, _, h3⟩ := h
  obtain ⟨b, o, rfl, hb, _⟩ := h3 (by simpa using hp)
  simp only [Value.ownBlock, Option.some.injEq] at hk
  omega
abbrev oMsg (k : Int) (se me : Nat) (va vl : Value) : Obj := .cells #[.int .i64 k, .int .u32 (se : Nat), .int .u32 (me : Nat), va, vl] 38 (0, 0)
abbrev oChk (n y : Nat) (v : Value) : Obj := .cells #[.int .u8 (n : Nat), .int .u8 (y : Nat), v] 40 (0, 0)
/-- a message's box, the result's cells, the writer -/
structure FWs (w0 : World) (bx rx pb : Nat) (o : Obj) (va vl : Value) (ak : List (Nat × Nat)) (lo : List Int) (ob : Option Nat) (l : List UInt8) (w : World) : Prop where
  msg : w.heap[bx]? = some o
  res : w.heap[rx]? = some (oChk 0 0 (.slice none 0 0))
  wr : Wr pb w pb ob l
  ha : AsB pb w va ak
  hl : LoG (fun k => k < pb) w vl lo
  below : Below w0.heap.size w0 w
  o0 : w0.heap.size ≤ bx
  o1 : bx < rx
  o2 : rx < pb
section
variable {w0 : World} {bx rx pb : Nat} {o : Obj} {va vl : Value} {ak : List (Nat × Nat)} {lo : List Int} {ob : Option Nat} {l l' : List UInt8} {w w' : World}
theorem FWs.step (h : FWs w0 bx rx pb o va vl ak lo ob l w) (hp : WPost pb w pb ob l' w') : ∃ ob', FWs w0 bx rx pb o va vl ak lo ob' l' w' := by
  obtain ⟨ob', hw, hf, ho⟩ := hp
  have h0 := h.o0; have h1 := h.o1; have h2 := h.o2
  have hge : ∀ k, WF pb ob k → pb ≤ k := fun k hk => (h.wr.lt k hk).1
  refine ⟨ob', hf.heap h.msg (fun hx => by have := hge _ hx; omega), hf.heap h.res (fun hx => by have := hge _ hx; omega), hw, h.ha.fr hf (fun b hb hx => by have := hge _ hx; omega),
    SVx.fr h.hl hf (fun k _ hk hx => by have := hge _ hx; omega), h.below.trans (hf.below h.below.size (fun k hk => by have := hge _ hk; omega)), h0, h1, h2⟩
theorem FWs.after (h : FWs w0 bx rx pb o va vl ak lo ob l w) (hb : Below w.heap.size w w') : FWs w0 bx rx pb o va vl ak lo ob l w' :=
  ⟨(Fr.of hb).heap h.msg (fun h => h), (Fr.of hb).heap h.res (fun h => h), h.wr.fr0 (Fr.of hb), h.ha.fr (Fr.of hb) (fun _ _ h => h), LoG.below h.hl hb, h.below.trans (hb.mono h.below.size), h.o0, h.o1, h.o2⟩
end
theorem cells5m {w : World} {b : Nat} {x0 x1 x2 x3 x4 : Value} {t : TypeId} (h : w.heap[b]? = some (.cells #[x0, x1, x2, x3, x4] t (0, 0))) :
    w.cell? ⟨b, 0, none⟩ = some x0 ∧ w.cell? ⟨b, 1, none⟩ = some x1 ∧ w.cell? ⟨b, 2, none⟩ = some x2 ∧ w.cell? ⟨b, 3, none⟩ = some x3 ∧ w.cell? ⟨b, 4, none⟩ = some x4 :=
  ⟨obj_cell h 0, obj_cell h 1, obj_cell h 2, obj_cell h 3, obj_cell h 4⟩
theorem cells3m {w : World} {b : Nat} {x0 x1 x2 : Value} {t : TypeId} (h : w.heap[b]? = some (.cells #[x0, x1, x2] t (0, 0))) :
    w.cell? ⟨b, 0, none⟩ = some x0 ∧ w.cell? ⟨b, 1, none⟩ = some x1 ∧ w.cell? ⟨b, 2, none⟩ = some x2 ∧ w.frozen? ⟨b, 0, none⟩ = false ∧ w.frozen? ⟨b, 1, none⟩ = false ∧ w.frozen? ⟨b, 2, none⟩ = false :=
  ⟨obj_cell h 0, obj_cell h 1, obj_cell h 2, obj_frozen h 0, obj_frozen h 1, obj_frozen h 2⟩
theorem objs3m {w : World} {b : Nat} {x0 x1 x2 : Value} {t : TypeId} (h : w.heap[b]? = some (.cells #[x0, x1, x2] t (0, 0))) (y0 y1 y2 : Value) :
    ∀ w', w' = ((w.setCell ⟨b, 0, none⟩ y0).setCell ⟨b, 1, none⟩ y1).setCell ⟨b, 2, none⟩ y2 → w'.heap[b]? = some (.cells #[y0, y1, y2] t (0, 0)) ∧ Fr (F1 b) w w' := by
  rintro _ rfl
  have h0 := obj_set h 0 y0
  have h1 := obj_set h0 1 y1
  have h2 := obj_set h1 2 y2
  refine ⟨by simpa using h2, ?_⟩
  have f0 : Fr (F1 b) w (w.setCell ⟨b, 0, none⟩ y0) := Fr.setCell w ⟨b, 0, none⟩ y0
  have f1 : Fr (F1 b) w ((w.setCell ⟨b, 0, none⟩ y0).setCell ⟨b, 1, none⟩ y1) := f0.trans (Fr.setCell _ ⟨b, 1, none⟩ y1) (fun _ h => .inl h)
  exact f1.trans (Fr.setCell _ ⟨b, 2, none⟩ y2) (fun _ h => .inl h)
theorem right_small {m : DM} (h : rightM m = true) (ho : m.Ok) : m.ak.length ≤ 1000 ∧ (pairsL m.lo).length ≤ 1000 := by
  have h1 := right_iffC.1 (back_m h ho).1
  have h2 := encM_len m
  have h3 : (chunkM m).2.2.length = (encM m).length := rfl
  omega
/-- .. beside the mark -/
structure FWm (w0 : World) (bx rx pb mx : Nat) (o om : Obj) (va vl : Value) (ak : List (Nat × Nat)) (lo : List Int) (ob : Option Nat) (l : List UInt8) (w : World) : Prop where
  s : FWs w0 bx rx pb o va vl ak lo ob l w
  m : w.heap[mx]? = some om
theorem FWm.after {w0 : World} {bx rx pb mx : Nat} {o om : Obj} {va vl : Value} {ak : List (Nat × Nat)} {lo : List Int} {ob : Option Nat} {l : List UInt8} {w w' : World} (h : FWm w0 bx rx pb mx o om va vl ak lo ob l w) (hb : Below w.heap.size w w') : FWm w0 bx rx pb mx o om va vl ak lo ob l w' :=
  ⟨h.s.after hb, (Fr.of hb).heap h.m (fun h => h)⟩
theorem FWm.cells {w0 : World} {bx rx pb mx : Nat} {o : Obj} {ty ct : Nat} {va vl : Value} {ak : List (Nat × Nat)} {lo : List Int} {ob : Option Nat} {l : List UInt8} {w : World} (h : FWm w0 bx rx pb mx o (.cells #[.int .u8 (ty : Nat), .int .u8 (ct : Nat)] 140 (0, 0)) va vl ak lo ob l w) :
    FWm w0 bx rx pb mx o (.cells #[.int .u8 (ty : Nat), .int .u8 (ct : Nat)] 140 (0, 0)) va vl ak lo ob l w ∧ w.cell? ⟨mx, 0, none⟩ = some (.int .u8 (ty : Nat)) ∧ w.cell? ⟨mx, 1, none⟩ = some (.int .u8 (ct : Nat)) ∧
      w.cell? ⟨rx, 0, none⟩ = some (.int .u8 0) ∧ w.cell? ⟨rx, 1, none⟩ = some (.int .u8 0) ∧ w.cell? ⟨rx, 2, none⟩ = some (.slice none 0 0) ∧ w.frozen? ⟨rx, 0, none⟩ = false ∧ w.frozen? ⟨rx, 1, none⟩ = false ∧ w.frozen? ⟨rx, 2, none⟩ = false :=
  ⟨h, obj_cell h.m 0, obj_cell h.m 1, obj_cell h.s.res 0, obj_cell h.s.res 1, obj_cell h.s.res 2, obj_frozen h.s.res 0, obj_frozen h.s.res 1, obj_frozen h.s.res 2⟩
/-- what Write answers -/
def FWPost (w : World) (m : DM) (e : Ending) (w' : World) : Prop :=
  ∃ u, e = .returned (.tuple #[.agg #[.int .u8 ((wrCM m).1 : Nat), .int .u8 ((wrCM m).2.1 : Nat), u], .int .i64 (wrEM m)]) ∧ BS w' u (wrCM m).2.2 ∧ Below w.heap.size w w'
/-- .. and where its bytes lie -/
def FWPostX (w : World) (m : DM) (e : Ending) (w' : World) : Prop :=
  ∃ u, e = .returned (.tuple #[.agg #[.int .u8 ((wrCM m).1 : Nat), .int .u8 ((wrCM m).2.1 : Nat), u], .int .i64 (wrEM m)]) ∧ BS w' u (wrCM m).2.2 ∧ Below w.heap.size w w' ∧ NewV w.heap.size u
set_option maxHeartbeats 2000000 in
theorem fwrite_x (k : Int) (se me : Nat) (va vl : Value) (ak : List (Nat × Nat)) (lo : List Int) (w : World) (ha : AsS w va ak) (hl : LoS w vl lo) (hok : DM.Ok ⟨k, se, me, ak, lo⟩) :
    Calls Try.prog 61 #[.agg #[.int .i64 k, .int .u32 (se : Nat), .int .u32 (me : Nat), va, vl]] w (FWPostX w ⟨k, se, me, ak, lo⟩) := by
  obtain ⟨A, c, rfl, _, hc2, _⟩ := ha.parts
  obtain ⟨A2, c2, rfl, _, hc3⟩ := hl.parts
  have HO := Lib.hid hok
  refine calls_q fun Q HQ => ?_
  unfold FWPostX at HQ
  have hb1 := below_alloc (w := w) (oMsg k se me (.slice A ak.length c) (.slice A2 lo.length c2))
  have hx1 := heap_alloc_new w (oMsg k se me (.slice A ak.length c) (.slice A2 lo.length c2))
  have hb2 := hb1.alloc hb1.size (oChk 0 0 (.slice none 0 0))
  have hx2 := heap_alloc_new (w.alloc (oMsg k se me (.slice A ak.length c) (.slice A2 lo.length c2))) (oChk 0 0 (.slice none 0 0))
  have hx1' := (Fr.alloc (w.alloc (oMsg k se me (.slice A ak.length c) (.slice A2 lo.length c2))) (oChk 0 0 (.slice none 0 0))).heap hx1 (fun h => h)
  rw [World.size_alloc] at hx2
  have HA := Lib.hid (ha.below hb2)
  have HL := Lib.hid (hl.below hb2)
  have HB := Lib.hid hb2
  have HX1 := Lib.hid hx1'
  have HX2 := Lib.hid hx2
  have HSz := Lib.hid (show ((w.alloc (oMsg k se me (.slice A ak.length c) (.slice A2 lo.length c2))).alloc (oChk 0 0 (.slice none 0 0))).heap.size = w.heap.size + 1 + 1 by rw [World.size_alloc, World.size_alloc])
  clear ha hl hok hb1 hx1 hb2 hx2 hx1'
  go_enter Try.func61, Try.ntmps61
  go_upto_region 1 with fail
  rw [show (w.alloc (.cells #[.int .i64 k, .int .u32 (se : Nat), .int .u32 (me : Nat), .slice A ak.length c, .slice A2 lo.length c2] 38)).alloc (.cells #[.int .u8 0, .int .u8 0, .slice none 0 0] 40) = (w.alloc (oMsg k se me (.slice A ak.length c) (.slice A2 lo.length c2))).alloc (oChk 0 0 (.slice none 0 0)) from rfl]
  generalize (w.alloc (oMsg k se me (.slice A ak.length c) (.slice A2 lo.length c2))).alloc (oChk 0 0 (.slice none 0 0)) = w1 at *
  generalize hrx : w.heap.size + 1 = rx at *
  generalize hbx : w.heap.size = bx at *
  obtain ⟨k0, k1, k2, k3, k4⟩ := cells5m HX1.out
  go_wp2_with fail
  refine (fright_any k se me _ _ ak lo w1 HA.out HL.out).mono ?_
  rintro e w2 ⟨rfl, hb⟩
  have HA2 := Lib.hid (HA.out.below hb)
  have HL2 := Lib.hid (HL.out.below hb)
  have HX12 := Lib.hid ((Fr.of hb).heap HX1.out (fun h => h))
  have HX22 := Lib.hid ((Fr.of hb).heap HX2.out (fun h => h))
  have HB2 := Lib.hid (show Below w.heap.size w w2 by have := HB.out; rw [← hbx] at this; exact this.trans (hb.mono this.size))
  have HSz2 := Lib.hid (show rx + 1 ≤ w2.heap.size by have := HSz.out; have := hb.size; omega)
  clear hb HA HL HB HX1 HX2 HSz k0 k1 k2 k3 k4
  by_cases hr : rightM ⟨k, se, me, ak, lo⟩ = true
  · rw [hr]
    have HR := Lib.hid hr
    clear hr
    have hs : FWs w bx rx w2.heap.size (oMsg k se me (.slice A ak.length c) (.slice A2 lo.length c2)) (.slice A ak.length c) (.slice A2 lo.length c2) ak lo none [] (w2.alloc (.cells #[.slice none 0 0] 105)) := by
      have hf := below_alloc (w := w2) (.cells #[.slice none 0 0] 105)
      have hsz := HSz2.out
      exact ⟨(Fr.of hf).heap HX12.out (fun h => h), (Fr.of hf).heap HX22.out (fun h => h), wr_new w2, (HA2.out.b (Nat.le_refl _)).fr (Fr.of hf) (fun _ _ h => h), LoG.below (SV.x HL2.out) hf, HB2.out.trans (hf.mono HB2.out.size), by omega, by omega, by omega⟩
    have HS := Lib.hid hs
    clear hs
    have hwf : (wrCM ⟨k, se, me, ak, lo⟩) = (cntM k, typM k, encM ⟨k, se, me, ak, lo⟩) ∧ wrEM ⟨k, se, me, ak, lo⟩ = 0 := by rw [wrCM, wrEM, if_pos HR.out, if_pos HR.out]; exact ⟨rfl, rfl⟩
    rw [hwf.1, hwf.2] at HQ
    clear hwf
    have HSm := Lib.hid (right_small HR.out HO.out)
    have HEn := Lib.hid (show encM ⟨k, se, me, ak, lo⟩ = bytesL se 4 ++ (bytesL me 4 ++ (encAs ak ++ encPs (pairsL lo))) from rfl)
    have HSe := Lib.hid HO.out.se
    have HMe := Lib.hid HO.out.me
    have HAk := Lib.hid HO.out.ak
    have HLo := Lib.hid HO.out.lo
    generalize encM ⟨k, se, me, ak, lo⟩ = E at *
    clear HO HR HA2 HL2 HX12 HX22
    go_upto_region 4 with fail
    generalize w2.alloc (.cells #[.slice none 0 0] 105) = w3 at *
    generalize w2.heap.size = pb at *
    obtain ⟨k0, k1, k2, k3, k4⟩ := cells5m HS.out.msg
    go_wp2_with fail
    refine (fwnum pb pb none _ se w3 HS.out.wr (by simp) HSe.out).mono ?_
    rintro e w4 ⟨rfl, hp⟩
    obtain ⟨o4, h4⟩ := HS.out.step hp
    have H4 := Lib.hid h4
    clear hp h4 HS k0 k1 k2 k3 k4
    obtain ⟨k0, k1, k2, k3, k4⟩ := cells5m H4.out.msg
    go_wp2_with fail
    refine (fwnum pb pb o4 _ me w4 H4.out.wr (by simp [bytesL_len]) HMe.out).mono ?_
    rintro e w5 ⟨rfl, hp⟩
    obtain ⟨o5, h5⟩ := H4.out.step hp
    have H5 := Lib.hid h5
    clear hp h5 H4 k0 k1 k2 k3 k4
    obtain ⟨k0, k1, k2, k3, k4⟩ := cells5m H5.out.msg
    go_wp2_with fail
    refine (writeasks_any pb pb o5 _ _ ak w5 H5.out.wr H5.out.ha HAk.out (by simp [bytesL_len]) HSm.out.1).mono ?_
    rintro e w6 ⟨rfl, hp⟩
    obtain ⟨o6, h6⟩ := H5.out.step hp
    have H6 := Lib.hid h6
    clear hp h6 H5 k0 k1 k2 k3 k4
    obtain ⟨k0, k1, k2, k3, k4⟩ := cells5m H6.out.msg
    go_wp2_with fail
    refine (writelost_any pb pb o6 _ _ lo w6 H6.out.wr H6.out.hl HLo.out (by have := HSm.out.1; simp [bytesL_len, encAs_len]; omega) HSm.out.2).mono ?_
    rintro e w7 ⟨rfl, hp⟩
    obtain ⟨o7, h7⟩ := H6.out.step hp
    rw [show [] ++ bytesL se 4 ++ bytesL me 4 ++ encAs ak ++ encPs (pairsL lo) = E by rw [HEn.out]; simp] at h7
    have H7 := Lib.hid h7
    have HEl := Lib.hid (show E.length ≤ 100000 by have h1 : ak.length ≤ 1000 := HSm.out.1; have h2 : (pairsL lo).length ≤ 1000 := HSm.out.2; rw [HEn.out]; simp only [List.length_append, bytesL_len, encAs_len, encPs_len]; omega)
    clear hp h7 H6 k0 k1 k2 k3 k4 HEn HSm
    obtain ⟨k0, k1, k2, k3, k4⟩ := cells5m H7.out.msg
    go_wp2_with fail
    refine (markof_any k w7).mono ?_
    rintro e w8 ⟨rfl, hb⟩
    have H8 := Lib.hid (H7.out.after hb)
    clear hb H7 k0 k1 k2 k3 k4
    generalize typM k = ty at *
    generalize cntM k = ct at *
    have H9 := Lib.hid (show FWm w bx rx pb w8.heap.size (oMsg k se me (.slice A ak.length c) (.slice A2 lo.length c2)) (.cells #[.int .u8 (ty : Nat), .int .u8 (ct : Nat)] 140 (0, 0)) (.slice A ak.length c) (.slice A2 lo.length c2) ak lo o7 E (w8.alloc (.cells #[.int .u8 (ty : Nat), .int .u8 (ct : Nat)] 140)) from ⟨H8.out.after (below_alloc _), heap_alloc_new w8 _⟩)
    clear H8
    go_upto_region 9 with fail
    generalize w8.alloc (.cells #[.int .u8 (ty : Nat), .int .u8 (ct : Nat)] 140) = w9 at *
    generalize w8.heap.size = mx at *
    have H9d := Lib.hid (H9.out.after (below_drewN (Below.refl _ _) 1))
    obtain ⟨_, m0, m1, r0, r1, r2, q0, q1, q2⟩ := H9.out.cells
    go_region_with (go_at_call 44; refine (wbytes_any pb pb o7 E _ H9d.out.s.wr (by have := HEl.out; omega)).mono ?_; rintro e w10 ⟨u, rfl, hu, hb⟩; obtain ⟨Au, cu, rfl⟩ := own_slice hu; have HU := Lib.hid hu; have h10 := H9d.out.after hb; obtain ⟨_, n0, n1, s0, s1, s2, p0, p1, p2⟩ := h10.cells; have H10 := Lib.hid h10; clear hu h10)
    all_goals
      clear m0 m1 r0 r1 r2 q0 q1 q2 n0 n1 s0 s1 s2 p0 p1 p2
      generalize hW : World.setCell _ _ _ = wf
      obtain ⟨hx, hfx⟩ := objs3m H10.out.s.res _ _ _ wf hW.symm
      clear hW
      obtain ⟨m0, m1, m2, _, _, _⟩ := cells3m hx
      have h0 := H10.out.s.o0
      have h1 := H10.out.s.o1
      have h2 := H10.out.s.o2
      have hux := own_bsx HU.out
      have HNv := Lib.hid (own_newv HU.out (H9.out.s.below.trans (below_drewN (Below.refl _ _) 1)).size)
      have hpb := (H9.out.s.wr.lt pb (.inl rfl)).2
      have hux2 := hux.fr hfx (fun k _ hk (hx : k = rx) => by
        have : w9.heap.size ≤ k := hk
        omega)
      have HUx := Lib.hid hux2.1
      have HBf := Lib.hid (H10.out.s.below.trans (hfx.below H10.out.s.below.size (fun k (hk : k = rx) => by omega)))
      clear hx hfx hux hux2 HU H10 H9 H9d
      go_wp2_with fail
      refine bodyPost_ret (v := .tuple #[.agg #[.int .u8 (ct : Nat), .int .u8 (ty : Nat), .slice Au E.length cu], .int .i64 0]) (by simp [results, Try.results61, go_sem, m0, m1, m2]; try rfl) rfl ?_
      refine HQ.out _ _ ⟨.slice Au E.length cu, rfl, HUx.out, ?_⟩
      have := HBf.out
      have hnv := HNv.out
      rw [hbx] at this hnv; exact ⟨this, hnv⟩
  · have hr' : rightM ⟨k, se, me, ak, lo⟩ = false := by simpa using hr
    have HC := Lib.hid (show wrCM ⟨k, se, me, ak, lo⟩ = (0, 0, []) ∧ wrEM ⟨k, se, me, ak, lo⟩ = 1 by rw [wrCM, wrEM, if_neg hr, if_neg hr]; exact ⟨rfl, rfl⟩)
    rw [hr']
    obtain ⟨m0, m1, m2, z0, z1, z2⟩ := cells3m HX22.out
    clear hr hr'
    go_wp2_with fail
    generalize hW : World.setCell _ _ _ = wf
    obtain ⟨hx, hfx⟩ := objs3m HX22.out _ _ _ wf hW.symm
    clear hW m0 m1 m2 z0 z1 z2
    obtain ⟨m0, m1, m2, z0, z1, z2⟩ := cells3m hx
    refine bodyPost_ret (v := .tuple #[.agg #[.int .u8 0, .int .u8 0, .slice none 0 0], .int .i64 1]) (by simp [results, Try.results61, go_sem, m0, m1, m2]; try rfl) rfl ?_
    have hB := HB2.out.trans (hfx.below HB2.out.size (fun k (hk : k = rx) => by omega))
    rw [hbx] at hB
    exact HQ.out _ _ ⟨.slice none 0 0, by rw [HC.out.1, HC.out.2]; rfl, by rw [HC.out.1]; exact BS.nil _, hB, NewV.nil _ _ _⟩
theorem fwrite_any (k : Int) (se me : Nat) (va vl : Value) (ak : List (Nat × Nat)) (lo : List Int) (w : World) (ha : AsS w va ak) (hl : LoS w vl lo) (hok : DM.Ok ⟨k, se, me, ak, lo⟩) :
    Calls Try.prog 61 #[.agg #[.int .i64 k, .int .u32 (se : Nat), .int .u32 (me : Nat), va, vl]] w (FWPost w ⟨k, se, me, ak, lo⟩) :=
  (fwrite_x k se me va vl ak lo w ha hl hok).mono fun _ _ ⟨u, he, hu, hb, _⟩ => ⟨u, he, hu, hb⟩
end Go.Proofs.Ytphofpemblindaa
/- The walk of feed's Read. -/
namespace Go.Proofs.Ytphofpemblindaa
open Go.RowKit

/-- the result's cells, a message that grows, the reader, the rows of what was read -/
structure FRs (w0 : World) (rx mx lo rb : Nat) (k : Int) (se me : Nat) (va vl : Value) (ak : List (Nat × Nat)) (lz : List Int) (l : List UInt8) (e : Int) (w : World) : Prop where
  res : w.heap[rx]? = some (oMsg 0 0 0 (.slice none 0 0) (.slice none 0 0))
  m : w.heap[mx]? = some (oMsg k se me va vl)
  rd : Rd lo w rb l e
  ha : w.ownsRow (rb + 1) 57 2 va ak.length (cellsA ak)
  hl : w.ownsRow (rb + 1) 58 1 vl lz.length (ints .u16 lz)
  below : Below w0.heap.size w0 w
  o0 : w0.heap.size ≤ rx
  o1 : rx < mx
  o2 : mx < lo
section
variable {w0 : World} {rx mx lo rb : Nat} {k : Int} {se me : Nat} {va vl : Value} {ak : List (Nat × Nat)} {lz : List Int} {l l2 : List UInt8} {e e2 : Int} {w w' : World}
theorem FRs.read (h : FRs w0 rx mx lo rb k se me va vl ak lz l e w) (hp : RPost lo w rb l2 e2 w') : FRs w0 rx mx lo rb k se me va vl ak lz l2 e2 w' := by
  have h0 := h.o0; have h1 := h.o1; have h2 := h.o2
  have h3 := h.rd.lt.1
  exact ⟨hp.2.heap h.res (fun (hx : rx = rb) => by omega), hp.2.heap h.m (fun (hx : mx = rb) => by omega), hp.1, hp.2.own h.ha (fun k hk (hx : k = rb) => by have := (h.ha.lt k hk).1; omega),
    hp.2.own h.hl (fun k hk (hx : k = rb) => by have := (h.hl.lt k hk).1; omega), h.below.trans (hp.2.below h.below.size (fun k (hk : k = rb) => by omega)), h0, h1, h2⟩
theorem FRs.cells (h : FRs w0 rx mx lo rb k se me va vl ak lz l e w) : w.cell? ⟨mx, 0, none⟩ = some (.int .i64 k) ∧ w.cell? ⟨mx, 1, none⟩ = some (.int .u32 (se : Nat)) ∧ w.cell? ⟨mx, 2, none⟩ = some (.int .u32 (me : Nat)) ∧ w.cell? ⟨mx, 3, none⟩ = some va ∧ w.cell? ⟨mx, 4, none⟩ = some vl ∧
    w.frozen? ⟨mx, 0, none⟩ = false ∧ w.frozen? ⟨mx, 1, none⟩ = false ∧ w.frozen? ⟨mx, 2, none⟩ = false ∧ w.frozen? ⟨mx, 3, none⟩ = false ∧ w.frozen? ⟨mx, 4, none⟩ = false :=
  ⟨obj_cell h.m 0, obj_cell h.m 1, obj_cell h.m 2, obj_cell h.m 3, obj_cell h.m 4, obj_frozen h.m 0, obj_frozen h.m 1, obj_frozen h.m 2, obj_frozen h.m 3, obj_frozen h.m 4⟩
theorem FRs.setw (h : FRs w0 rx mx lo rb k se me va vl ak lz l e w) (i : Nat) (u : Value) {k' : Int} {se' me' : Nat} {va' vl' : Value} {ak' : List (Nat × Nat)} {lz' : List Int}
    (ho : (#[Value.int .i64 k, .int .u32 (se : Nat), .int .u32 (me : Nat), va, vl].setIfInBounds i u) = #[Value.int .i64 k', .int .u32 (se' : Nat), .int .u32 (me' : Nat), va', vl'])
    (ha : w.ownsRow (rb + 1) 57 2 va' ak'.length (cellsA ak')) (hl : w.ownsRow (rb + 1) 58 1 vl' lz'.length (ints .u16 lz')) :
    FRs w0 rx mx lo rb k' se' me' va' vl' ak' lz' l e (w.setCell ⟨mx, i, none⟩ u) := by
  have h0 := h.o0; have h1 := h.o1; have h2 := h.o2
  have h3 := h.rd.lt.1
  have hf : Fr (F1 mx) w (w.setCell ⟨mx, i, none⟩ u) := Fr.setCell w ⟨mx, i, none⟩ u
  have hm := obj_set h.m i u
  rw [ho] at hm
  exact ⟨hf.heap h.res (fun (hx : rx = mx) => by omega), hm, h.rd.fr hf (fun k h4 h5 (hx : k = mx) => by omega), hf.own ha (fun k hk (hx : k = mx) => by have := (ha.lt k hk).1; omega),
    hf.own hl (fun k hk (hx : k = mx) => by have := (hl.lt k hk).1; omega), h.below.trans (hf.below h.below.size (fun k (hk : k = mx) => by omega)), h0, h1, h2⟩
end
theorem objs5m {w : World} {b : Nat} {x0 x1 x2 x3 x4 : Value} {t : TypeId} (h : w.heap[b]? = some (.cells #[x0, x1, x2, x3, x4] t (0, 0))) (y0 y1 y2 y3 y4 : Value) :
    ∀ w', w' = ((((w.setCell ⟨b, 0, none⟩ y0).setCell ⟨b, 1, none⟩ y1).setCell ⟨b, 2, none⟩ y2).setCell ⟨b, 3, none⟩ y3).setCell ⟨b, 4, none⟩ y4 → w'.heap[b]? = some (.cells #[y0, y1, y2, y3, y4] t (0, 0)) ∧ Fr (F1 b) w w' := by
  rintro _ rfl
  have h0 := obj_set h 0 y0
  have h1 := obj_set h0 1 y1
  have h2 := obj_set h1 2 y2
  have h3 := obj_set h2 3 y3
  have h4 := obj_set h3 4 y4
  refine ⟨by simpa using h4, ?_⟩
  have f0 : Fr (F1 b) w (w.setCell ⟨b, 0, none⟩ y0) := Fr.setCell w ⟨b, 0, none⟩ y0
  have f1 := f0.trans (Fr.setCell _ ⟨b, 1, none⟩ y1) (fun _ h => .inl h)
  have f2 := f1.trans (Fr.setCell _ ⟨b, 2, none⟩ y2) (fun _ h => .inl h)
  have f3 := f2.trans (Fr.setCell _ ⟨b, 3, none⟩ y3) (fun _ h => .inl h)
  exact f3.trans (Fr.setCell _ ⟨b, 4, none⟩ y4) (fun _ h => .inl h)
/-- what Read answers -/
def FRPost (w : World) (d : DC) (e : Ending) (w' : World) : Prop :=
  ∃ va vl, e = .returned (.tuple #[.agg #[.int .i64 (readM d).k, .int .u32 ((readM d).se : Nat), .int .u32 ((readM d).me : Nat), va, vl], .int .i64 (rdEM d)]) ∧ AsS w' va (readM d).ak ∧ LoS w' vl (readM d).lo ∧ Below w.heap.size w w'
/-- .. and where its rows lie -/
def FRPostX (w : World) (d : DC) (e : Ending) (w' : World) : Prop :=
  ∃ va vl, e = .returned (.tuple #[.agg #[.int .i64 (readM d).k, .int .u32 ((readM d).se : Nat), .int .u32 ((readM d).me : Nat), va, vl], .int .i64 (rdEM d)]) ∧ AsS w' va (readM d).ak ∧ LoS w' vl (readM d).lo ∧ Below w.heap.size w w' ∧ NewV w.heap.size va ∧ NewV w.heap.size vl
theorem readM_fail {d : DC} {x : Int} (h : rdEM d = x) (hx : x ≠ 0) : readM d = DM.zero ∧ rdEM d = x := ⟨readM_kind (by rw [h]; exact hx), h⟩
/-- how the rest is told by the reader -/
theorem read_fin {n y : Nat} {B : List UInt8} (hr : rightC (n, y, B) = true) (hk : kindN n y ≠ 0) :
    (kindN n y = 1 → rdEM (n, y, B) = endE (rawR (4 + 4) B) (rawE (4 + 4) B 0)) ∧
    (kindN n y = 2 → rdEM (n, y, B) = (if rdN 4 (rawR 4 B) = 0 then asksE (rawR (4 + 4) B) (rawE (4 + 4) B 0) else wrongE (rawE (4 + 4) B 0) 2)) ∧
    (kindN n y = 3 → rdEM (n, y, B) = lostE (rawR (4 + 4) B) (rawE (4 + 4) B 0)) ∧
    (kindN n y = 1 ∨ kindN n y = 2 ∨ kindN n y = 3) ∧
    (rdEM (n, y, B) ≠ 0 → readM (n, y, B) = DM.zero) ∧
    (rdEM (n, y, B) = 0 → readM (n, y, B) = restM (kindN n y) (rdN 4 B) (rdN 4 (rawR 4 B)) (rawR (4 + 4) B)) := by
  have hq : rdEM (n, y, B) = if B.length < 8 then 3 else restE (kindN n y) (rdN 4 (rawR 4 B)) (rawR (4 + 4) B) := by
    rw [rdEM, if_pos hr]; exact if_neg hk
  obtain ⟨_, _, h3⟩ := mark_kind n y hk
  have hlen : B.length < 8 → rawR (4 + 4) B = [] ∧ rawE (4 + 4) B 0 = 3 ∧ rdN 4 (rawR 4 B) = 0 := by
    intro h
    refine ⟨by rw [rawR, if_neg (by omega)], by rw [rawE, if_neg (by omega)]; rfl, ?_⟩
    have : rawL 4 (rawR 4 B) = [] := by
      unfold rawL rawR
      split
      · split
        · next h1 h2 => simp at h2; omega
        · rfl
      · simp
    rw [rdN, this]; rfl
  have hlong : ¬ B.length < 8 → rawE (4 + 4) B 0 = 0 := fun h => by rw [rawE, if_pos (by omega)]
  refine ⟨fun h => ?_, fun h => ?_, fun h => ?_, h3, fun h => readM_kind h, fun h => by rw [readM, if_pos h]⟩ <;> rw [hq, h]
  · split
    · next hl => rw [(hlen hl).1, (hlen hl).2.1]; rfl
    · next hl =>
      rw [hlong hl, restE, if_pos rfl, endE]
      by_cases h0 : rawR (4 + 4) B = []
      · rw [if_pos h0, if_pos (by rw [h0]; rfl)]
      · rw [if_neg h0, if_neg (fun hx => h0 (List.eq_nil_of_length_eq_zero hx))]
  · split
    · next hl => rw [(hlen hl).1, (hlen hl).2.1, (hlen hl).2.2]; rfl
    · next hl =>
      rw [hlong hl, restE, if_neg (by decide), if_pos rfl]
      generalize rawR (4 + 4) B = R
      generalize rdN 4 (rawR 4 B) = me
      by_cases hm : me = 0
      · rw [if_pos hm, asksE]
        by_cases h0 : R = [] ∨ R.length % 8 ≠ 0
        · rw [if_pos h0, if_neg (by rintro ⟨_, h1, h2⟩; rcases h0 with h0 | h0; exact h1 (by rw [h0]; rfl); exact h0 h2)]; rfl
        · rw [if_neg h0, if_pos ⟨hm, fun hx => h0 (.inl (List.eq_nil_of_length_eq_zero hx)), by omega⟩]
      · rw [if_neg hm, if_neg (fun h => hm h.1)]; rfl
  · split
    · next hl => rw [(hlen hl).1, (hlen hl).2.1]; rfl
    · next hl =>
      rw [hlong hl, restE, if_neg (by decide), if_neg (by decide), lostE]
      generalize rawR (4 + 4) B = R
      by_cases h0 : R = []
      · rw [if_pos h0, if_neg (fun h => h.1 (by rw [h0]; rfl))]; rfl
      · rw [if_neg h0]
        have h1 : R.length ≠ 0 := fun hx => h0 (List.eq_nil_of_length_eq_zero hx)
        by_cases h2 : okL [] (decPs R) = true
        · rw [if_pos h2, if_pos ⟨h1, h2⟩]
        · rw [if_neg h2, if_neg (fun h => h2 h.2)]
set_option maxHeartbeats 4000000 in
theorem fread_x (n y : Nat) (A : Option Addr) (c : Nat) (B : List UInt8) (w : World) (hv : BS w (.slice A B.length c) B) (hl : B.length ≤ 1000) :
    Calls Try.prog 36 #[.agg #[.int .u8 (n : Nat), .int .u8 (y : Nat), .slice A B.length c]] w (FRPostX w (n, y, B)) := by
  have hb1 := below_alloc (w := w) (oChk n y (.slice A B.length c))
  have hx1 := heap_alloc_new w (oChk n y (.slice A B.length c))
  have hb2 := hb1.alloc hb1.size (oMsg 0 0 0 (.slice none 0 0) (.slice none 0 0))
  have hx2 := heap_alloc_new (w.alloc (oChk n y (.slice A B.length c))) (oMsg 0 0 0 (.slice none 0 0) (.slice none 0 0))
  have hx1' := (Fr.alloc (w.alloc (oChk n y (.slice A B.length c))) (oMsg 0 0 0 (.slice none 0 0) (.slice none 0 0))).heap hx1 (fun h => h)
  rw [World.size_alloc] at hx2
  have HV := Lib.hid (hv.below hb2)
  have HB := Lib.hid hb2
  have HX1 := Lib.hid hx1'
  have HX2 := Lib.hid hx2
  have HSz := Lib.hid (show ((w.alloc (oChk n y (.slice A B.length c))).alloc (oMsg 0 0 0 (.slice none 0 0) (.slice none 0 0))).heap.size = w.heap.size + 1 + 1 by rw [World.size_alloc, World.size_alloc])
  clear hv hb1 hx1 hb2 hx2 hx1'
  have HRt := Lib.hid (fun w => cright_any n y A c B w (by omega))
  have HKd := Lib.hid (fun w => kindof_any n y (.slice A B.length c) w)
  have hE1 : rightC (n, y, B) = false → readM (n, y, B) = DM.zero ∧ rdEM (n, y, B) = 1 := fun h => readM_fail (by rw [rdEM, h]; rfl) (by decide)
  have hE2 : rightC (n, y, B) = true → kindN n y = 0 → readM (n, y, B) = DM.zero ∧ rdEM (n, y, B) = 5 := fun h h2 => readM_fail (by rw [rdEM, if_pos h]; exact if_pos h2) (by decide)
  refine calls_q fun Q HQ => ?_
  unfold FRPostX at HQ
  go_enter Try.func36, Try.ntmps36
  go_upto_region 1 with fail
  rw [show (w.alloc (.cells #[.int .u8 (n : Nat), .int .u8 (y : Nat), .slice A B.length c] 40)).alloc (.cells #[.int .i64 0, .int .u32 0, .int .u32 0, .slice none 0 0, .slice none 0 0] 38) = (w.alloc (oChk n y (.slice A B.length c))).alloc (oMsg 0 0 0 (.slice none 0 0) (.slice none 0 0)) from rfl]
  generalize (w.alloc (oChk n y (.slice A B.length c))).alloc (oMsg 0 0 0 (.slice none 0 0) (.slice none 0 0)) = w1 at *
  generalize hrx : w.heap.size + 1 = rx at *
  generalize hbx : w.heap.size = bx at *
  obtain ⟨k0, k1, k2, _, _, _⟩ := cells3m HX1.out
  go_wp2_with fail
  refine (HRt.out w1).mono ?_
  rintro e w2 ⟨rfl, hb⟩
  have HV2 := Lib.hid (HV.out.below hb)
  have HX12 := Lib.hid ((Fr.of hb).heap HX1.out (fun h => h))
  have HX22 := Lib.hid ((Fr.of hb).heap HX2.out (fun h => h))
  have HB2 := Lib.hid (show Below w.heap.size w w2 by have := HB.out; rw [← hbx] at this; exact this.trans (hb.mono this.size))
  have HSz2 := Lib.hid (show rx + 1 ≤ w2.heap.size by have := HSz.out; have := hb.size; omega)
  clear hb HV HB HX1 HX2 HSz k0 k1 k2
  by_cases hr : rightC (n, y, B) = true
  · rw [hr]
    have hE2 := hE2 hr
    have HR := Lib.hid hr
    clear hE1 hr
    obtain ⟨k0, k1, k2, _, _, _⟩ := cells3m HX12.out
    go_wp2_with fail
    refine (HKd.out w2).mono ?_
    rintro e w3 ⟨rfl, hb⟩
    have HV3 := Lib.hid (HV2.out.below hb)
    have HX13 := Lib.hid ((Fr.of hb).heap HX12.out (fun h => h))
    have HX23 := Lib.hid ((Fr.of hb).heap HX22.out (fun h => h))
    have HB3 := Lib.hid (HB2.out.trans (hb.mono HB2.out.size))
    have HSz3 := Lib.hid (show rx + 1 ≤ w3.heap.size by have := HSz2.out; have := hb.size; omega)
    clear hb HV2 HX12 HX22 HB2 HSz2 k0 k1 k2
    obtain ⟨k, hk⟩ : ∃ k, k = kindN n y := ⟨_, rfl⟩
    rw [← hk] at hE2 ⊢
    have HK := Lib.hid hk
    clear hk
    by_cases hk0 : k = 0
    · subst hk0
      have HEr := Lib.hid (hE2 rfl)
      clear hE2
      have HX24 := Lib.hid ((Fr.alloc w3 (oMsg 0 0 0 (.slice none 0 0) (.slice none 0 0))).heap HX23.out (fun h => h))
      have HB4 := Lib.hid (HB3.out.alloc HB3.out.size (oMsg 0 0 0 (.slice none 0 0) (.slice none 0 0)))
      go_upto_region 4 with fail
      rw [show w3.alloc (.cells #[.int .i64 0, .int .u32 0, .int .u32 0, .slice none 0 0, .slice none 0 0] 38) = w3.alloc (oMsg 0 0 0 (.slice none 0 0) (.slice none 0 0)) from rfl]
      have hmx := heap_alloc_new w3 (oMsg 0 0 0 (.slice none 0 0) (.slice none 0 0))
      generalize w3.alloc (oMsg 0 0 0 (.slice none 0 0) (.slice none 0 0)) = w4 at *
      generalize w3.heap.size = mx at *
      have mk := obj_cell hmx 0
      simp at mk
      clear hmx
      obtain ⟨k0, k1, k2, k3, k4⟩ := cells5m (HX24.out)
      have z0 := obj_frozen (HX24.out) 0
      have z1 := obj_frozen (HX24.out) 1
      have z2 := obj_frozen (HX24.out) 2
      have z3 := obj_frozen (HX24.out) 3
      have z4 := obj_frozen (HX24.out) 4
      go_wp2_with fail
      generalize hW : World.setCell _ _ _ = wf
      obtain ⟨hx, hfx⟩ := objs5m (HX24.out) _ _ _ _ _ wf hW.symm
      clear hW k0 k1 k2 k3 k4 z0 z1 z2 z3 z4
      obtain ⟨m0, m1, m2, m3, m4⟩ := cells5m hx
      refine bodyPost_ret (v := .tuple #[.agg #[.int .i64 0, .int .u32 0, .int .u32 0, .slice none 0 0, .slice none 0 0], .int .i64 5]) (by simp [results, Try.results36, go_sem, m0, m1, m2, m3, m4]; try rfl) rfl ?_
      have hB := (HB4.out).trans (hfx.below (HB4.out).size (fun k (hk : k = rx) => by omega))
      rw [hbx] at hB
      refine HQ.out _ _ ⟨.slice none 0 0, .slice none 0 0, ?_, ?_, ?_, hB, NewV.nil _ _ _, NewV.nil _ _ _⟩
      · rw [HEr.out.1, HEr.out.2]; rfl
      · rw [HEr.out.1]; exact AsS.nil _
      · rw [HEr.out.1]; exact LoS.nil _
    · have HK0 := Lib.hid hk0
      have hk0i : (k == 0) = false := by simp [hk0]
      clear hE2 hk0
      have HB4 := Lib.hid (HB3.out.alloc HB3.out.size (oMsg k 0 0 (.slice none 0 0) (.slice none 0 0)))
      have HX14 := Lib.hid ((Fr.alloc w3 (oMsg k 0 0 (.slice none 0 0) (.slice none 0 0))).heap HX13.out (fun h => h))
      have HX24 := Lib.hid ((Fr.alloc w3 (oMsg k 0 0 (.slice none 0 0) (.slice none 0 0))).heap HX23.out (fun h => h))
      have HM4 := Lib.hid (heap_alloc_new w3 (oMsg k 0 0 (.slice none 0 0) (.slice none 0 0)))
      have HV4 := Lib.hid (HV3.out.below (below_alloc (oMsg k 0 0 (.slice none 0 0) (.slice none 0 0))))
      have HSz4 := Lib.hid (show w3.heap.size < (w3.alloc (oMsg k 0 0 (.slice none 0 0) (.slice none 0 0))).heap.size by rw [World.size_alloc]; omega)
      clear HX13 HX23 HB3 HV3
      go_upto_region 4 with fail
      rw [show w3.alloc (.cells #[.int .i64 k, .int .u32 0, .int .u32 0, .slice none 0 0, .slice none 0 0] 38) = w3.alloc (oMsg k 0 0 (.slice none 0 0) (.slice none 0 0)) from rfl]
      generalize w3.alloc (oMsg k 0 0 (.slice none 0 0) (.slice none 0 0)) = w4 at *
      generalize w3.heap.size = mx at *
      have mk := (cells5m HM4.out).1
      obtain ⟨k0, k1, k2, _, _, _⟩ := cells3m HX14.out
      go_wp2_with fail
      refine (new_any _ B w4 HV4.out (by omega)).mono ?_
      rintro e w5 ⟨rb, rfl, hrd, hb, hsz⟩
      have hfr := Fr.of hb
      have h1 := HSz3.out
      have h2 := HSz4.out
      have HS5 := Lib.hid (show FRs w rx mx w4.heap.size rb k 0 0 (.slice none 0 0) (.slice none 0 0) [] [] B 0 w5 from
        ⟨hfr.heap HX24.out (fun h => h), hfr.heap HM4.out (fun h => h), hrd, World.ownsRow_nil _ _ _ _, World.ownsRow_nil _ _ _ _, HB4.out.trans (hb.mono HB4.out.size), by omega, h1, h2⟩)
      generalize w4.heap.size = lo at *
      clear hrd hb hsz hfr h1 h2 HB4 HX14 HX24 HM4 HV4 k0 k1 k2 mk HSz4
      have hR8 := rawR_add 4 4 B (by decide)
      have hE8 := rawE_add 4 4 B 0 (by decide)
      go_wp2_with fail
      refine (rnum_any lo rb B 0 w5 HS5.out.rd).mono ?_
      rintro e w6 ⟨rfl, hp⟩
      have HS6 := Lib.hid (HS5.out.read hp)
      clear hp HS5
      obtain ⟨_, _, _, _, _, z0, z1, z2, z3, z4⟩ := HS6.out.cells
      obtain ⟨_, k1, _, _, _, _, _, _, _, _⟩ := HS6.out.cells
      have hs7 := HS6.out.setw (k' := k) (se' := rdN 4 B) (me' := 0) (va' := .slice none 0 0) (vl' := .slice none 0 0) (ak' := []) (lz' := []) 1 (.int .u32 (rdN 4 B : Nat)) rfl (World.ownsRow_nil _ _ _ _) (World.ownsRow_nil _ _ _ _)
      have HS7 := Lib.hid hs7
      clear hs7
      go_upto_region 8 with fail
      generalize w6.setCell ⟨mx, 1, none⟩ (.int .u32 (rdN 4 B : Nat)) = w7 at *
      clear HS6 z0 z1 z2 z3 z4 k1
      go_wp2_with fail
      refine (rnum_any lo rb (rawR 4 B) (rawE 4 B 0) w7 HS7.out.rd).mono ?_
      rintro e w8 ⟨rfl, hp⟩
      rw [hR8, hE8] at hp
      have HS8 := Lib.hid (HS7.out.read hp)
      clear hp HS7 hR8 hE8
      obtain ⟨_, _, k2, _, _, z0, z1, z2, z3, z4⟩ := HS8.out.cells
      have hs9 := HS8.out.setw (k' := k) (se' := rdN 4 B) (me' := rdN 4 (rawR 4 B)) (va' := .slice none 0 0) (vl' := .slice none 0 0) (ak' := []) (lz' := []) 2 (.int .u32 (rdN 4 (rawR 4 B) : Nat)) rfl (World.ownsRow_nil _ _ _ _) (World.ownsRow_nil _ _ _ _)
      have HS9 := Lib.hid hs9
      clear hs9
      go_upto_region 9 with fail
      generalize w8.setCell ⟨mx, 2, none⟩ (.int .u32 (rdN 4 (rawR 4 B) : Nat)) = w9 at *
      clear HS8 z0 z1 z2 z3 z4 k2
      have HF := Lib.hid (read_fin (n := n) (y := y) (B := B) HR.out (by rw [← HK.out]; exact HK0.out))
      rw [← HK.out] at HF
      generalize rdN 4 B = se at *
      generalize rdN 4 (rawR 4 B) = me at *
      have HR8 := Lib.hid (show (rawR (4 + 4) B).length ≤ 1000 ∧ (rawR (4 + 4) B).length % 4 = 0 by
        have := (right_iffC.1 HR.out).2.1
        simp only at this
        unfold rawR
        split
        · simp only [List.length_drop]; omega
        · simp)
      generalize rawR (4 + 4) B = R at *
      generalize rawE (4 + 4) B 0 = e8 at *
      generalize rdEM (n, y, B) = EE at *
      generalize readM (n, y, B) = M at *
      obtain ⟨j0, j1, j2, j3, j4, z0, z1, z2, z3, z4⟩ := HS9.out.cells
      go_upto_block 0 with fail
      go_cut [] (fun wx => ∃ va vl ak lz l9 e9, FRs w rx mx lo rb k se me va vl ak lz l9 e9 wx ∧ endE l9 e9 = EE ∧ (EE = 0 → M = ⟨k, se, me, ak, lz⟩))
      case first =>
        obtain ⟨f1, f2, f3, f4, f5, f6⟩ := HF.out
        have HRl := HR8.out.1
        have HR4 := HR8.out.2
        clear HF HR8
        rcases f4 with hk | hk | hk
        · subst hk
          have HFe := Lib.hid (f1 rfl)
          have HFm := Lib.hid f6
          clear f1 f2 f3 f5 f6
          go_wp2_with fail
          go_meet
          case rel => exact ⟨_, _, [], [], R, e8, HS9.out, HFe.out.symm, fun h => by rw [HFm.out h]; simp [restM]⟩
        · subst hk
          have hf2 := f2 rfl
          have HFm := Lib.hid f6
          clear f1 f2 f3 f5 f6
          by_cases hm : me = 0
          · rw [if_pos hm] at hf2
            subst hm
            have HFe := Lib.hid hf2
            clear hf2
            go_wp2_with fail
            refine (readasks_any lo rb R e8 w9 HS9.out.rd HRl).mono ?_
            rintro r w11 ⟨u, zs, rfl, ho, hp, hz⟩
            obtain ⟨Au, cu, rfl⟩ := own_slice ho
            have hs11 := HS9.out.read hp
            have hrb := HS9.out.rd.lt.2
            have HS11 := Lib.hid hs11
            have HZ := Lib.hid hz
            have hs12 := hs11.setw (k' := 2) (se' := se) (me' := 0) (va' := .slice Au zs.length cu) (vl' := .slice none 0 0) (ak' := zs) (lz' := []) 3 (.slice Au zs.length cu) rfl (own_base ho hrb) (World.ownsRow_nil _ _ _ _)
            have HS12 := Lib.hid hs12
            clear ho hp hz hs11 hs12 hrb j0 j1 j2 j3 j4 z0 z1 z2 z3 z4
            obtain ⟨j0, j1, j2, j3, j4, z0, z1, z2, z3, z4⟩ := HS11.out.cells
            go_wp2_with fail
            go_meet
            case rel => exact ⟨_, _, zs, [], [], _, HS12.out, by rw [HFe.out]; rfl, fun h => by rw [HFm.out h, HZ.out (by rw [← HFe.out]; exact h)]; simp [restM]⟩
          · rw [if_neg hm] at hf2
            have HFe0 := Lib.hid hf2
            have hmi : ¬ ((me : Nat) : Int) = 0 := by omega
            clear hf2 hm
            go_wp2_with fail
            refine (rwrong_any lo rb R e8 2 w9 HS9.out.rd (by decide)).mono ?_
            rintro r w10 ⟨rfl, hp⟩
            have HS10 := Lib.hid (HS9.out.read hp)
            have HFe := Lib.hid (show EE = asksE [] (wrongE e8 2) by
              rw [HFe0.out]
              show wrongE e8 2 = wrongE (wrongE e8 2) 2
              unfold wrongE
              split
              · rfl
              · rfl)
            have HNz := Lib.hid (show EE ≠ 0 by rw [HFe0.out]; unfold wrongE; split <;> omega)
            clear hp j0 j1 j2 j3 j4 z0 z1 z2 z3 z4
            obtain ⟨j0, j1, j2, j3, j4, z0, z1, z2, z3, z4⟩ := HS10.out.cells
            go_wp2_with fail
            refine (readasks_any lo rb [] (wrongE e8 2) w10 HS10.out.rd (by simp)).mono ?_
            rintro r w11 ⟨u, zs, rfl, ho, hp, hz⟩
            obtain ⟨Au, cu, rfl⟩ := own_slice ho
            have hs11 := HS10.out.read hp
            have hrb := HS10.out.rd.lt.2
            have HS11 := Lib.hid hs11
            have HZ := Lib.hid hz
            have hs12 := hs11.setw (k' := 2) (se' := se) (me' := me) (va' := .slice Au zs.length cu) (vl' := .slice none 0 0) (ak' := zs) (lz' := []) 3 (.slice Au zs.length cu) rfl (own_base ho hrb) (World.ownsRow_nil _ _ _ _)
            have HS12 := Lib.hid hs12
            clear ho hp hz hs11 hs12 hrb j0 j1 j2 j3 j4 z0 z1 z2 z3 z4
            obtain ⟨j0, j1, j2, j3, j4, z0, z1, z2, z3, z4⟩ := HS11.out.cells
            go_wp2_with fail
            go_meet
            case rel => exact ⟨_, _, zs, [], [], _, HS12.out, by rw [HFe.out]; rfl, fun h => absurd h HNz.out⟩
        · subst hk
          have HFe := Lib.hid (f3 rfl)
          have HFm := Lib.hid f6
          clear f1 f2 f3 f5 f6
          go_wp2_with fail
          refine (readlost_any lo rb R e8 w9 HS9.out.rd HR4 HRl).mono ?_
          rintro r w11 ⟨u, zs, rfl, ho, hp, hz⟩
          obtain ⟨Au, cu, rfl⟩ := own_slice ho
          have hs11 := HS9.out.read hp
          have hrb := HS9.out.rd.lt.2
          have HS11 := Lib.hid hs11
          have HZ := Lib.hid hz
          have hs12 := hs11.setw (k' := 3) (se' := se) (me' := me) (va' := .slice none 0 0) (vl' := .slice Au zs.length cu) (ak' := []) (lz' := zs) 4 (.slice Au zs.length cu) rfl (World.ownsRow_nil _ _ _ _) (own_base ho hrb)
          have HS12 := Lib.hid hs12
          clear ho hp hz hs11 hs12 hrb j0 j1 j2 j3 j4 z0 z1 z2 z3 z4
          obtain ⟨j0, j1, j2, j3, j4, z0, z1, z2, z3, z4⟩ := HS11.out.cells
          go_wp2_with fail
          go_meet
          case rel => exact ⟨_, _, [], zs, [], _, HS12.out, by rw [HFe.out]; rfl, fun h => by rw [HFm.out h, HZ.out (by rw [← HFe.out]; exact h)]; simp [restM]⟩
      case rest =>
        obtain ⟨va, vl, ak, lz, l9, e9, hs, he, hM⟩ := hcut
        obtain ⟨Aa, ca, rfl⟩ := own_slice hs.ha
        obtain ⟨Al, cl, rfl⟩ := own_slice hs.hl
        have HS := Lib.hid hs
        have HE := Lib.hid he
        have HEnd := Lib.hid (rend_any lo rb l9 e9 wc hs.rd)
        rw [he] at HEnd
        clear hs he j0 j1 j2 j3 j4 z0 z1 z2 z3 z4 HS9 HR8
        by_cases hEE : EE = 0
        · have HM := Lib.hid (hM hEE)
          clear hM HF
          subst hEE
          rw [HM.out] at HQ
          obtain ⟨j0, j1, j2, j3, j4, _, _, _, _, _⟩ := HS.out.cells
          obtain ⟨k0, k1, k2, k3, k4⟩ := cells5m HS.out.res
          have z0 := obj_frozen HS.out.res 0
          have z1 := obj_frozen HS.out.res 1
          have z2 := obj_frozen HS.out.res 2
          have z3 := obj_frozen HS.out.res 3
          have z4 := obj_frozen HS.out.res 4
          go_wp2_with fail
          refine HEnd.out.mono ?_
          rintro r w12 ⟨rfl, hw⟩
          subst hw
          go_wp2_with fail
          generalize hW : World.setCell _ _ _ = wf
          obtain ⟨hx, hfx⟩ := objs5m HS.out.res _ _ _ _ _ wf hW.symm
          clear hW k0 k1 k2 k3 k4 z0 z1 z2 z3 z4 j0 j1 j2 j3 j4
          obtain ⟨m0, m1, m2, m3, m4⟩ := cells5m hx
          refine bodyPost_ret (v := .tuple #[.agg #[.int .i64 k, .int .u32 (se : Nat), .int .u32 (me : Nat), .slice Aa ak.length ca, .slice Al lz.length cl], .int .i64 0]) (by simp [results, Try.results36, go_sem, m0, m1, m2, m3, m4]; try rfl) rfl ?_
          have h0 := HS.out.o0
          have h1 := HS.out.o1
          have h2 := HS.out.o2
          have h3 := HS.out.rd.lt.1
          have hB := HS.out.below.trans (hfx.below HS.out.below.size (fun k (hk : k = rx) => by omega))
          rw [hbx] at hB
          have hsz := hbx ▸ HS.out.o0
          refine HQ.out _ _ ⟨_, _, rfl, ?_, ?_, hB, own_newv HS.out.ha (by omega), own_newv HS.out.hl (by omega)⟩
          · exact own_asks rfl (hfx.own HS.out.ha (fun k hk (hx : k = rx) => by have := (HS.out.ha.lt k hk).1; omega))
          · exact own_sv (hfx.own HS.out.hl (fun k hk (hx : k = rx) => by have := (HS.out.hl.lt k hk).1; omega))
        · have HM := Lib.hid (HF.out.2.2.2.2.1 hEE)
          have HNe := Lib.hid hEE
          have hi : (EE == 0) = false := by simp [hEE]
          have hi2 : (EE != 0) = true := by simp [hEE]
          have ho0 := HS.out.o0
          clear hM HF hEE
          go_wp2_with fail
          refine HEnd.out.mono ?_
          rintro r w12 ⟨rfl, hw⟩
          subst hw
          obtain ⟨k0, k1, k2, k3, k4⟩ := cells5m (HS.out.res)
          have z0 := obj_frozen (HS.out.res) 0
          have z1 := obj_frozen (HS.out.res) 1
          have z2 := obj_frozen (HS.out.res) 2
          have z3 := obj_frozen (HS.out.res) 3
          have z4 := obj_frozen (HS.out.res) 4
          go_wp2_with fail
          generalize hW : World.setCell _ _ _ = wf
          obtain ⟨hx, hfx⟩ := objs5m (HS.out.res) _ _ _ _ _ wf hW.symm
          clear hW k0 k1 k2 k3 k4 z0 z1 z2 z3 z4
          obtain ⟨m0, m1, m2, m3, m4⟩ := cells5m hx
          refine bodyPost_ret (v := .tuple #[.agg #[.int .i64 0, .int .u32 0, .int .u32 0, .slice none 0 0, .slice none 0 0], .int .i64 EE]) (by simp [results, Try.results36, go_sem, m0, m1, m2, m3, m4]; try rfl) rfl ?_
          have hB := (HS.out.below).trans (hfx.below (HS.out.below).size (fun k (hk : k = rx) => by omega))
          rw [hbx] at hB
          refine HQ.out _ _ ⟨.slice none 0 0, .slice none 0 0, ?_, ?_, ?_, hB, NewV.nil _ _ _, NewV.nil _ _ _⟩
          · rw [HM.out]; rfl
          · rw [HM.out]; exact AsS.nil _
          · rw [HM.out]; exact LoS.nil _
  · have HEr := Lib.hid (hE1 (by simpa using hr))
    have hr' : rightC (n, y, B) = false := by simpa using hr
    rw [hr']
    clear hE1 hE2 hr hr'
    obtain ⟨k0, k1, k2, k3, k4⟩ := cells5m (HX22.out)
    have z0 := obj_frozen (HX22.out) 0
    have z1 := obj_frozen (HX22.out) 1
    have z2 := obj_frozen (HX22.out) 2
    have z3 := obj_frozen (HX22.out) 3
    have z4 := obj_frozen (HX22.out) 4
    go_wp2_with fail
    generalize hW : World.setCell _ _ _ = wf
    obtain ⟨hx, hfx⟩ := objs5m (HX22.out) _ _ _ _ _ wf hW.symm
    clear hW k0 k1 k2 k3 k4 z0 z1 z2 z3 z4
    obtain ⟨m0, m1, m2, m3, m4⟩ := cells5m hx
    refine bodyPost_ret (v := .tuple #[.agg #[.int .i64 0, .int .u32 0, .int .u32 0, .slice none 0 0, .slice none 0 0], .int .i64 1]) (by simp [results, Try.results36, go_sem, m0, m1, m2, m3, m4]; try rfl) rfl ?_
    have hB := (HB2.out).trans (hfx.below (HB2.out).size (fun k (hk : k = rx) => by omega))
    rw [hbx] at hB
    refine HQ.out _ _ ⟨.slice none 0 0, .slice none 0 0, ?_, ?_, ?_, hB, NewV.nil _ _ _, NewV.nil _ _ _⟩
    · rw [HEr.out.1, HEr.out.2]; rfl
    · rw [HEr.out.1]; exact AsS.nil _
    · rw [HEr.out.1]; exact LoS.nil _
theorem fread_any (n y : Nat) (A : Option Addr) (c : Nat) (B : List UInt8) (w : World) (hv : BS w (.slice A B.length c) B) (hl : B.length ≤ 1000) :
    Calls Try.prog 36 #[.agg #[.int .u8 (n : Nat), .int .u8 (y : Nat), .slice A B.length c]] w (FRPost w (n, y, B)) :=
  (fread_x n y A c B w hv hl).mono fun _ _ ⟨va, vl, he, ha, hl, hb, _⟩ => ⟨va, vl, he, ha, hl, hb⟩
end Go.Proofs.Ytphofpemblindaa
