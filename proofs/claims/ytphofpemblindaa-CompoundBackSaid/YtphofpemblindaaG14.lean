/- Laid together: CmK, CmLg, CmB, RpOp, FOp, CmOp, CmBl, Open. -/
import Derived.Test.YtphofpemblindaaG10
import Derived.Test.YtphofpemblindaaG11
import Derived.Test.YtphofpemblindaaG12
import Derived.Test.YtphofpemblindaaG13
import Derived.Test.YtphofpemblindaaG09
import Derived.Deep.DeepCutAuto
import Derived.Test.YtphofpemblindaaG06
import Derived.Test.YtphofpemblindaaG07
import Derived.Test.YtphofpemblindaaG01
import Derived.ProofKit
import Derived.OpenShut
import Derived.ChangeOld
/- The walk of layer 10's awake. -/
namespace Go.Proofs.Ytphofpemblindaa
open Go.RowKit

def rK : DR := ⟨false, 5, 0, 0, 0, 0, 0, []⟩
def mK1 : DM := ⟨1, 0, 7, [], []⟩
def mK2 : DM := ⟨2, 0, 0, [(8, 0), (9, 0)], []⟩
def mK3 : DM := ⟨3, 0, 7, [], [1, 2]⟩
def cK : DC := (0, 203, [])
def lK : List DI := [⟨1, rK, DM.zero, cZero⟩, ⟨2, DR.zero, mK1, cZero⟩, ⟨2, DR.zero, mK2, cZero⟩, ⟨2, DR.zero, mK3, cZero⟩, ⟨3, DR.zero, DM.zero, cK⟩]
theorem lK_all : lK.all rightI = true := by decide
theorem lK_wr : wrEL lK = 0 ∧ (wrBL lK).length = 68 := by
  have h : joE (lK.map chunkI) = 0 := by decide
  rw [wrEL, wrBL, if_pos lK_all, if_pos lK_all]
  exact ⟨h, by decide⟩
theorem lK_asked : askedL lK = [7, 8, 9] := by decide
theorem lK_lost : lostL 7 lK = 2 := by decide
def tK (b1 b2 : Nat) : List It :=
  [⟨1, rK, none, 0, DM.zero, none, 0, none, 0, cZero, none, 0⟩, ⟨2, DR.zero, none, 0, mK1, none, 0, none, 0, cZero, none, 0⟩,
   ⟨2, DR.zero, none, 0, mK2, some ⟨b1, 0, none⟩, 2, none, 0, cZero, none, 0⟩, ⟨2, DR.zero, none, 0, mK3, none, 0, some ⟨b2, 0, none⟩, 2, cZero, none, 0⟩,
   ⟨3, DR.zero, none, 0, DM.zero, none, 0, none, 0, cK, none, 0⟩]
theorem tK_d (b1 b2 : Nat) : dis (tK b1 b2) = lK := rfl
abbrev oAs : Obj := .cells #[.int .u32 8, .int .u8 0, .int .u32 9, .int .u8 0] 57 (0, 0)
abbrev oLs : Obj := .cells #[.int .u16 1, .int .u16 2] 58 (0, 0)
set_option maxRecDepth 20000 in
theorem tK_its (w : World) : ItS ((((w.alloc oAs).alloc oLs)).alloc (.cells (cellsI (tK w.heap.size (w.heap.size + 1))).toArray 42 (0, 0))) (.slice (some ⟨w.heap.size + 1 + 1, 0, none⟩) 5 5) (tK w.heap.size (w.heap.size + 1)) := by
  have h := own_lit ((w.alloc oAs).alloc oLs) 0 42 17 5 (cellsI (tK w.heap.size (w.heap.size + 1))) rfl (Nat.zero_le _) (by decide)
  rw [World.size_alloc, World.size_alloc] at h
  have ha : AsS ((w.alloc oAs).alloc oLs) (.slice (some ⟨w.heap.size, 0, none⟩) 2 2) mK2.ak :=
    AsS.below (own_asks (base := 0) (n := 2) rfl (own_lit w 0 57 2 2 (cellsA mK2.ak) rfl (Nat.zero_le _) (by decide))) (below_alloc oLs)
  have hl : LoS ((w.alloc oAs).alloc oLs) (.slice (some ⟨w.heap.size + 1, 0, none⟩) 2 2) mK3.lo := by
    have h2 := own_lit (w.alloc oAs) 0 58 1 2 (ints .u16 mK3.lo) rfl (Nat.zero_le _) (by decide)
    rw [World.size_alloc] at h2
    exact own_sv h2
  refine own_items rfl h fun t ht => ?_
  have hb := below_alloc (w := (w.alloc oAs).alloc oLs) (.cells (cellsI (tK w.heap.size (w.heap.size + 1))).toArray 42 (0, 0))
  have okr : rK.Ok := ⟨by decide, by decide, by decide, by decide, by decide, by decide, fun b hb => absurd hb (by simp [rK])⟩
  have ok1 : mK1.Ok := ⟨by decide, by decide, fun a ha => absurd ha (by simp [mK1]), fun a ha => absurd ha (by simp [mK1])⟩
  have ok2 : mK2.Ok := ⟨by decide, by decide, fun a ha => by simp [mK2] at ha; rcases ha with rfl | rfl <;> exact ⟨by decide, by decide⟩, fun a ha => absurd ha (by simp [mK2])⟩
  have ok3 : mK3.Ok := ⟨by decide, by decide, fun a ha => absurd ha (by simp [mK3]), fun a ha => by simp [mK3] at ha; rcases ha with rfl | rfl <;> exact ⟨by decide, by decide⟩⟩
  simp only [tK, List.mem_cons, List.not_mem_nil, or_false] at ht
  rcases ht with rfl | rfl | rfl | rfl | rfl
  · exact ⟨BlS.nil _, AsS.nil _, LoS.nil _, BS.nil _, ⟨okr, dmZero_ok, Nat.zero_lt_succ _, Nat.zero_lt_succ _⟩⟩
  · exact ⟨BlS.nil _, AsS.nil _, LoS.nil _, BS.nil _, ⟨drZero_ok, ok1, Nat.zero_lt_succ _, Nat.zero_lt_succ _⟩⟩
  · exact ⟨BlS.nil _, ha.below hb, LoS.nil _, BS.nil _, ⟨drZero_ok, ok2, Nat.zero_lt_succ _, Nat.zero_lt_succ _⟩⟩
  · exact ⟨BlS.nil _, AsS.nil _, hl.below hb, BS.nil _, ⟨drZero_ok, ok3, Nat.zero_lt_succ _, Nat.zero_lt_succ _⟩⟩
  · exact ⟨BlS.nil _, AsS.nil _, LoS.nil _, BS.nil _, ⟨drZero_ok, dmZero_ok, by decide, by decide⟩⟩
theorem tK_small (b1 b2 : Nat) : (tK b1 b2).length = 5 ∧ ∀ t ∈ tK b1 b2, t.r.bl.length ≤ 1000 ∧ t.m.ak.length ≤ 1000 ∧ t.m.lo.length ≤ 1000 ∧ t.c.2.2.length ≤ 1000 := by
  refine ⟨rfl, fun t ht => ?_⟩
  simp only [tK, List.mem_cons, List.not_mem_nil, or_false] at ht
  rcases ht with rfl | rfl | rfl | rfl | rfl <;> refine ⟨?_, ?_, ?_, ?_⟩ <;> simp [rK, mK1, mK2, mK3, DR.zero, DM.zero, cK]
theorem lK_small : ∀ d ∈ lK, d.r.bl.length ≤ 1000 ∧ d.m.ak.length ≤ 1000 := by
  intro d hd
  simp only [lK, List.mem_cons, List.not_mem_nil, or_false] at hd
  rcases hd with rfl | rfl | rfl | rfl | rfl <;> refine ⟨?_, ?_⟩ <;> simp [rK, mK1, mK2, mK3, DR.zero, DM.zero]
section
variable {ops : Array Oper} {rest : List Oper} {op : Oper} {a : Act} {w : World} {Q : Exit → Act → World → Prop}
theorem wpl_load_item_g {b o : Nat} {t : It} (h0 : Region.wanted op (yielded ops a.tmps) = true ∧ ∃ x, op.op = .load 42 x ∧ a.eval x = .pointer (some ⟨b, o, none⟩)) (hc : w.rangeAt b o t.row)
    (h : wpList Try.prog ops Q rest (a.put op.dst (.agg #[.int .i64 t.k, .bool t.r.sd, .int .u32 (t.r.so : Nat), .int .u32 (t.r.i0 : Nat), .int .u32 (t.r.i1 : Nat), .int .u32 (t.r.i2 : Nat), .int .u32 (t.r.i3 : Nat), .int .u32 (t.r.i4 : Nat), (.slice t.ra t.r.bl.length t.rc), .int .i64 t.m.k, .int .u32 (t.m.se : Nat), .int .u32 (t.m.me : Nat), (.slice t.aa t.m.ak.length t.ac), (.slice t.la t.m.lo.length t.lc), .int .u8 (t.c.1 : Nat), .int .u8 (t.c.2.1 : Nat), (.slice t.ca t.c.2.2.length t.cc)])) w) : wpList Try.prog ops Q (op :: rest) a w := by
  obtain ⟨hg, x, ho, hx⟩ := h0
  refine wpList_step fun K hK => ?_
  rw [if_pos hg]
  exact wp_load_mid 42 x ho b o hx t.row _ hc Try.underlying42 rfl item_size (hK _ _ h)
end
/-- the items of awake, and those that were read of their bytes -/
structure AkS (w0 : World) (v : Value) (ts : List It) (u : Value) (us : List It) (w : World) : Prop where
  v : ItS w v ts
  u : ItS w u us
  below : Below w0.heap.size w0 w
theorem AkS.after {w0 w w' : World} {v u : Value} {ts us : List It} (h : AkS w0 v ts u us w) (hb : Below w.heap.size w w') : AkS w0 v ts u us w' :=
  ⟨h.v.below hb, h.u.below hb, h.below.trans (hb.mono h.below.size)⟩
theorem small_of {its : List It} (h : dis its = lK) : its.length ≤ 1000 ∧ ∀ t ∈ its, t.r.bl.length ≤ 1000 ∧ t.m.ak.length ≤ 1000 := by
  refine ⟨by rw [← dis_len, h]; decide, fun t ht => lK_small t.d (by rw [← h]; exact List.mem_map.2 ⟨t, ht, rfl⟩)⟩
theorem first3 {z : Int} {es : List DC} (h : SpR [] z es) : firstE (z :: es.map errC) = 3 := by
  rw [h.none rfl, firstE]; rfl
def tZ : It := ⟨0, DR.zero, none, 0, DM.zero, none, 0, none, 0, cZero, none, 0⟩
theorem right_tZ (w : World) : Calls Try.prog 8 #[.agg #[.int .i64 0, .bool false, .int .u32 0, .int .u32 0, .int .u32 0, .int .u32 0, .int .u32 0, .int .u32 0, .slice none 0 0, .int .i64 0, .int .u32 0, .int .u32 0, .slice none 0 0, .slice none 0 0, .int .u8 0, .int .u8 0, .slice none 0 0]] w fun e w' => e = .returned (.bool false) ∧ Below w.heap.size w w' :=
  cmright_any tZ w ⟨BlS.nil _, AsS.nil _, LoS.nil _, BS.nil _, ⟨drZero_ok, dmZero_ok, Nat.zero_lt_succ _, Nat.zero_lt_succ _⟩⟩ (Nat.zero_le _)
set_option maxRecDepth 40000 in
set_option maxHeartbeats 8000000 in
theorem awake10_any (w : World) : Calls Try.prog 5 #[] w fun e w' => e = .returned (.bool true) ∧ Below w.heap.size w w' := by
  have HI := Lib.hid (tK_its w)
  have hb1 := below_alloc (w := w) oAs
  have hb2 := hb1.alloc hb1.size oLs
  have HB := Lib.hid (hb2.alloc hb2.size (.cells (cellsI (tK w.heap.size (w.heap.size + 1))).toArray 42 (0, 0)))
  have HSm := Lib.hid (tK_small w.heap.size (w.heap.size + 1))
  have HTd := Lib.hid (tK_d w.heap.size (w.heap.size + 1))
  clear hb1 hb2
  refine calls_q fun Q HQ => ?_
  go_enter Try.func5, Try.ntmps5
  go_upto_region 2 with fail
  rw [show (((w.alloc (.cells #[.int .u32 8, .int .u8 0, .int .u32 9, .int .u8 0] 57)).alloc (.cells #[.int .u16 1, .int .u16 2] 58))).alloc (.cells #[.int .i64 1, .bool false, .int .u32 5, .int .u32 0, .int .u32 0, .int .u32 0, .int .u32 0, .int .u32 0, .slice none 0 0, .int .i64 0, .int .u32 0, .int .u32 0, .slice none 0 0, .slice none 0 0, .int .u8 0, .int .u8 0, .slice none 0 0, .int .i64 2, .bool false, .int .u32 0, .int .u32 0, .int .u32 0, .int .u32 0, .int .u32 0, .int .u32 0, .slice none 0 0, .int .i64 1, .int .u32 0, .int .u32 7, .slice none 0 0, .slice none 0 0, .int .u8 0, .int .u8 0, .slice none 0 0, .int .i64 2, .bool false, .int .u32 0, .int .u32 0, .int .u32 0, .int .u32 0, .int .u32 0, .int .u32 0, .slice none 0 0, .int .i64 2, .int .u32 0, .int .u32 0, .slice (some ⟨w.heap.size, 0, none⟩) 2 2, .slice none 0 0, .int .u8 0, .int .u8 0, .slice none 0 0, .int .i64 2, .bool false, .int .u32 0, .int .u32 0, .int .u32 0, .int .u32 0, .int .u32 0, .int .u32 0, .slice none 0 0, .int .i64 3, .int .u32 0, .int .u32 7, .slice none 0 0, .slice (some ⟨w.heap.size + 1, 0, none⟩) 2 2, .int .u8 0, .int .u8 0, .slice none 0 0, .int .i64 3, .bool false, .int .u32 0, .int .u32 0, .int .u32 0, .int .u32 0, .int .u32 0, .int .u32 0, .slice none 0 0, .int .i64 0, .int .u32 0, .int .u32 0, .slice none 0 0, .slice none 0 0, .int .u8 0, .int .u8 203, .slice none 0 0] 42) = ((w.alloc oAs).alloc oLs).alloc (.cells (cellsI (tK w.heap.size (w.heap.size + 1))).toArray 42 (0, 0)) from rfl]
  generalize ((w.alloc oAs).alloc oLs).alloc (.cells (cellsI (tK w.heap.size (w.heap.size + 1))).toArray 42 (0, 0)) = w1 at *
  generalize tK w.heap.size (w.heap.size + 1) = ts at *
  generalize w.heap.size + 1 + 1 = bl at *
  obtain ⟨hl5, hsm⟩ := HSm.out
  have HLn := Lib.hid hl5
  have HSm2 := Lib.hid hsm
  have HOk := Lib.hid (show ∀ x ∈ lK, x.Ok by rw [← HTd.out]; exact HI.out.okd)
  clear hl5 hsm HSm
  go_wp2_with fail
  refine (cmwrite_any _ ts w1 HI.out (by rw [HLn.out]; decide) (fun t ht => (HSm2.out t ht).2.2.2)).mono ?_
  rintro e w2 ⟨u, rfl, hu, hb⟩
  rw [HTd.out] at hu ⊢
  obtain ⟨A1, c1, rfl, _⟩ := bs_parts hu
  rw [lK_wr.1, lK_wr.2]
  rw [lK_wr.2] at hu
  have HU := Lib.hid hu
  have HI2 := Lib.hid (HI.out.below hb)
  have HB2 := Lib.hid (HB.out.trans (hb.mono HB.out.size))
  clear hu hb HI HB
  go_wp2_with fail
  refine (cmread_any _ _ w2 HU.out).mono ?_
  rintro e w3 ⟨v, z, es, its, rfl, hsp, _, hits, hd, hb⟩
  obtain ⟨hz, hes⟩ := back_l HOk.out lK_wr.1 (by decide) hsp
  rw [hz] at hd ⊢
  rw [if_pos rfl, hes] at hd
  obtain ⟨A2, c2, rfl, _⟩ := hits.parts
  have hil : its.length = 5 := by rw [← dis_len, hd]; rfl
  rw [hil] at hits ⊢
  have HA := Lib.hid (show AkS w (.slice (some ⟨bl, 0, none⟩) 5 5) ts (.slice A2 5 c2) its w3 from ⟨HI2.out.below hb, hits, HB2.out.trans (hb.mono HB2.out.size)⟩)
  have HDi := Lib.hid hd
  clear hsp hits hd hb hz hes hil HI2 HB2
  go_wp2_with fail
  refine (cmread_any (.slice none 0 0) [] w3 (BS.nil _)).mono ?_
  rintro e w4 ⟨v, z2, es2, its2, rfl, hsp, _, hits, _, hb⟩
  rw [first3 hsp]
  obtain ⟨A3, c3, rfl, _⟩ := hits.parts
  have HA4 := Lib.hid (HA.out.after hb)
  clear hsp hits hb HA
  generalize its2.length = l3 at *
  go_wp2_with fail
  refine (cmown_any _ its w4 HA4.out.u (small_of HDi.out).1 (small_of HDi.out).2).mono ?_
  rintro e w5 ⟨u5, os5, rfl, h5, hd5, hb⟩
  have HA5 := Lib.hid (HA4.out.after hb)
  have HO5 := Lib.hid h5
  have HD5 := Lib.hid (hd5.trans HDi.out)
  clear h5 hd5 hb HA4
  go_wp2_with fail
  refine (cmown_any _ ts w5 HA5.out.v (small_of HTd.out).1 (small_of HTd.out).2).mono ?_
  rintro e w6 ⟨u6, os6, rfl, h6, hd6, hb⟩
  have HA6 := Lib.hid (HA5.out.after hb)
  have HO56 := Lib.hid (HO5.out.below hb)
  have HO6 := Lib.hid h6
  have HD6 := Lib.hid (hd6.trans HTd.out)
  clear h6 hd6 hb HA5 HO5
  go_wp2_with fail
  refine (cmsame_is (r := true) u5 u6 os5 os6 w6 HO56.out HO6.out ⟨fun _ => HD5.out.trans HD6.out.symm, fun _ => rfl⟩).mono ?_
  rintro e w7 ⟨rfl, hb⟩
  have HA7 := Lib.hid (HA6.out.after hb)
  clear hb HA6 HO56 HO6
  go_wp2_with fail
  refine (asked_any _ ts w7 HA7.out.v (by rw [HLn.out]; decide) (fun t ht => (HSm2.out t ht).2.1)).mono ?_
  rintro e w8 ⟨u8, rfl, h8, hb⟩
  rw [HTd.out, lK_asked] at h8
  have HA8 := Lib.hid ((HA7.out.after hb).after (below_alloc (.cells #[.int .u32 7, .int .u32 8, .int .u32 9] 29)))
  have HN8 := Lib.hid (h8.below (below_alloc (.cells #[.int .u32 7, .int .u32 8, .int .u32 9] 29)))
  have HL8 := Lib.hid (own_sv (own_lit w8 0 29 1 3 [.int .u32 7, .int .u32 8, .int .u32 9] rfl (Nat.zero_le _) (by decide)))
  clear h8 hb HA7
  go_wp2_with fail
  refine (nums_is (r := true) u8 _ [7, 8, 9] [7, 8, 9] _ HN8.out HL8.out ⟨fun _ => rfl, fun _ => rfl⟩).mono ?_
  rintro e w9 ⟨rfl, hb⟩
  have HA9 := Lib.hid (HA8.out.after hb)
  clear hb HA8 HN8 HL8
  go_wp2_with fail
  refine (lost_any _ ts 7 w9 HA9.out.v (by rw [HLn.out]; decide) (fun t ht => (HSm2.out t ht).2.2.1)).mono ?_
  rintro e w10 ⟨rfl, hb⟩
  rw [HTd.out, lK_lost]
  have HA10 := Lib.hid (HA9.out.after hb)
  clear hb HA9
  have hp0 : 0 < ts.length := by rw [HLn.out]; decide
  have hrg := HA10.out.v.range 0 hp0
  rw [Nat.zero_mul, Nat.zero_add] at hrg
  have HRg := Lib.hid hrg
  have HRt := Lib.hid (show rightI ts[0].d = true from List.all_eq_true.1 lK_all _ (by rw [← HTd.out]; exact List.mem_map.2 ⟨_, List.getElem_mem hp0, rfl⟩))
  have HOt := Lib.hid (HA10.out.v.2 _ (List.getElem_mem hp0))
  have HLt := Lib.hid (HSm2.out _ (List.getElem_mem hp0)).2.2.2
  clear hrg
  generalize (ts[0]'hp0) = t0 at *
  clear hp0
  go_wp2_with (with_reducible refine wpl_load_item_g ?_ HRg.out ?_
               focus exact ⟨rfl, _, rfl, rfl⟩)
  refine (cmright_r HOt.out HLt.out).mono ?_
  rintro e w11 ⟨rfl, hb⟩
  rw [HRt.out]
  have HA11 := Lib.hid (HA10.out.after hb)
  clear hb HA10 HRg HOt HLt HRt
  go_wp2_with fail
  refine (right_tZ w11).mono ?_
  rintro e w12 ⟨rfl, hb⟩
  have HA12 := Lib.hid (HA11.out.after hb)
  clear hb HA11
  go_wp2_with fail
  exact HQ.out _ _ ⟨rfl, HA12.out.below⟩
end Go.Proofs.Ytphofpemblindaa
/- The walk of large. -/
namespace Go.Proofs.Ytphofpemblindaa
open Go.RowKit

/-- few items, of few blocks, asks, lost numbers, and bytes -/
def fewT (t : It) : Bool := decide (t.r.bl.length ≤ 300) && (decide (t.m.ak.length ≤ 300) && (decide (t.m.lo.length ≤ 300) && decide (t.c.2.2.length ≤ 400)))
def fewI (ts : List It) : Bool := decide (ts.length ≤ 20) && ts.all fewT
theorem fewI_iff {ts : List It} : fewI ts = true ↔ ts.length ≤ 20 ∧ ∀ t ∈ ts, t.r.bl.length ≤ 300 ∧ t.m.ak.length ≤ 300 ∧ t.m.lo.length ≤ 300 ∧ t.c.2.2.length ≤ 400 := by
  simp [fewI, fewT]
set_option maxRecDepth 20000 in
set_option maxHeartbeats 4000000 in
theorem cmlarge_any (v : Value) (ts : List It) (w : World) (h : ItS w v ts) :
    Calls Try.prog 6 #[v] w fun e w' => e = .returned (.bool (!fewI ts)) ∧ Below w.heap.size w w' := by
  have HT := Lib.hid h
  obtain ⟨A, c, rfl, hc, hcm, hA⟩ := h.parts
  have HA := Lib.hid hA
  clear h hA
  refine calls_q fun Q HQ => ?_
  by_cases hl : (20 : Int) < (ts.length : Int)
  · have HF := Lib.hid (show (!fewI ts) = true by rw [fewI, decide_eq_false (by omega)]; rfl)
    go_enter Try.func6, Try.ntmps6
    go_wp2_with fail
    exact HQ.out _ _ ⟨ret_bool HF.out.symm, Below.refl _ _⟩
  · have HF := Lib.hid (show (!fewI ts) = !ts.all fewT by rw [fewI, decide_eq_true (by omega)]; rfl)
    go_enter Try.func6, Try.ntmps6
    go_wp2_with fail
    go_loopw [10] (fun i wr => ∃ j : Nat, j ≤ ts.length ∧ i = .int .i64 j ∧ (∀ k (h : k < ts.length), k < j → fewT ts[k] = true) ∧ Below w.heap.size w wr) (fun i _ => ts.length - (intOf i).toNat)
    case atStart => exact ⟨0, Nat.zero_le _, rfl, fun k _ hk => by omega, Below.refl _ _⟩
    case round =>
      obtain ⟨j, hj, rfl, hall, hb⟩ := hrel
      have HAl := Lib.hid hall
      have HB := Lib.hid hb
      clear hall hb
      by_cases hlt : j < ts.length
      · obtain ⟨b, o, rfl, hbl⟩ := HA.out (by omega)
        have HRg := Lib.hid ((HT.out.below HB.out).range j hlt)
        have hbl2 := Nat.lt_of_lt_of_le hbl HB.out.size
        have h0 : (0 : Int) ≤ (j : Int) := by omega
        have h1 : (j : Int) < (ts.length : Int) := by omega
        have HNo := Lib.hid (fun hf : fewT ts[j] = false => (show (!fewI ts) = true by rw [HF.out, List.all_eq_false.2 ⟨ts[j], List.getElem_mem hlt, by simp [hf]⟩]; rfl))
        have HYes := Lib.hid (fun hf : fewT ts[j] = true => (show ∀ k (h : k < ts.length), k < j + 1 → fewT ts[k] = true from fun k hk hkj => by
          by_cases hkj2 : k = j
          · subst hkj2; exact hf
          · exact HAl.out k hk (by omega)))
        generalize (ts[j]'hlt) = t at *
        have HB2 := Lib.hid (HB.out.alloc HB.out.size (.cells #[.int .i64 t.k, .bool t.r.sd, .int .u32 (t.r.so : Nat), .int .u32 (t.r.i0 : Nat), .int .u32 (t.r.i1 : Nat), .int .u32 (t.r.i2 : Nat), .int .u32 (t.r.i3 : Nat), .int .u32 (t.r.i4 : Nat), (.slice t.ra t.r.bl.length t.rc), .int .i64 t.m.k, .int .u32 (t.m.se : Nat), .int .u32 (t.m.me : Nat), (.slice t.aa t.m.ak.length t.ac), (.slice t.la t.m.lo.length t.lc), .int .u8 (t.c.1 : Nat), .int .u8 (t.c.2.1 : Nat), (.slice t.ca t.c.2.2.length t.cc)] 42))
        have HX := Lib.hid (heap_alloc_new wr (.cells #[.int .i64 t.k, .bool t.r.sd, .int .u32 (t.r.so : Nat), .int .u32 (t.r.i0 : Nat), .int .u32 (t.r.i1 : Nat), .int .u32 (t.r.i2 : Nat), .int .u32 (t.r.i3 : Nat), .int .u32 (t.r.i4 : Nat), (.slice t.ra t.r.bl.length t.rc), .int .i64 t.m.k, .int .u32 (t.m.se : Nat), .int .u32 (t.m.me : Nat), (.slice t.aa t.m.ak.length t.ac), (.slice t.la t.m.lo.length t.lc), .int .u8 (t.c.1 : Nat), .int .u8 (t.c.2.1 : Nat), (.slice t.ca t.c.2.2.length t.cc)] 42))
        clear HB
        rcases (show ((300 : Int) < (t.r.bl.length : Int)) ∨ (((t.r.bl.length : Int) ≤ 300) ∧ (300 : Int) < (t.m.ak.length : Int)) ∨ (((t.r.bl.length : Int) ≤ 300) ∧ ((t.m.ak.length : Int) ≤ 300) ∧ (300 : Int) < (t.m.lo.length : Int)) ∨
            (((t.r.bl.length : Int) ≤ 300) ∧ ((t.m.ak.length : Int) ≤ 300) ∧ ((t.m.lo.length : Int) ≤ 300) ∧ (400 : Int) < (t.c.2.2.length : Int)) ∨ (((t.r.bl.length : Int) ≤ 300) ∧ ((t.m.ak.length : Int) ≤ 300) ∧ ((t.m.lo.length : Int) ≤ 300) ∧ ((t.c.2.2.length : Int) ≤ 400)) by omega)
          with g1 | ⟨g1, g2⟩ | ⟨g1, g2, g3⟩ | ⟨g1, g2, g3, g4⟩ | ⟨g1, g2, g3, g4⟩
        rotate_right
        · have HY := Lib.hid (HYes.out (by simp [fewT]; omega))
          clear HNo HYes
          go_wp2_with (first
              | (with_reducible refine wpl_load_item ?_ HRg.out ?_
                 focus exact ⟨rfl, _, rfl, rfl⟩)
              | (with_reducible refine wpl_new_item (t := t) ?_ ?_ ?_
                 focus exact ⟨rfl, _, _, rfl, rfl, rfl⟩
                 focus rfl
                 generalize wr.alloc (.cells #[.int .i64 t.k, .bool t.r.sd, .int .u32 (t.r.so : Nat), .int .u32 (t.r.i0 : Nat), .int .u32 (t.r.i1 : Nat), .int .u32 (t.r.i2 : Nat), .int .u32 (t.r.i3 : Nat), .int .u32 (t.r.i4 : Nat), (.slice t.ra t.r.bl.length t.rc), .int .i64 t.m.k, .int .u32 (t.m.se : Nat), .int .u32 (t.m.me : Nat), (.slice t.aa t.m.ak.length t.ac), (.slice t.la t.m.lo.length t.lc), .int .u8 (t.c.1 : Nat), .int .u8 (t.c.2.1 : Nat), (.slice t.ca t.c.2.2.length t.cc)] 42) = w1 at *
                 obtain ⟨_, _, _, _, _, _, _, _, k8, _, _, _, k12, k13, _, _, k16⟩ := cells17 HX.out))
          go_roundw
          case rel => exact ⟨j + 1, by omega, by go_num, HY.out, HB2.out⟩
          case measure => simp [intOf]; omega
        all_goals
          have HN := Lib.hid (HNo.out (by simp [fewT]; omega))
          clear HNo HYes
          go_wp2_with (first
              | (with_reducible refine wpl_load_item ?_ HRg.out ?_
                 focus exact ⟨rfl, _, rfl, rfl⟩)
              | (with_reducible refine wpl_new_item (t := t) ?_ ?_ ?_
                 focus exact ⟨rfl, _, _, rfl, rfl, rfl⟩
                 focus rfl
                 generalize wr.alloc (.cells #[.int .i64 t.k, .bool t.r.sd, .int .u32 (t.r.so : Nat), .int .u32 (t.r.i0 : Nat), .int .u32 (t.r.i1 : Nat), .int .u32 (t.r.i2 : Nat), .int .u32 (t.r.i3 : Nat), .int .u32 (t.r.i4 : Nat), (.slice t.ra t.r.bl.length t.rc), .int .i64 t.m.k, .int .u32 (t.m.se : Nat), .int .u32 (t.m.me : Nat), (.slice t.aa t.m.ak.length t.ac), (.slice t.la t.m.lo.length t.lc), .int .u8 (t.c.1 : Nat), .int .u8 (t.c.2.1 : Nat), (.slice t.ca t.c.2.2.length t.cc)] 42) = w1 at *
                 obtain ⟨_, _, _, _, _, _, _, _, k8, _, _, _, k12, k13, _, _, k16⟩ := cells17 HX.out))
          exact HQ.out _ _ ⟨ret_bool HN.out.symm, HB2.out⟩
      · have : j = ts.length := by omega
        subst this
        have HN := Lib.hid (show (!fewI ts) = false by
          rw [HF.out, List.all_eq_true.2 (fun t ht => by obtain ⟨k, hk, rfl⟩ := List.getElem_of_mem ht; exact HAl.out k hk hk)]; rfl)
        go_wp2_with fail
        exact HQ.out _ _ ⟨ret_bool HN.out.symm, HB.out⟩
end Go.Proofs.Ytphofpemblindaa
/- The walk of CompoundBack. -/
namespace Go.Proofs.Ytphofpemblindaa
open Go.RowKit

/-- two rows of items, and bytes, that stay -/
structure CbS (w0 : World) (v : Value) (ts : List It) (u : Value) (us : List It) (vb : Value) (B : List UInt8) (w : World) : Prop where
  v : ItS w v ts
  u : ItS w u us
  b : BS w vb B
  below : Below w0.heap.size w0 w
theorem CbS.after {w0 w w' : World} {v u vb : Value} {ts us : List It} {B : List UInt8} (h : CbS w0 v ts u us vb B w) (hb : Below w.heap.size w w') : CbS w0 v ts u us vb B w' :=
  ⟨h.v.below hb, h.u.below hb, h.b.below hb, h.below.trans (hb.mono h.below.size)⟩
theorem itemC_small {d : DC} (h : d.2.2.length ≤ 1000) : (itemC d).c.2.2.length ≤ 1000 := by
  unfold itemC
  split
  · exact Nat.zero_le _
  · split
    · exact Nat.zero_le _
    · exact h
theorem rdi_all {b : List UInt8} {z : Int} {es : List DC} {its : List It} (hsp : SpR b z es) (hd : dis its = (if firstE (z :: es.map errC) = 0 then es.map itemC else [])) :
    ∀ t ∈ its, rightI t.d = true ∧ t.c.2.2.length ≤ 1000 := by
  intro t ht
  have hm : t.d ∈ dis its := List.mem_map.2 ⟨t, ht, rfl⟩
  rw [hd] at hm
  split at hm
  · next h0 =>
    obtain ⟨d, hd2, he⟩ := List.mem_map.1 hm
    have hall := firstE_zero.1 h0
    have hz : z = 0 := hall z (List.mem_cons_self ..)
    have hed : errC d = 0 := hall _ (List.mem_cons_of_mem _ (List.mem_map.2 ⟨d, hd2, rfl⟩))
    have hr := (right_iffC.1 (List.all_eq_true.1 (hsp.fine hz).1 d hd2)).2.2
    refine ⟨by rw [← he]; exact read_rightI hed, ?_⟩
    have : t.c = (itemC d).c := by rw [he]; rfl
    rw [this]
    exact itemC_small (by omega)
  · cases hm
theorem wr_nil : wrBL [] = [] := by decide
set_option maxRecDepth 40000 in
set_option maxHeartbeats 8000000 in
theorem cback10_any (v : Value) (ts : List It) (u : Value) (us : List It) (vb : Value) (B : List UInt8) (w : World) (h1 : ItS w v ts) (h2 : ItS w u us) (h3 : BS w vb B) :
    Calls Try.prog 3 #[v, u, vb] w fun e w' => e = .returned (.bool true) ∧ Below w.heap.size w w' := by
  obtain ⟨A1, c1, rfl, _⟩ := h1.parts
  obtain ⟨A2, c2, rfl, _⟩ := h2.parts
  obtain ⟨A3, c3, rfl, _⟩ := bs_parts h3
  have HS := Lib.hid (show CbS w _ ts _ us _ B w from ⟨h1, h2, h3, Below.refl _ _⟩)
  have HO1 := Lib.hid h1.okd
  have HO2 := Lib.hid h2.okd
  have HL1 := Lib.hid (dis_len ts)
  clear h1 h2 h3
  refine calls_q fun Q HQ => ?_
  go_enter Try.func3, Try.ntmps3
  go_wp2_with fail
  refine (awake10_any w).mono ?_
  rintro e w1 ⟨rfl, hb⟩
  have HS1 := Lib.hid (HS.out.after hb)
  clear hb HS
  go_wp2_with fail
  refine (cmlarge_any _ ts w1 HS1.out.v).mono ?_
  rintro e w2 ⟨rfl, hb⟩
  have HS2 := Lib.hid (HS1.out.after hb)
  clear hb HS1
  cases hf1 : fewI ts
  · clear hf1
    go_wp2_with fail
    exact HQ.out _ _ ⟨rfl, HS2.out.below⟩
  have HF1 := Lib.hid (fewI_iff.1 hf1)
  clear hf1
  go_wp2_with fail
  refine (cmlarge_any _ us w2 HS2.out.u).mono ?_
  rintro e w3 ⟨rfl, hb⟩
  have HS3 := Lib.hid (HS2.out.after hb)
  clear hb HS2
  cases hf2 : fewI us
  · clear hf2
    go_wp2_with fail
    exact HQ.out _ _ ⟨rfl, HS3.out.below⟩
  have HF2 := Lib.hid (fewI_iff.1 hf2)
  clear hf2
  by_cases hbl : (400 : Int) < (B.length : Int)
  · go_wp2_with fail
    exact HQ.out _ _ ⟨rfl, HS3.out.below⟩
  go_wp2_with fail
  refine (cmread_any _ B w3 HS3.out.b).mono ?_
  rintro e w4 ⟨v4, z, es, its, rfl, hsp, _, hits, hd, hb⟩
  have HAll := Lib.hid (rdi_all hsp hd)
  have HN0 := Lib.hid (show firstE (z :: es.map errC) ≠ 0 → its.length = 0 from fun h => by rw [if_neg h] at hd; rw [← dis_len, hd]; rfl)
  obtain ⟨A4, c4, rfl, _, hc4, hA4⟩ := hits.parts
  have HA4 := Lib.hid hA4
  have HIt := Lib.hid hits
  have HS4 := Lib.hid (HS3.out.after hb)
  clear hits hb hsp hd HS3 hA4 hbl
  generalize firstE (z :: es.map errC) = fe at *
  go_upto_region 6 with fail
  go_cut [7, 41] (fun s y wx => s = .slice A4 its.length c4 ∧ y = .bool false ∧ wx = w4)
  case first =>
    by_cases h0 : fe = 0
    · subst h0
      go_wp2_with fail
      go_meet
      case rel => exact ⟨rfl, rfl, rfl⟩
    · have hi : (fe != 0) = true := by simp [h0]
      have hl0 := HN0.out h0
      clear h0
      rw [hl0]
      go_wp2_with fail
      go_meet
      case rel => exact ⟨by rw [hl0], rfl, rfl⟩
  case rest =>
    obtain ⟨hc1, hc2, hc3⟩ := hcut
    subst hc3
    subst hc1
    subst hc2
    go_wp2_with fail
    go_loopw [44] (fun i wr => ∃ j : Nat, j ≤ its.length ∧ i = .int .i64 j ∧ Below wc.heap.size wc wr) (fun i _ => its.length - (intOf i).toNat)
    case atStart => exact ⟨0, Nat.zero_le _, rfl, Below.refl _ _⟩
    case round =>
      obtain ⟨j, hj, rfl, hb⟩ := hrel
      have HB := Lib.hid hb
      clear hb
      by_cases hlt : j < its.length
      · obtain ⟨b, o, rfl, hbl⟩ := HA4.out (by omega)
        have HRg := Lib.hid ((HIt.out.below HB.out).range j hlt)
        have HOk := Lib.hid ((HIt.out.2 _ (List.getElem_mem hlt)).below HB.out)
        have HRt := Lib.hid (HAll.out _ (List.getElem_mem hlt))
        have hbl2 := Nat.lt_of_lt_of_le hbl HB.out.size
        have h0 : (0 : Int) ≤ (j : Int) := by omega
        have h1 : (j : Int) < (its.length : Int) := by omega
        generalize (its[j]'hlt) = t at *
        have HB2 := Lib.hid (HB.out.alloc HB.out.size (.cells #[.int .i64 t.k, .bool t.r.sd, .int .u32 (t.r.so : Nat), .int .u32 (t.r.i0 : Nat), .int .u32 (t.r.i1 : Nat), .int .u32 (t.r.i2 : Nat), .int .u32 (t.r.i3 : Nat), .int .u32 (t.r.i4 : Nat), (.slice t.ra t.r.bl.length t.rc), .int .i64 t.m.k, .int .u32 (t.m.se : Nat), .int .u32 (t.m.me : Nat), (.slice t.aa t.m.ak.length t.ac), (.slice t.la t.m.lo.length t.lc), .int .u8 (t.c.1 : Nat), .int .u8 (t.c.2.1 : Nat), (.slice t.ca t.c.2.2.length t.cc)] 42))
        have HOk2 := Lib.hid (HOk.out.below (below_alloc (.cells #[.int .i64 t.k, .bool t.r.sd, .int .u32 (t.r.so : Nat), .int .u32 (t.r.i0 : Nat), .int .u32 (t.r.i1 : Nat), .int .u32 (t.r.i2 : Nat), .int .u32 (t.r.i3 : Nat), .int .u32 (t.r.i4 : Nat), (.slice t.ra t.r.bl.length t.rc), .int .i64 t.m.k, .int .u32 (t.m.se : Nat), .int .u32 (t.m.me : Nat), (.slice t.aa t.m.ak.length t.ac), (.slice t.la t.m.lo.length t.lc), .int .u8 (t.c.1 : Nat), .int .u8 (t.c.2.1 : Nat), (.slice t.ca t.c.2.2.length t.cc)] 42)))
        have HX := Lib.hid (box_range (t := t) (heap_alloc_new wr (.cells #[.int .i64 t.k, .bool t.r.sd, .int .u32 (t.r.so : Nat), .int .u32 (t.r.i0 : Nat), .int .u32 (t.r.i1 : Nat), .int .u32 (t.r.i2 : Nat), .int .u32 (t.r.i3 : Nat), .int .u32 (t.r.i4 : Nat), (.slice t.ra t.r.bl.length t.rc), .int .i64 t.m.k, .int .u32 (t.m.se : Nat), .int .u32 (t.m.me : Nat), (.slice t.aa t.m.ak.length t.ac), (.slice t.la t.m.lo.length t.lc), .int .u8 (t.c.1 : Nat), .int .u8 (t.c.2.1 : Nat), (.slice t.ca t.c.2.2.length t.cc)] 42)))
        go_wp2_with (first
          | (with_reducible refine wpl_load_item ?_ HRg.out ?_
             focus exact ⟨rfl, _, rfl, rfl⟩)
          | (with_reducible refine wpl_new_item (t := t) ?_ ?_ ?_
             focus exact ⟨rfl, _, _, rfl, rfl, rfl⟩
             focus rfl
             generalize wr.alloc (.cells #[.int .i64 t.k, .bool t.r.sd, .int .u32 (t.r.so : Nat), .int .u32 (t.r.i0 : Nat), .int .u32 (t.r.i1 : Nat), .int .u32 (t.r.i2 : Nat), .int .u32 (t.r.i3 : Nat), .int .u32 (t.r.i4 : Nat), (.slice t.ra t.r.bl.length t.rc), .int .i64 t.m.k, .int .u32 (t.m.se : Nat), .int .u32 (t.m.me : Nat), (.slice t.aa t.m.ak.length t.ac), (.slice t.la t.m.lo.length t.lc), .int .u8 (t.c.1 : Nat), .int .u8 (t.c.2.1 : Nat), (.slice t.ca t.c.2.2.length t.cc)] 42) = w5 at *)
          | (with_reducible refine wpl_load_item ?_ HX.out ?_
             focus exact ⟨rfl, _, rfl, rfl⟩))
        refine (cmright_r HOk2.out HRt.out.2).mono ?_
        rintro e w6 ⟨rfl, hb⟩
        rw [HRt.out.1]
        have HB3 := Lib.hid (HB2.out.trans (hb.mono HB2.out.size))
        clear hb HB HB2 HOk HOk2 HX HRg HRt
        go_wp2_with fail
        go_roundw
        case rel => exact ⟨j + 1, by omega, by go_num, HB3.out⟩
        case measure => simp [intOf]; omega
      · have : j = its.length := by omega
        subst this
        have HS5 := Lib.hid (HS4.out.after HB.out)
        have HI5 := Lib.hid (HIt.out.below HB.out)
        clear HS4 HB HA4 HAll HN0 HIt hj hlt
        go_wp2_with fail
        refine (cmwrite_any _ ts wr HS5.out.v (by have := HF1.out.1; omega) (fun t ht => by have := (HF1.out.2 t ht).2.2.2; omega)).mono ?_
        rintro e w6 ⟨x, rfl, hx, hb⟩
        obtain ⟨A6, c6, rfl, _⟩ := bs_parts hx
        have HX6 := Lib.hid hx
        have HS6 := Lib.hid (HS5.out.after hb)
        clear hx hb HS5
        have HWc := Lib.hid (wr_cases HO1.out)
        go_wp2_with fail
        refine (cmwrite_any _ us w6 HS6.out.u (by have := HF2.out.1; omega) (fun t ht => by have := (HF2.out.2 t ht).2.2.2; omega)).mono ?_
        rintro e w7 ⟨y, rfl, hy, hb⟩
        obtain ⟨A7, c7, rfl, _⟩ := bs_parts hy
        have HX7 := Lib.hid hy
        have HX67 := Lib.hid (HX6.out.below hb)
        have HS7 := Lib.hid (HS6.out.after hb)
        clear hy hb HS6 HX6
        by_cases hf : wrEL (dis ts) = 0
        rotate_left
        · have hx0 : (wrBL (dis ts)).length = 0 := by
            rcases HWc.out with h | h
            · rw [h.2]; rfl
            · exact absurd h.1 hf
          have hi : (wrEL (dis ts) != 0) = true := by simp [hf]
          rw [hx0]
          clear hf hx0
          go_wp2_with fail
          exact HQ.out _ _ ⟨rfl, HS7.out.below⟩
        have HE1 := Lib.hid hf
        rw [hf]
        clear hf
        by_cases hl : ts.length = 0
        · have hx0 : (wrBL (dis ts)).length = 0 := by
            rw [List.eq_nil_of_length_eq_zero (show (dis ts).length = 0 by rw [dis_len]; exact hl), wr_nil]; rfl
          rw [hx0, hl]
          clear hx0 hl
          go_wp2_with fail
          exact HQ.out _ _ ⟨rfl, HS7.out.below⟩
        have hli : ((ts.length : Int) == 0) = false := by rw [beq_eq_false_iff_ne]; omega
        have HNe := Lib.hid (show dis ts ≠ [] from fun h => hl (by rw [← dis_len, h]; rfl))
        have HLe := Lib.hid (show (wrBL (dis ts)).length ≤ 200 by
          rcases HWc.out with h | h
          · exact absurd HE1.out h.1
          · rw [h.2.1]; exact h.2.2.2)
        clear hl HWc
        go_wp2_with fail
        refine (cmread_any _ (wrBL (dis ts)) w7 HX67.out).mono ?_
        rintro e w8 ⟨v8, z8, es8, it8, rfl, hsp, _, hits, hd, hb⟩
        obtain ⟨hz, hes⟩ := back_l HO1.out HE1.out HNe.out hsp
        rw [hz] at hd ⊢
        rw [if_pos rfl, hes] at hd
        obtain ⟨A8, c8, rfl, _⟩ := hits.parts
        have HD8 := Lib.hid hd
        have HI8 := Lib.hid hits
        have HX78 := Lib.hid (HX67.out.below hb)
        have HX77 := Lib.hid (HX7.out.below hb)
        have HS8 := Lib.hid (HS7.out.after hb)
        have HSm8 := Lib.hid (show it8.length ≤ 1000 ∧ ∀ t ∈ it8, t.r.bl.length ≤ 1000 ∧ t.m.ak.length ≤ 1000 from by
          have h1 := HF1.out.1
          refine ⟨by have := congrArg List.length hd; rw [dis_len, dis_len] at this; omega, fun t ht => ?_⟩
          have hm : t.d ∈ dis ts := by rw [← hd]; exact List.mem_map.2 ⟨t, ht, rfl⟩
          obtain ⟨t', ht', he⟩ := List.mem_map.1 hm
          have h2 := HF1.out.2 t' ht'
          have e1 : t.r = t'.r := by rw [show t.r = t.d.r from rfl, ← he]; rfl
          have e2 : t.m = t'.m := by rw [show t.m = t.d.m from rfl, ← he]; rfl
          rw [e1, e2]; omega)
        clear hsp hits hd hb hz hes HX67 HX7 HS7
        go_wp2_with fail
        refine (cmown_any _ it8 w8 HI8.out HSm8.out.1 HSm8.out.2).mono ?_
        rintro e w9 ⟨u9, os9, rfl, h9, hd9, hb⟩
        have HS9 := Lib.hid (HS8.out.after hb)
        have HO9 := Lib.hid h9
        have HD9 := Lib.hid (hd9.trans HD8.out)
        have HX79 := Lib.hid (HX78.out.below hb)
        have HX97 := Lib.hid (HX77.out.below hb)
        clear h9 hd9 hb HS8 HX78 HX77 HI8
        go_wp2_with fail
        refine (cmown_any _ ts w9 HS9.out.v (by have := HF1.out.1; omega) (fun t ht => by have := HF1.out.2 t ht; omega)).mono ?_
        rintro e w10 ⟨u10, os10, rfl, h10, hd10, hb⟩
        have HS10 := Lib.hid (HS9.out.after hb)
        have HO910 := Lib.hid (HO9.out.below hb)
        have HO10 := Lib.hid h10
        have HD10 := Lib.hid hd10
        have HX10 := Lib.hid (HX79.out.below hb)
        have HX107 := Lib.hid (HX97.out.below hb)
        clear h10 hd10 hb HS9 HO9 HX79 HX97
        go_wp2_with fail
        refine (cmsame_is (r := true) u9 u10 os9 os10 w10 HO910.out HO10.out ⟨fun _ => HD9.out.trans HD10.out.symm, fun _ => rfl⟩).mono ?_
        rintro e w11 ⟨rfl, hb⟩
        have HS11 := Lib.hid (HS10.out.after hb)
        have HX11 := Lib.hid (HX10.out.below hb)
        have HX117 := Lib.hid (HX107.out.below hb)
        have hle := HLe.out
        clear hb HS10 HO910 HO10 HX10 HX107
        by_cases hg : wrEL (dis us) = 0
        rotate_left
        · have hi : (wrEL (dis us) != 0) = true := by simp [hg]
          clear hg
          go_wp2_with fail
          exact HQ.out _ _ ⟨rfl, HS11.out.below⟩
        have HIn := Lib.hid (inj_l HO1.out HO2.out HE1.out hg)
        rw [hg]
        clear hg
        obtain ⟨r, hr⟩ : ∃ r : Bool, (wrBL (dis ts) == wrBL (dis us)) = r := ⟨_, rfl⟩
        have HR := Lib.hid hr
        have HR2 := Lib.hid (show r = true ↔ dis ts = dis us by rw [← hr, beq_iff_eq]; exact HIn.out)
        clear hr
        go_wp2_with fail
        refine (rsame_is (r := r) _ _ _ _ w11 HX11.out HX117.out HR.out).mono ?_
        rintro e w12 ⟨rfl, hb⟩
        have HS12 := Lib.hid (HS11.out.after hb)
        clear hb HS11 HX11 HX117
        go_wp2_with fail
        refine (cmown_any _ ts w12 HS12.out.v (by have := HF1.out.1; omega) (fun t ht => by have := HF1.out.2 t ht; omega)).mono ?_
        rintro e w13 ⟨u13, os13, rfl, h13, hd13, hb⟩
        have HS13 := Lib.hid (HS12.out.after hb)
        have HO13 := Lib.hid h13
        have HD13 := Lib.hid hd13
        clear h13 hd13 hb HS12
        go_wp2_with fail
        refine (cmown_any _ us w13 HS13.out.u (by have := HF2.out.1; omega) (fun t ht => by have := HF2.out.2 t ht; omega)).mono ?_
        rintro e w14 ⟨u14, os14, rfl, h14, hd14, hb⟩
        have HS14 := Lib.hid (HS13.out.after hb)
        have HO134 := Lib.hid (HO13.out.below hb)
        have HO14 := Lib.hid h14
        have HD14 := Lib.hid hd14
        clear h14 hd14 hb HS13 HO13
        go_wp2_with fail
        refine (cmsame_is (r := r) u13 u14 os13 os14 w14 HO134.out HO14.out (by rw [HD13.out, HD14.out]; exact HR2.out)).mono ?_
        rintro e w15 ⟨rfl, hb⟩
        have HB15 := Lib.hid (HS14.out.after hb).below
        clear hb HS14 HO134 HO14 HR HR2 HIn
        cases r
        all_goals
          go_wp2_with fail
          exact HQ.out _ _ ⟨rfl, HB15.out⟩
end Go.Proofs.Ytphofpemblindaa
/- Reports and chunks that come in. -/
namespace Go.Proofs.Ytphofpemblindaa
open Go.ChangeShapes Go.WideShapes Go.ChangeAt Go.RowKit Go.Deep

/-- a report's value, read in a world -/
def RV (w : World) (v : Value) (r : DR) : Prop := ∃ u, v = rval r u ∧ BlS w u r.bl
section
variable {H : Type} {enc : TypeId × Value → H} {w : World} {base : Nat} {spare : Nat → Bool} {held : Bool}
theorem rng_i32 {n : Int} (h : (Lit.int .i32 n).wf = true) : -2147483648 ≤ n ∧ n ≤ 2147483647 := by
  simpa [Lit.wf, IntKind.min, IntKind.max, IntKind.bits, IntKind.signed] using h
theorem blocks_of_trod {v : Value} {fuel : Nat} {x : DataW H × List MemPlace} (h : DataW.trod enc Try.prog w base spare held fuel 32 [v] = some x) : ∃ bs, BlS w v bs := by
  obtain ⟨rs, hr, hall⟩ := rows_of_trod Try.underlying32 (k := 7) (by kernel_rfl) (by decide) h
  have h1 : ∀ r ∈ rs, ∃ b : DB, r = b.row ∧ b.Ok := fun r hr => by
    obtain ⟨n, y, hy⟩ := hall r hr
    obtain ⟨hl, hfs⟩ := fields_of_trod Try.underlying86 (by kernel_rfl) (by kernel_rfl) hy
    obtain ⟨v0, n0, y0, e0, t0⟩ := hfs 0 _ rfl
    obtain ⟨v1, n1, y1, e1, t1⟩ := hfs 1 _ rfl
    obtain ⟨v2, n2, y2, e2, t2⟩ := hfs 2 _ rfl
    obtain ⟨v3, n3, y3, e3, t3⟩ := hfs 3 _ rfl
    obtain ⟨v4, n4, y4, e4, t4⟩ := hfs 4 _ rfl
    obtain ⟨v5, n5, y5, e5, t5⟩ := hfs 5 _ rfl
    obtain ⟨v6, n6, y6, e6, t6⟩ := hfs 6 _ rfl
    obtain ⟨z0, rfl, w0⟩ := int_of_trod Try.underlying29 t0
    obtain ⟨z1, rfl, w1⟩ := int_of_trod Try.underlying5 t1
    obtain ⟨z2, rfl, w2⟩ := int_of_trod Try.underlying21 t2
    obtain ⟨z3, rfl, w3⟩ := int_of_trod Try.underlying29 t3
    obtain ⟨z4, rfl, w4⟩ := int_of_trod Try.underlying29 t4
    obtain ⟨z5, rfl, w5⟩ := int_of_trod Try.underlying29 t5
    obtain ⟨z6, rfl, w6⟩ := int_of_trod Try.underlying29 t6
    obtain ⟨s, rfl, f0⟩ := nat_u32 w0
    obtain ⟨p, rfl, f1⟩ := nat_u8 w1
    have f2 := rng_i32 w2
    obtain ⟨h, rfl, f3⟩ := nat_u32 w3
    obtain ⟨j, rfl, f4⟩ := nat_u32 w4
    obtain ⟨l, rfl, f5⟩ := nat_u32 w5
    obtain ⟨d, rfl, f6⟩ := nat_u32 w6
    refine ⟨⟨s, p, z2, h, j, l, d⟩, ?_, ⟨f0, f1, f2.1, f2.2, f3, f4, f5, f6⟩⟩
    have hl7 : r.length = 7 := hl
    match r, hl7 with
    | [a0, a1, a2, a3, a4, a5, a6], _ =>
      simp at e0 e1 e2 e3 e4 e5 e6
      simp [DB.row, e0, e1, e2, e3, e4, e5, e6]
  have h2 : ∃ bs : List DB, rs = bs.map DB.row ∧ ∀ b ∈ bs, b.Ok := by
    clear hr hall
    induction rs with
    | nil => exact ⟨[], rfl, by simp⟩
    | cons r rs ih =>
      obtain ⟨bs, rfl, hb⟩ := ih (fun r hr => h1 r (List.mem_cons_of_mem _ hr))
      obtain ⟨b, rfl, hok⟩ := h1 r (List.mem_cons_self ..)
      refine ⟨b :: bs, rfl, fun x hx => ?_⟩
      rcases List.mem_cons.1 hx with rfl | hx
      · exact hok
      · exact hb x hx
  obtain ⟨bs, rfl, hok⟩ := h2
  exact ⟨bs, hr, hok⟩
end
set_option maxRecDepth 20000 in
theorem open_report {H : Type} {enc : TypeId × Value → H} {W : World} {base : Nat} {v : Value} {d : DataW H} {p : List MemPlace}
    (hval : Value.okWide Try.prog W .any base 34 v)
    (h : DataW.Trod enc Try.prog W 0 (fun _ => true) true 34 v d p) : ∃ r, RV W v r ∧ r.Ok := by
  obtain ⟨cs, rfl, hsz⟩ := okWide_struct Try.underlying34 hval
  obtain ⟨fuel, hf⟩ := h
  have hc8 : Try.prog.cellsOf 34 = 8 := by kernel_rfl
  rw [hc8] at hsz
  obtain ⟨l, hl, rfl⟩ : ∃ l : List Value, l.length = 8 ∧ cs = l.toArray := ⟨cs.toList, by simpa using hsz, by simp⟩
  match l, hl with
  | [x0, x1, x2, x3, x4, x5, x6, x7], _ =>
    obtain ⟨xs, n, _, _, _, hxl, hfs⟩ := DataW.trod_struct Try.underlying34 hf
    have k0 : Try.prog.cellsOf 4 = 1 := by kernel_rfl
    have k1 : Try.prog.cellsOf 29 = 1 := by kernel_rfl
    have k2 : Try.prog.cellsOf 31 = 5 := by kernel_rfl
    have k3 : Try.prog.cellsOf 32 = 1 := by kernel_rfl
    match xs, hxl with
    | [y0, y1, y2, y3], _ =>
    have t0 := hfs 0 _ rfl
    have t1 := hfs 1 _ rfl
    have t2 := hfs 2 _ rfl
    have t3 := hfs 3 _ rfl
    simp [k0, Value.cells] at t0
    simp [k1, Value.cells] at t1
    simp [k2, Value.cells] at t2
    simp [k3, Value.cells] at t3
    obtain ⟨b0, rfl⟩ := bool_of_trod Try.underlying4 t0
    obtain ⟨z1, rfl, w1⟩ := int_of_trod Try.underlying29 t1
    obtain ⟨_, hh⟩ := fields_of_trod Try.underlying31 (by kernel_rfl) (by kernel_rfl) t2
    obtain ⟨v0, n0, y0, e0, s0⟩ := hh 0 _ rfl
    obtain ⟨v1, n1, y1, e1, s1⟩ := hh 1 _ rfl
    obtain ⟨v2, n2, y2, e2, s2⟩ := hh 2 _ rfl
    obtain ⟨v3, n3, y3, e3, s3⟩ := hh 3 _ rfl
    obtain ⟨v4, n4, y4, e4, s4⟩ := hh 4 _ rfl
    obtain ⟨a0, rfl, f0⟩ := int_of_trod Try.underlying29 s0
    obtain ⟨a1, rfl, f1⟩ := int_of_trod Try.underlying29 s1
    obtain ⟨a2, rfl, f2⟩ := int_of_trod Try.underlying29 s2
    obtain ⟨a3, rfl, f3⟩ := int_of_trod Try.underlying29 s3
    obtain ⟨a4, rfl, f4⟩ := int_of_trod Try.underlying29 s4
    simp at e0 e1 e2 e3 e4
    subst e0 e1 e2 e3 e4
    obtain ⟨bs, hbs⟩ := blocks_of_trod t3
    obtain ⟨so, rfl, g1⟩ := nat_u32 w1
    obtain ⟨i0, rfl, q0⟩ := nat_u32 f0
    obtain ⟨i1, rfl, q1⟩ := nat_u32 f1
    obtain ⟨i2, rfl, q2⟩ := nat_u32 f2
    obtain ⟨i3, rfl, q3⟩ := nat_u32 f3
    obtain ⟨i4, rfl, q4⟩ := nat_u32 f4
    exact ⟨⟨b0, so, i0, i1, i2, i3, i4, bs⟩, ⟨_, rfl, hbs⟩, ⟨g1, q0, q1, q2, q3, q4, hbs.2⟩⟩
end Go.Proofs.Ytphofpemblindaa
/- Messages that come in. -/
namespace Go.Proofs.Ytphofpemblindaa
open Go.ChangeShapes Go.WideShapes Go.ChangeAt Go.RowKit Go.Deep

/-- a message's value, read in a world -/
def MV (w : World) (v : Value) (m : DM) : Prop := ∃ va vl, v = .agg #[.int .i64 m.k, .int .u32 (m.se : Nat), .int .u32 (m.me : Nat), va, vl] ∧ AsS w va m.ak ∧ LoS w vl m.lo
section
variable {H : Type} {enc : TypeId × Value → H} {w : World} {base : Nat} {spare : Nat → Bool} {held : Bool}
theorem asks_of_trod {v : Value} {fuel : Nat} {x : DataW H × List MemPlace} (h : DataW.trod enc Try.prog w base spare held fuel 35 [v] = some x) : ∃ l, AsS w v l ∧ ∀ a ∈ l, okA a := by
  obtain ⟨rs, hr, hall⟩ := rows_of_trod Try.underlying35 (k := 2) (by kernel_rfl) (by decide) h
  have h1 : ∀ r ∈ rs, ∃ a : Nat × Nat, r = rowA a ∧ okA a := fun r hr => by
    obtain ⟨n, y, hy⟩ := hall r hr
    obtain ⟨hl, hfs⟩ := fields_of_trod Try.underlying57 (by kernel_rfl) (by kernel_rfl) hy
    obtain ⟨v0, n0, y0, e0, t0⟩ := hfs 0 _ rfl
    obtain ⟨v1, n1, y1, e1, t1⟩ := hfs 1 _ rfl
    obtain ⟨z0, rfl, w0⟩ := int_of_trod Try.underlying29 t0
    obtain ⟨z1, rfl, w1⟩ := int_of_trod Try.underlying5 t1
    obtain ⟨s, rfl, f0⟩ := nat_u32 w0
    obtain ⟨p, rfl, f1⟩ := nat_u8 w1
    refine ⟨(s, p), ?_, ⟨f0, f1⟩⟩
    have hl2 : r.length = 2 := hl
    match r, hl2 with
    | [a0, a1], _ =>
      simp at e0 e1
      simp [rowA, e0, e1]
  have h2 : ∃ l : List (Nat × Nat), rs = l.map rowA ∧ ∀ a ∈ l, okA a := by
    clear hr hall
    induction rs with
    | nil => exact ⟨[], rfl, by simp⟩
    | cons r rs ih =>
      obtain ⟨l, rfl, hb⟩ := ih (fun r hr => h1 r (List.mem_cons_of_mem _ hr))
      obtain ⟨b, rfl, hok⟩ := h1 r (List.mem_cons_self ..)
      refine ⟨b :: l, rfl, fun x hx => ?_⟩
      rcases List.mem_cons.1 hx with rfl | hx
      · exact hok
      · exact hb x hx
  obtain ⟨l, rfl, hok⟩ := h2
  exact ⟨l, hr, hok⟩
theorem lost_of_trod {v : Value} {fuel : Nat} {x : DataW H × List MemPlace} (h : DataW.trod enc Try.prog w base spare held fuel 36 [v] = some x) : ∃ l, LoS w v l ∧ ∀ a ∈ l, Fits 65536 a := by
  obtain ⟨rs, ⟨A, c, rfl, hl, hm, hr⟩, hall⟩ := rows_of_trod Try.underlying36 (k := 1) (by kernel_rfl) (by decide) h
  have h1 : ∀ r ∈ rs, ∃ z : Int, r = [.int .u16 z] ∧ Fits 65536 z := fun r hr => by
    obtain ⟨n, y, hy⟩ := hall r hr
    obtain ⟨z, hz, _, hw⟩ := DataW.trod_int Try.underlying58 hy
    exact ⟨z, hz, fits_u16 hw⟩
  have h2 : ∃ l : List Int, rs = l.map (fun z => [.int .u16 z]) ∧ ∀ a ∈ l, Fits 65536 a := by
    clear hr hall hl h
    induction rs with
    | nil => exact ⟨[], rfl, by simp⟩
    | cons r rs ih =>
      obtain ⟨l, rfl, hb⟩ := ih (fun r hr => h1 r (List.mem_cons_of_mem _ hr))
      obtain ⟨b, rfl, hok⟩ := h1 r (List.mem_cons_self ..)
      refine ⟨b :: l, rfl, fun x hx => ?_⟩
      rcases List.mem_cons.1 hx with rfl | hx
      · exact hok
      · exact hb x hx
  obtain ⟨l, rfl, hok⟩ := h2
  have e1 : (l.map (fun z => [Value.int .u16 z])).length = (ints .u16 l).length := by simp [ints]
  refine ⟨l, ⟨A, c, by rw [e1], by rw [← e1]; exact hl, hm, fun hp => ?_⟩, hok⟩
  obtain ⟨b, o, rfl, hb, hcell⟩ := hr (by rw [e1]; exact hp)
  refine ⟨b, o, rfl, hb, fun j hj => ?_⟩
  have := hcell j (by rw [e1]; exact hj) 0 (.int .u16 (l[j]'(by simpa [ints] using hj))) (by simp)
  rw [Nat.mul_one, Nat.add_zero] at this
  rw [this]
  simp [ints]
end
set_option maxRecDepth 20000 in
theorem open_msg {H : Type} {enc : TypeId × Value → H} {W : World} {base : Nat} {v : Value} {d : DataW H} {p : List MemPlace}
    (hval : Value.okWide Try.prog W .any base 38 v)
    (h : DataW.Trod enc Try.prog W 0 (fun _ => true) true 38 v d p) : ∃ m, MV W v m ∧ m.Ok := by
  obtain ⟨cs, rfl, hsz⟩ := okWide_struct Try.underlying38 hval
  obtain ⟨fuel, hf⟩ := h
  have hc5 : Try.prog.cellsOf 38 = 5 := by kernel_rfl
  rw [hc5] at hsz
  obtain ⟨l, hl, rfl⟩ : ∃ l : List Value, l.length = 5 ∧ cs = l.toArray := ⟨cs.toList, by simpa using hsz, by simp⟩
  match l, hl with
  | [x0, x1, x2, x3, x4], _ =>
    obtain ⟨_, hh⟩ := fields_of_trod Try.underlying38 (by kernel_rfl) (by kernel_rfl) hf
    obtain ⟨v0, n0, y0, e0, s0⟩ := hh 0 _ rfl
    obtain ⟨v1, n1, y1, e1, s1⟩ := hh 1 _ rfl
    obtain ⟨v2, n2, y2, e2, s2⟩ := hh 2 _ rfl
    obtain ⟨v3, n3, y3, e3, s3⟩ := hh 3 _ rfl
    obtain ⟨v4, n4, y4, e4, s4⟩ := hh 4 _ rfl
    obtain ⟨z0, rfl, w0⟩ := int_of_trod Try.underlying3 s0
    obtain ⟨z1, rfl, w1⟩ := int_of_trod Try.underlying29 s1
    obtain ⟨z2, rfl, w2⟩ := int_of_trod Try.underlying29 s2
    obtain ⟨ak, ha, hok⟩ := asks_of_trod s3
    obtain ⟨lo, hl, hfit⟩ := lost_of_trod s4
    simp [Value.cells] at e0 e1 e2 e3 e4
    subst e0 e1 e2 e3 e4
    obtain ⟨se, rfl, g1⟩ := nat_u32 w1
    obtain ⟨me, rfl, g2⟩ := nat_u32 w2
    exact ⟨⟨z0, se, me, ak, lo⟩, ⟨_, _, rfl, ha, hl⟩, ⟨g1, g2, hok, hfit⟩⟩
end Go.Proofs.Ytphofpemblindaa
/- Items that come in. -/
namespace Go.Proofs.Ytphofpemblindaa
open Go.ChangeShapes Go.WideShapes Go.ChangeAt Go.RowKit Go.Deep

section
variable {H : Type} {enc : TypeId × Value → H} {w : World} {base : Nat} {spare : Nat → Bool} {held : Bool}
set_option maxRecDepth 20000 in
theorem report_of_trod {r : List Value} {fuel : Nat} {x : DataW H × List MemPlace} (h : DataW.trod enc Try.prog w base spare held fuel 34 r = some x) :
    ∃ (d : DR) (A : Option Addr) (c : Nat), r = [.bool d.sd, .int .u32 (d.so : Nat), .int .u32 (d.i0 : Nat), .int .u32 (d.i1 : Nat), .int .u32 (d.i2 : Nat), .int .u32 (d.i3 : Nat), .int .u32 (d.i4 : Nat), .slice A d.bl.length c] ∧ BlS w (.slice A d.bl.length c) d.bl ∧ d.Ok := by
  obtain ⟨xs, n, _, _, hl, hxl, hfs⟩ := DataW.trod_struct Try.underlying34 h
  have hc8 : Try.prog.cellsOf 34 = 8 := by kernel_rfl
  rw [hc8] at hl
  have k0 : Try.prog.cellsOf 4 = 1 := by kernel_rfl
  have k1 : Try.prog.cellsOf 29 = 1 := by kernel_rfl
  have k2 : Try.prog.cellsOf 31 = 5 := by kernel_rfl
  have k3 : Try.prog.cellsOf 32 = 1 := by kernel_rfl
  match r, hl with
  | [x0, x1, x2, x3, x4, x5, x6, x7], _ =>
    match xs, hxl with
    | [y0, y1, y2, y3], _ =>
    have t0 := hfs 0 _ rfl
    have t1 := hfs 1 _ rfl
    have t2 := hfs 2 _ rfl
    have t3 := hfs 3 _ rfl
    simp [k0] at t0
    simp [k1] at t1
    simp [k2] at t2
    simp [k3] at t3
    obtain ⟨b0, rfl⟩ := bool_of_trod Try.underlying4 t0
    obtain ⟨z1, rfl, w1⟩ := int_of_trod Try.underlying29 t1
    obtain ⟨_, hh⟩ := fields_of_trod Try.underlying31 (by kernel_rfl) (by kernel_rfl) t2
    obtain ⟨v0, n0, y0, e0, s0⟩ := hh 0 _ rfl
    obtain ⟨v1, n1, y1, e1, s1⟩ := hh 1 _ rfl
    obtain ⟨v2, n2, y2, e2, s2⟩ := hh 2 _ rfl
    obtain ⟨v3, n3, y3, e3, s3⟩ := hh 3 _ rfl
    obtain ⟨v4, n4, y4, e4, s4⟩ := hh 4 _ rfl
    obtain ⟨a0, rfl, f0⟩ := int_of_trod Try.underlying29 s0
    obtain ⟨a1, rfl, f1⟩ := int_of_trod Try.underlying29 s1
    obtain ⟨a2, rfl, f2⟩ := int_of_trod Try.underlying29 s2
    obtain ⟨a3, rfl, f3⟩ := int_of_trod Try.underlying29 s3
    obtain ⟨a4, rfl, f4⟩ := int_of_trod Try.underlying29 s4
    simp at e0 e1 e2 e3 e4
    subst e0 e1 e2 e3 e4
    obtain ⟨bs, hbs⟩ := blocks_of_trod t3
    obtain ⟨so, rfl, g1⟩ := nat_u32 w1
    obtain ⟨i0, rfl, q0⟩ := nat_u32 f0
    obtain ⟨i1, rfl, q1⟩ := nat_u32 f1
    obtain ⟨i2, rfl, q2⟩ := nat_u32 f2
    obtain ⟨i3, rfl, q3⟩ := nat_u32 f3
    obtain ⟨i4, rfl, q4⟩ := nat_u32 f4
    obtain ⟨A, c, rfl, _⟩ := hbs.parts
    exact ⟨⟨b0, so, i0, i1, i2, i3, i4, bs⟩, A, c, rfl, hbs, ⟨g1, q0, q1, q2, q3, q4, hbs.2⟩⟩
set_option maxRecDepth 20000 in
theorem msg_of_trod {r : List Value} {fuel : Nat} {x : DataW H × List MemPlace} (h : DataW.trod enc Try.prog w base spare held fuel 38 r = some x) :
    ∃ (m : DM) (A : Option Addr) (c : Nat) (A2 : Option Addr) (c2 : Nat), r = [.int .i64 m.k, .int .u32 (m.se : Nat), .int .u32 (m.me : Nat), .slice A m.ak.length c, .slice A2 m.lo.length c2] ∧ AsS w (.slice A m.ak.length c) m.ak ∧ LoS w (.slice A2 m.lo.length c2) m.lo ∧ m.Ok := by
  obtain ⟨hl, hh⟩ := fields_of_trod Try.underlying38 (by kernel_rfl) (by kernel_rfl) h
  have hl5 : r.length = 5 := hl
  match r, hl5 with
  | [x0, x1, x2, x3, x4], _ =>
    obtain ⟨v0, n0, y0, e0, s0⟩ := hh 0 _ rfl
    obtain ⟨v1, n1, y1, e1, s1⟩ := hh 1 _ rfl
    obtain ⟨v2, n2, y2, e2, s2⟩ := hh 2 _ rfl
    obtain ⟨v3, n3, y3, e3, s3⟩ := hh 3 _ rfl
    obtain ⟨v4, n4, y4, e4, s4⟩ := hh 4 _ rfl
    obtain ⟨z0, rfl, w0⟩ := int_of_trod Try.underlying3 s0
    obtain ⟨z1, rfl, w1⟩ := int_of_trod Try.underlying29 s1
    obtain ⟨z2, rfl, w2⟩ := int_of_trod Try.underlying29 s2
    obtain ⟨ak, ha, hok⟩ := asks_of_trod s3
    obtain ⟨lo, hlo, hfit⟩ := lost_of_trod s4
    simp at e0 e1 e2 e3 e4
    subst e0 e1 e2 e3 e4
    obtain ⟨se, rfl, g1⟩ := nat_u32 w1
    obtain ⟨me, rfl, g2⟩ := nat_u32 w2
    obtain ⟨A, c, rfl, _⟩ := ha.parts
    obtain ⟨A2, c2, rfl, _⟩ := hlo.parts
    exact ⟨⟨z0, se, me, ak, lo⟩, A, c, A2, c2, rfl, ha, hlo, ⟨g1, g2, hok, hfit⟩⟩
set_option maxRecDepth 20000 in
theorem chunk_of_trod {r : List Value} {fuel : Nat} {x : DataW H × List MemPlace} (h : DataW.trod enc Try.prog w base spare held fuel 40 r = some x) :
    ∃ (d : DC) (A : Option Addr) (c : Nat), r = [.int .u8 (d.1 : Nat), .int .u8 (d.2.1 : Nat), .slice A d.2.2.length c] ∧ BS w (.slice A d.2.2.length c) d.2.2 ∧ d.1 < 256 ∧ d.2.1 < 256 := by
  obtain ⟨hl, hh⟩ := fields_of_trod Try.underlying40 (by kernel_rfl) (by kernel_rfl) h
  have hl3 : r.length = 3 := hl
  match r, hl3 with
  | [x0, x1, x2], _ =>
    obtain ⟨v0, n0, y0, e0, s0⟩ := hh 0 _ rfl
    obtain ⟨v1, n1, y1, e1, s1⟩ := hh 1 _ rfl
    obtain ⟨v2, n2, y2, e2, s2⟩ := hh 2 _ rfl
    obtain ⟨z0, rfl, w0⟩ := int_of_trod Try.underlying5 s0
    obtain ⟨z1, rfl, w1⟩ := int_of_trod Try.underlying5 s1
    obtain ⟨l2, b2⟩ := bs_of_trod Try.underlying23 Try.underlying5 (by kernel_rfl) s2
    simp at e0 e1 e2
    subst e0 e1 e2
    obtain ⟨n, rfl, g0⟩ := nat_u8 w0
    obtain ⟨y, rfl, g1⟩ := nat_u8 w1
    obtain ⟨A, c, rfl, _⟩ := bs_parts b2
    exact ⟨(n, y, l2), A, c, rfl, b2, g0, g1⟩
set_option maxRecDepth 20000 in
theorem item_of_trod {r : List Value} {fuel : Nat} {x : DataW H × List MemPlace} (h : DataW.trod enc Try.prog w base spare held fuel 42 r = some x) : ∃ t : It, r = t.row ∧ t.Ok w := by
  obtain ⟨xs, n, _, _, hl, hxl, hfs⟩ := DataW.trod_struct Try.underlying42 h
  have hc : Try.prog.cellsOf 42 = 17 := by kernel_rfl
  rw [hc] at hl
  have k0 : Try.prog.cellsOf 3 = 1 := by kernel_rfl
  have k1 : Try.prog.cellsOf 34 = 8 := by kernel_rfl
  have k2 : Try.prog.cellsOf 38 = 5 := by kernel_rfl
  have k3 : Try.prog.cellsOf 40 = 3 := by kernel_rfl
  match r, hl with
  | [x0, x1, x2, x3, x4, x5, x6, x7, x8, x9, x10, x11, x12, x13, x14, x15, x16], _ =>
    match xs, hxl with
    | [y0, y1, y2, y3], _ =>
    have t0 := hfs 0 _ rfl
    have t1 := hfs 1 _ rfl
    have t2 := hfs 2 _ rfl
    have t3 := hfs 3 _ rfl
    simp [k0] at t0
    simp [k1] at t1
    simp [k2] at t2
    simp [k3] at t3
    obtain ⟨k, rfl, _⟩ := int_of_trod Try.underlying3 t0
    obtain ⟨d, A, c, e1, hb, hok⟩ := report_of_trod t1
    obtain ⟨m, A2, c2, A3, c3, e2, ha, hlo, hmk⟩ := msg_of_trod t2
    obtain ⟨g, A4, c4, e3, hg, hn, hy⟩ := chunk_of_trod t3
    simp only [List.cons.injEq, and_true] at e1 e2 e3
    refine ⟨⟨k, d, A, c, m, A2, c2, A3, c3, g, A4, c4⟩, ?_, ⟨hb, ha, hlo, hg, ⟨hok, hmk, hn, hy⟩⟩⟩
    obtain ⟨rfl, rfl, rfl, rfl, rfl, rfl, rfl, rfl⟩ := e1
    obtain ⟨rfl, rfl, rfl, rfl, rfl⟩ := e2
    obtain ⟨rfl, rfl, rfl⟩ := e3
    rfl
end
set_option maxRecDepth 20000 in
theorem open_items10 {H : Type} {enc : TypeId × Value → H} {W : World} {base : Nat} {v : Value} {d : DataW H} {p : List MemPlace}
    (hval : Value.okWide Try.prog W .any base 22 v)
    (h : DataW.Trod enc Try.prog W 0 (fun _ => true) true 22 v d p) : ∃ ts, ItS W v ts := by
  obtain ⟨A, len, cap, rfl⟩ := okWide_slice Try.underlying22 hval
  obtain ⟨fuel, hf⟩ := h
  obtain ⟨rs, hr, hall⟩ := rows_of_trod Try.underlying22 (k := 17) (by kernel_rfl) (by decide) hf
  have h1 : ∀ r ∈ rs, ∃ t : It, r = t.row ∧ t.Ok W := fun r hr => by
    obtain ⟨n, y, hy⟩ := hall r hr
    exact item_of_trod hy
  have h2 : ∃ ts : List It, rs = ts.map It.row ∧ ∀ t ∈ ts, t.Ok W := by
    clear hr hall
    induction rs with
    | nil => exact ⟨[], rfl, by simp⟩
    | cons r rs ih =>
      obtain ⟨ts, rfl, ht⟩ := ih (fun r hr => h1 r (List.mem_cons_of_mem _ hr))
      obtain ⟨t, rfl, hok⟩ := h1 r (List.mem_cons_self ..)
      refine ⟨t :: ts, rfl, fun x hx => ?_⟩
      rcases List.mem_cons.1 hx with rfl | hx
      · exact hok
      · exact ht x hx
  obtain ⟨ts, rfl, hok⟩ := h2
  exact ⟨ts, hr, hok⟩
end Go.Proofs.Ytphofpemblindaa
/- CompoundBack, over arguments that come in. -/
namespace Go.Proofs.Ytphofpemblindaa
open Go.RowKit

theorem cback10_law (v : Value) (ts : List It) (u : Value) (us : List It) (vb : Value) (B : List UInt8) (w : World) (h1 : ItS w v ts) (h2 : ItS w u us) (h3 : BS w vb B) :
    Calls Try.prog 3 #[v, u, vb] w fun e w' => e = .returned (.bool true) ∧ Below w.heap.size w w' :=
  cback10_any v ts u us vb B w h1 h2 h3
end Go.Proofs.Ytphofpemblindaa
/- A slice of bytes that comes in, as a list; numbers that fit their kinds. -/
namespace Go.Proofs.Ytphofpemblindaa
open Go.ChangeShapes Go.WideShapes Go.ChangeAt Go.RowKit

theorem u64_wf {n : Int} (h : (Lit.int .u64 n).wf = true) : U64 n := by
  have := h
  simp [Lit.wf, IntKind.min, IntKind.max, IntKind.bits, IntKind.signed] at this
  exact ⟨by omega, by omega⟩
theorem cell_lt {w : World} {a : Addr} {u : Value} (h : w.cell? a = some u) : a.block < w.heap.size := by
  rcases Nat.lt_or_ge a.block w.heap.size with h1 | h1
  · exact h1
  · unfold World.cell? at h; rw [Array.getElem?_eq_none h1] at h; cases h
theorem open_bs {H : Type} {enc : TypeId × Value → H} {P : Program} {t e : TypeId} {W : World} {base : Nat} {v : Value} {d : DataW H} {p : List MemPlace}
    (ht : P.underlying t = some (.slice e)) (he : P.underlying e = some (.int .u8)) (hc : P.cellsOf e = 1) (hval : Value.okWide P W .any base t v)
    (h : DataW.Trod enc P W 0 (fun _ => true) true t v d p) : ∃ l, BS W v l := by
  obtain ⟨A, len, cap, rfl⟩ := okWide_slice ht hval
  obtain ⟨fuel, hf⟩ := h
  rcases open_ints ht he hc hf with ⟨hcs, _⟩ | ⟨x, n, c, zs, hcs, _, hl, hm, hz, _, hcell, hwz⟩
  · simp [Value.cells] at hcs
    obtain ⟨rfl, rfl, rfl⟩ := hcs
    exact ⟨[], BS.nil W⟩
  · simp [Value.cells] at hcs
    obtain ⟨rfl, rfl, rfl⟩ := hcs
    have hz' : zs.length = cap := by simpa using hz
    refine ⟨(zs.take len).map fun z => UInt8.ofNat z.toNat, ?_⟩
    have hll : ((zs.take len).map fun z => UInt8.ofNat z.toNat).length = len := by simp; omega
    refine ⟨some x, cap, by rw [hll], by rw [hll]; exact hl, hm, fun hp => ?_⟩
    rw [hll] at hp
    have h0 := hcell 0 (by omega)
    have hx0 : x.add 0 = x := by simp [Addr.add]
    rw [hx0] at h0
    obtain ⟨b, o, sp⟩ := x
    obtain rfl : sp = none := World.cell?_spot h0
    refine ⟨b, o, rfl, cell_lt h0, fun j hj => ?_⟩
    rw [hll] at hj
    have hj' := hcell j (by omega)
    have e1 : (⟨b, o, none⟩ : Addr).add j = ⟨b, o + j, none⟩ := by
      unfold Addr.add; split
      · next h0 => subst h0; rfl
      · rfl
    rw [e1] at hj'
    rw [hj']
    have hg : zs.getD j 0 = zs[j]'(by omega) := by simp [List.getD, List.getElem?_eq_getElem (show j < zs.length by omega)]
    have hw := hwz (zs[j]'(by omega)) (List.getElem_mem _)
    simp [Lit.wf, IntKind.min, IntKind.max, IntKind.bits, IntKind.signed] at hw
    rw [hg]
    simp only [List.getElem_map, List.getElem_take]
    rw [UInt8.toNat_ofNat']
    congr 2
    omega
end Go.Proofs.Ytphofpemblindaa
