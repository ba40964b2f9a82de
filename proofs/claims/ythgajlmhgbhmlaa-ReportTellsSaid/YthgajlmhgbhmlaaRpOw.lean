/- The walks of own and same: a report as the document's; chunks held against each other. -/
import Derived.Test.YthgajlmhgbhmlaaRpRd
import Derived.Test.YthgajlmhgbhmlaaCkSm
namespace Go.Proofs.Ythgajlmhgbhmlaa
open Go.RowKit

abbrev objY (sd : Bool) (so i0 i1 i2 i3 i4 : Nat) (v : Value) : Obj := .cells #[.bool sd, .int .u32 (so : Nat), .int .u32 (i0 : Nat), .int .u32 (i1 : Nat), .int .u32 (i2 : Nat), .int .u32 (i3 : Nat), .int .u32 (i4 : Nat), v] 41 (0, 0)
/-- a report of the document's that grows -/
structure OwS (w0 : World) (rx ob : Nat) (o : Obj) (sv : Value) (xs : List DB) (w : World) : Prop where
  res : w.heap[rx]? = some (objY false 0 0 0 0 0 0 (.slice none 0 0))
  p : w.heap[ob]? = some o
  own : w.ownsRow (ob + 1) 68 7 sv xs.length (cellsB xs)
  below : Below w0.heap.size w0 w
  o0 : w0.heap.size ≤ rx
  o1 : rx < ob
section
variable {w0 : World} {rx ob : Nat} {o : Obj} {sv : Value} {xs : List DB} {w w' : World}
theorem OwS.fr0 (h : OwS w0 rx ob o sv xs w) (hf : Fr F0 w w') : OwS w0 rx ob o sv xs w' :=
  ⟨hf.heap h.res (fun h => h), hf.heap h.p (fun h => h), hf.own h.own (fun _ _ h => h), h.below.trans (hf.below h.below.size (fun _ hk => hk.elim)), h.o0, h.o1⟩
theorem OwS.app (h : OwS w0 rx ob o sv xs w) {sv' : Value} {x : DB} (ho : w'.ownsRow (ob + 1) 68 7 sv' (xs.length + 1) (cellsB xs ++ x.row)) (hg : w.grownBy w' sv.ownBlock) : OwS w0 rx ob o sv' (xs ++ [x]) w' := by
  have h0 := h.o0; have h1 := h.o1
  have hf := Fr.grown hg
  have hlt : ∀ k, some k = sv.ownBlock → ob + 1 ≤ k := fun k hk => (h.own.lt k hk.symm).1
  have hsz := h.below.size
  refine ⟨hf.heap h.res (fun hx => by have := hlt _ hx; omega), hf.heap h.p (fun hx => by have := hlt _ hx; omega), ?_, h.below.trans (hf.below hsz (fun k hk => by have := hlt k hk; omega)), h0, h1⟩
  rw [cellsB_snoc, List.length_append]
  exact ho
theorem OwS.set {cs : Array Value} {t : TypeId} (h : OwS w0 rx ob (.cells cs t (0, 0)) sv xs w) (i : Nat) (u : Value) : OwS w0 rx ob (.cells (cs.setIfInBounds i u) t (0, 0)) sv xs (w.setCell ⟨ob, i, none⟩ u) := by
  have h0 := h.o0; have h1 := h.o1
  have hf : Fr (F1 ob) w (w.setCell ⟨ob, i, none⟩ u) := Fr.setCell w ⟨ob, i, none⟩ u
  have hsz := h.below.size
  exact ⟨hf.heap h.res (fun (hx : rx = ob) => by omega), obj_set h.p i u, hf.own h.own (fun k hk (hx : k = ob) => by have := (h.own.lt k hk).1; omega), h.below.trans (hf.below hsz (fun k (hk : k = ob) => by omega)), h0, h1⟩
end
theorem cellsB_take (bl : List DB) (j : Nat) (h : j < bl.length) : bl.take (j + 1) = bl.take j ++ [bl[j]] := List.take_succ_eq_append_getElem h
set_option maxHeartbeats 2000000 in
theorem rpown_any (sd : Bool) (so i0 i1 i2 i3 i4 : Nat) (bl : List DB) (A : Option Addr) (c : Nat) (w : World) (h : BlS w (.slice A bl.length c) bl) (hm : bl.length ≤ 1000) :
    Calls Try.prog 9 #[.agg #[.bool sd, .int .u32 (so : Nat), .int .u32 (i0 : Nat), .int .u32 (i1 : Nat), .int .u32 (i2 : Nat), .int .u32 (i3 : Nat), .int .u32 (i4 : Nat), .slice A bl.length c]] w
      fun e w' => ∃ v, e = .returned (.agg #[.bool sd, .int .u32 (so : Nat), .int .u32 (i0 : Nat), .int .u32 (i1 : Nat), .int .u32 (i2 : Nat), .int .u32 (i3 : Nat), .int .u32 (i4 : Nat), v]) ∧ BlS w' v bl ∧ Below w.heap.size w w' := by
  have HT := Lib.hid h
  obtain ⟨_, _, he, _, _, hA⟩ := h.parts
  simp only [Value.slice.injEq, true_and] at he
  obtain ⟨rfl, rfl⟩ := he
  have HA := Lib.hid hA
  clear h hA
  refine calls_q fun Q HQ => ?_
  go_enter Try.func9, Try.ntmps9
  go_upto_region 3 with fail
  have hs : OwS w (w.heap.size + 1) (w.heap.size + 1 + 1) (objY sd so i0 i1 i2 i3 i4 (.slice none 0 0)) (.slice none 0 0) [] (((w.alloc (.cells #[.bool sd, .int .u32 (so : Nat), .int .u32 (i0 : Nat), .int .u32 (i1 : Nat), .int .u32 (i2 : Nat), .int .u32 (i3 : Nat), .int .u32 (i4 : Nat), .slice A bl.length c] 27 (0, 0))).alloc (objY false 0 0 0 0 0 0 (.slice none 0 0))).alloc (objY sd so i0 i1 i2 i3 i4 (.slice none 0 0))) := by
    have hb1 := below_alloc (w := w) (.cells #[.bool sd, .int .u32 (so : Nat), .int .u32 (i0 : Nat), .int .u32 (i1 : Nat), .int .u32 (i2 : Nat), .int .u32 (i3 : Nat), .int .u32 (i4 : Nat), .slice A bl.length c] 27 (0, 0))
    have hb2 := hb1.alloc hb1.size (objY false 0 0 0 0 0 0 (.slice none 0 0))
    have hb3 := hb2.alloc hb2.size (objY sd so i0 i1 i2 i3 i4 (.slice none 0 0))
    have h1 := heap_alloc_new (w.alloc (.cells #[.bool sd, .int .u32 (so : Nat), .int .u32 (i0 : Nat), .int .u32 (i1 : Nat), .int .u32 (i2 : Nat), .int .u32 (i3 : Nat), .int .u32 (i4 : Nat), .slice A bl.length c] 27 (0, 0))) (objY false 0 0 0 0 0 0 (.slice none 0 0))
    have h2 := heap_alloc_new ((w.alloc (.cells #[.bool sd, .int .u32 (so : Nat), .int .u32 (i0 : Nat), .int .u32 (i1 : Nat), .int .u32 (i2 : Nat), .int .u32 (i3 : Nat), .int .u32 (i4 : Nat), .slice A bl.length c] 27 (0, 0))).alloc (objY false 0 0 0 0 0 0 (.slice none 0 0))) (objY sd so i0 i1 i2 i3 i4 (.slice none 0 0))
    have h3 := (Fr.alloc ((w.alloc (.cells #[.bool sd, .int .u32 (so : Nat), .int .u32 (i0 : Nat), .int .u32 (i1 : Nat), .int .u32 (i2 : Nat), .int .u32 (i3 : Nat), .int .u32 (i4 : Nat), .slice A bl.length c] 27 (0, 0))).alloc (objY false 0 0 0 0 0 0 (.slice none 0 0))) (objY sd so i0 i1 i2 i3 i4 (.slice none 0 0))).heap h1 (fun h => h)
    rw [World.size_alloc, World.size_alloc] at h2
    rw [World.size_alloc] at h3
    exact ⟨h3, h2, World.ownsRow_nil _ _ _ _, hb3, Nat.le_succ _, Nat.lt_succ_self _⟩
  have HS := Lib.hid hs
  rw [show (((w.alloc (.cells #[.bool sd, .int .u32 (so : Nat), .int .u32 (i0 : Nat), .int .u32 (i1 : Nat), .int .u32 (i2 : Nat), .int .u32 (i3 : Nat), .int .u32 (i4 : Nat), .slice A bl.length c] 27)).alloc (.cells #[.bool false, .int .u32 0, .int .u32 0, .int .u32 0, .int .u32 0, .int .u32 0, .int .u32 0, .slice none 0 0] 41)).alloc (.cells #[.bool sd, .int .u32 (so : Nat), .int .u32 (i0 : Nat), .int .u32 (i1 : Nat), .int .u32 (i2 : Nat), .int .u32 (i3 : Nat), .int .u32 (i4 : Nat), .slice none 0 0] 41)) = (((w.alloc (.cells #[.bool sd, .int .u32 (so : Nat), .int .u32 (i0 : Nat), .int .u32 (i1 : Nat), .int .u32 (i2 : Nat), .int .u32 (i3 : Nat), .int .u32 (i4 : Nat), .slice A bl.length c] 27 (0, 0))).alloc (objY false 0 0 0 0 0 0 (.slice none 0 0))).alloc (objY sd so i0 i1 i2 i3 i4 (.slice none 0 0))) from rfl]
  clear hs
  generalize (((w.alloc (.cells #[.bool sd, .int .u32 (so : Nat), .int .u32 (i0 : Nat), .int .u32 (i1 : Nat), .int .u32 (i2 : Nat), .int .u32 (i3 : Nat), .int .u32 (i4 : Nat), .slice A bl.length c] 27 (0, 0))).alloc (objY false 0 0 0 0 0 0 (.slice none 0 0))).alloc (objY sd so i0 i1 i2 i3 i4 (.slice none 0 0))) = w3 at *
  generalize w.heap.size + 1 + 1 = ob at *
  generalize w.heap.size + 1 = rx at *
  go_loopw [16] (fun i wr => ∃ (j : Nat) (sv : Value), j ≤ bl.length ∧ i = .int .i64 j ∧ OwS w rx ob (objY sd so i0 i1 i2 i3 i4 sv) sv (bl.take j) wr) (fun i _ => bl.length - (intOf i).toNat)
  case atStart => exact ⟨0, .slice none 0 0, Nat.zero_le _, rfl, HS.out⟩
  case round =>
    obtain ⟨j, sv, hj, rfl, hs⟩ := hrel
    obtain ⟨A5, c5, rfl⟩ := own_slice hs.own
    have hjl : (bl.take j).length = j := by simp; omega
    rw [hjl] at hs
    have HSt := Lib.hid hs
    clear hs
    by_cases hlt : j < bl.length
    · obtain ⟨b, o, rfl, hbl⟩ := HA.out (by omega)
      obtain ⟨c0, c1, c2, c3, c4, c5', c6⟩ := (HT.out.below HSt.out.below).at j hlt
      have hbl2 := Nat.lt_of_lt_of_le hbl HSt.out.below.size
      have h0 : (0 : Int) ≤ (j : Int) := by omega
      have h1 : (j : Int) < (bl.length : Int) := by omega
      have HTk := Lib.hid (cellsB_take bl j hlt)
      generalize bl[j] = bj at *
      obtain ⟨s, p, m, h, jj, la, d⟩ := bj
      have HA0 := Lib.hid (HSt.out.fr0 (Fr.alloc wr (.cells #[.int .u32 (s : Nat), .int .u8 (p : Nat), .int .i32 m, .int .u32 (h : Nat), .int .u32 (jj : Nat), .int .u32 (la : Nat), .int .u32 (d : Nat)] 56 (0, 0))))
      have HA1 := Lib.hid (HA0.out.fr0 (Fr.alloc (wr.alloc (.cells #[.int .u32 (s : Nat), .int .u8 (p : Nat), .int .i32 m, .int .u32 (h : Nat), .int .u32 (jj : Nat), .int .u32 (la : Nat), .int .u32 (d : Nat)] 56 (0, 0))) (.cells #[.int .u32 (s : Nat), .int .u8 (p : Nat), .int .i32 m, .int .u32 (h : Nat), .int .u32 (jj : Nat), .int .u32 (la : Nat), .int .u32 (d : Nat)] 68 (0, 0))))
      have k7 := (cells8 HA0.out.p).2.2.2.2.2.2.2
      clear HSt
      go_wp2_with (at_builtin; refine wpl_appk rfl _ _ 39 rfl (ob + 1) 68 (.agg #[.int .u32 0, .int .u8 0, .int .i32 0, .int .u32 0, .int .u32 0, .int .u32 0, .int .u32 0]) 7 28 Try.underlying39 (by kernel_rfl) rfl (by decide) _ _ _ rfl HA1.out.own _ 1 1 (DB.row ⟨s, p, m, h, jj, la, d⟩) rfl rfl ?c2 (rows_one _) ?c4 ?c5 ?c6 ?c7)
      case c2 => exact fun _ _ h => h
      case c4 => unfold maxLen; omega
      case c5 => omega
      case c6 => have := obj_lt HA1.out.p; rw [World.size_alloc, World.size_alloc] at this; omega
      case c7 =>
        intro v' w1 ho hg _
        obtain ⟨A7, c7, rfl⟩ := own_slice ho
        have HP7 := Lib.hid (HA1.out.app (sv' := .slice A7 (j + 1) c7) (x := ⟨s, p, m, h, jj, la, d⟩) (by rw [hjl]; exact ho) hg)
        have k57 := (cells8 HP7.out.p).2.2.2.2.2.2.2
        have z57 := (frz7 HP7.out.p).2.2.2.2.2.2.2
        clear ho hg
        have hn7 := HP7.out.set 7 (.slice A7 (j + 1) c7)
        rw [← HTk.out] at hn7
        have HN7 := Lib.hid (show OwS w rx ob (objY sd so i0 i1 i2 i3 i4 (.slice A7 (j + 1) c7)) (.slice A7 (j + 1) c7) (bl.take (j + 1)) _ from hn7)
        clear hn7
        go_wp2_with fail
        go_roundw
        case rel => first | exact ⟨j + 1, .slice A7 (j + 1) c7, by omega, by go_num, HN7.out⟩ | exact ⟨j + 1, by omega, .slice A7 (j + 1) c7, by go_num, HN7.out⟩ | exact ⟨j + 1, by omega, by go_num, .slice A7 (j + 1) c7, HN7.out⟩
        case measure => simp [intOf]; omega
    · have : j = bl.length := by omega
      subst this
      have hb := HT.out.2
      have hfin := HSt.out.own
      rw [List.take_length] at hfin
      have HF := Lib.hid hfin
      have HOk := Lib.hid hb
      have o0 := HSt.out.o0
      have o1 := HSt.out.o1
      obtain ⟨p0, p1, p2, p3, p4, p5, p6, p7⟩ := cells8 HSt.out.p
      obtain ⟨m0, m1, m2, m3, m4, m5, m6, m7⟩ := cells8 HSt.out.res
      obtain ⟨q0, q1, q2, q3, q4, q5, q6, q7⟩ := frz7 HSt.out.res
      clear hb hfin
      go_wp2_with fail
      generalize hW : World.setCell _ _ _ = wf
      obtain ⟨hx, hfx⟩ := objs8 HSt.out.res _ _ _ _ _ _ _ _ wf hW.symm
      clear hW p0 p1 p2 p3 p4 p5 p6 p7 m0 m1 m2 m3 m4 m5 m6 m7 q0 q1 q2 q3 q4 q5 q6 q7
      obtain ⟨m0, m1, m2, m3, m4, m5, m6, m7⟩ := cells8 hx
      refine bodyPost_ret (v := .agg #[.bool sd, .int .u32 (so : Nat), .int .u32 (i0 : Nat), .int .u32 (i1 : Nat), .int .u32 (i2 : Nat), .int .u32 (i3 : Nat), .int .u32 (i4 : Nat), .slice A5 bl.length c5]) (by simp [results, Try.results9, go_sem, m0, m1, m2, m3, m4, m5, m6, m7]; try rfl) rfl ?_
      exact HQ.out _ _ ⟨.slice A5 bl.length c5, rfl, BlS.frx rfl HF.out HOk.out hfx (fun k hk (hx : k = rx) => by omega), HSt.out.below.trans (hfx.below HSt.out.below.size (fun k (hk : k = rx) => by omega))⟩
end Go.Proofs.Ythgajlmhgbhmlaa
