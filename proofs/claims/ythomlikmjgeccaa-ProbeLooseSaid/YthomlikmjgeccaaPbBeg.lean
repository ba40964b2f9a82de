/- The walk of probe.Begins. -/
import Derived.Test.YthomlikmjgeccaaPbRead
namespace Go.Proofs.Ythomlikmjgeccaa
open Go.RowKit

set_option maxHeartbeats 1000000 in
theorem beg_any (v : Value) (l : List UInt8) (w : World) (hv : BS w v l) : Calls Try.prog 7 #[v] w fun e w' => e = .returned (.bool (begB l)) ∧ Below w.heap.size w w' := by
  have hr := pread_any v l w hv
  unfold PbReadPost at hr
  have hvr := hv
  obtain ⟨A, c, rfl, hc, hcm, hrow⟩ := bs_parts hv
  have HR := Lib.hid hr
  refine calls_q fun Q HQ => ?_
  unfold begB at HQ
  generalize resD l = d at *
  generalize resE l = re at *
  generalize resN l = n at *
  obtain ⟨d0, d1, d2, d3, d4, d5, d6, d7, d8⟩ := d
  simp only [DD.val, DD.cs] at *
  have HV := Lib.hid hvr
  have HRow := Lib.hid hrow
  clear hv hvr hr hrow
  go_enter Try.func7, Try.ntmps7
  go_wp2_with fail
  refine HR.out.mono ?_
  rintro e w1 ⟨rfl, hb⟩
  have hb2 := hb.trans (below_alloc (w := w1) (.cells #[.bool d0, .bool d1, .int .u8 (d2 : Nat), .int .i64 d3, .bool d4, .int .i64 d5, .int .i64 d6, .bool d7, .int .i64 d8] 23) |>.mono hb.size)
  have HB := Lib.hid hb2
  have HB1 := Lib.hid hb
  clear hb hb2 HR
  by_cases he : re = 0
  · subst he
    cases d1
    · go_wp2_with fail
      exact HQ.out _ _ ⟨ret_bool (by simp), HB.out⟩
    · by_cases hz : d2 = 0
      · subst hz
        by_cases hn : n < l.length
        · obtain ⟨b, o, rfl, hbl, hcell⟩ := HRow.out (by omega)
          have hcn := (HB1.out.cell (p := ⟨b, o + n, none⟩) hbl).trans (hcell n hn)
          have hg : l.getD n 0 = l[n] := by simp [hn]
          have hev : evenAt l n = decide (l[n].toNat % 2 = 0) := by unfold evenAt; rw [hg]; simp [hn]
          rw [hev] at HQ
          have hlt := UInt8.toNat_lt l[n]
          generalize l[n].toNat = x at *
          have hcn2 := (Fr.alloc w1 (.cells #[.bool d0, .bool true, .int .u8 0, .int .i64 d3, .bool d4, .int .i64 d5, .int .i64 d6, .bool d7, .int .i64 d8] 23)).cell hcn (fun h => h)
          clear hcell hev hg HRow hcn
          go_wp2_with fail
          exact HQ.out _ _ ⟨ret_bool (by simp only [decide_true, Bool.true_and]; rw [Bool.eq_iff_iff, beq_iff_eq, decide_eq_true_eq]; omega), HB.out⟩
        · go_wp2_with fail
          exact HQ.out _ _ ⟨ret_bool (by unfold evenAt; simp [hn]), HB.out⟩
      · go_wp2_with fail
        exact HQ.out _ _ ⟨ret_bool (by simp [hz]), HB.out⟩
  · go_wp2_with fail
    exact HQ.out _ _ ⟨ret_bool (by simp [he]), HB.out⟩
end Go.Proofs.Ythomlikmjgeccaa
