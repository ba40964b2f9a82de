/- The walks of what may be: head.Right, the document's Right; own; large. -/
import Derived.Test.YtphaehponljofaaHd
namespace Go.Proofs.Ytphaehponljofaa
open Go.RowKit

theorem sizeN_int (d : PD) : (d.size : Int) = 12 + 4 * (d.srcs.length : Int) + d.ex.length + d.pl.length + (if d.has then 4 else 0) := by
  unfold PD.size
  split <;> omega
set_option maxHeartbeats 400000 in
theorem size_raw (x0 x1 x2 x3 x4 x7 : Value) (As Ae Ap : Option Addr) (ls cs le ce lp cp : Nat) (has : Bool) (w : World) (f1 : ls ≤ 40) (f2 : le ≤ 1000) (f3 : lp ≤ 1000) :
    Calls Try.prog 39 #[.agg #[x0, x1, x2, x3, x4, .slice As ls cs, .bool has, x7, .slice Ae le ce, .slice Ap lp cp]] w fun e w' => e = .returned (.int .i64 (12 + 4 * (ls : Int) + le + lp + (if has then 4 else 0))) ∧ Below w.heap.size w w' := by
  refine calls_q fun Q HQ => ?_
  cases has
  · go_enter Try.func39, Try.ntmps39
    go_wp2_with fail
    exact HQ.out _ _ ⟨ret_int (by simp), below_alloc _⟩
  · go_enter Try.func39, Try.ntmps39
    go_wp2_with fail
    exact HQ.out _ _ ⟨ret_int (by simp), below_alloc _⟩
set_option maxHeartbeats 400000 in
theorem right_any (v : Value) (d : PD) (w : World) (hv : PV w v d) (hf : d.Few) :
    Calls Try.prog 12 #[v] w fun e w' => e = .returned (.bool (rightB d)) ∧ Below w.heap.size w w' := by
  obtain ⟨As, cs, Ae, ce, Ap, cp, rfl, ⟨a1, a2, a3⟩, ⟨b1, b2, b3⟩, c1, c2, c3⟩ := hv.parts
  have f1 := hf.srcs
  have f2 := hf.ex
  have f3 := hf.pl
  have hR : rightB d = decide (d.ty ≤ 127 ∧ d.srcs.length ≤ 15 ∧ d.ex.length % 4 = 0 ∧ (d.has = true ∨ (d.prof = 0 ∧ d.ex.length = 0)) ∧ d.size ≤ 200) := rfl
  have hS := sizeN_int d
  have HR := Lib.hid hR
  have HS := Lib.hid hS
  clear hv a3 b3 c3 hf hR hS
  refine calls_q fun Q HQ => ?_
  unfold pcells at *
  go_enter Try.func12, Try.ntmps12
  go_wp2_with (go_at_call 39; refine (size_raw _ _ _ _ _ _ _ _ _ _ _ _ _ _ _ _ _ f1 f2 f3).mono ?_; rintro e w1 ⟨rfl, hb⟩; have HB := Lib.hid hb; clear hb)
  all_goals (have h1 := HR.out; have h2 := HS.out; refine HQ.out _ _ ⟨ret_bool ?_, ?_⟩)
  all_goals first
    | exact below_alloc _
    | exact (below_alloc _).trans (HB.out.mono (by simp))
    | skip
  all_goals (rw [h1, Bool.eq_iff_iff]; clear HR HS HQ h1; cases hh : d.has <;> simp [hh, -List.length_eq_zero_iff] at * <;> omega)
theorem PD.flat (d : PD) : ∃ m ty seq st so srcs has prof ex pl, d = ⟨m, ty, seq, st, so, srcs, has, prof, ex, pl⟩ := ⟨_, _, _, _, _, _, _, _, _, _, rfl⟩
set_option maxHeartbeats 400000 in
theorem rright_any (v : Value) (d : PD) (w : World) (hv : PV w v d) (hf : d.Few) :
    Calls Try.prog 13 #[v] w fun e w' => e = .returned (.bool (rightB d)) ∧ Below w.heap.size w w' := by
  obtain ⟨As, cs, Ae, ce, Ap, cp, rfl, ⟨a1, a2, a3⟩, ⟨b1, b2, b3⟩, c1, c2, c3⟩ := hv.parts
  have f1 := hf.srcs
  have f2 := hf.ex
  have f3 := hf.pl
  have hR : rightB d = decide (d.ty ≤ 127 ∧ d.srcs.length ≤ 15 ∧ d.ex.length % 4 = 0 ∧ (d.has = true ∨ (d.prof = 0 ∧ d.ex.length = 0)) ∧ d.size ≤ 200) := rfl
  have hS := sizeN_int d
  have HR := Lib.hid hR
  have HS := Lib.hid hS
  clear hv a3 b3 c3 hf hR hS
  refine calls_q fun Q HQ => ?_
  unfold pcells at *
  go_enter Try.func13, Try.ntmps13
  go_wp2_with fail
  all_goals (have h1 := HR.out; have h2 := HS.out; refine HQ.out _ _ ⟨ret_bool ?_, ?_⟩)
  all_goals first
    | exact below_alloc _
    | skip
  all_goals (rw [h1, Bool.eq_iff_iff]; clear HR HS HQ h1; cases hh : d.has <;> simp [hh, -List.length_eq_zero_iff] at * <;> omega)
set_option maxHeartbeats 400000 in
theorem own_any (v : Value) (d : PD) (w : World) (hv : PV w v d) :
    Calls Try.prog 9 #[v] w fun e w' => e = .returned v ∧ Below w.heap.size w w' := by
  obtain ⟨As, cs, Ae, ce, Ap, cp, rfl, ⟨a1, a2, a3⟩, ⟨b1, b2, b3⟩, c1, c2, c3⟩ := hv.parts
  clear hv a3 b3 c3
  refine calls_q fun Q HQ => ?_
  unfold pcells at *
  go_enter Try.func9, Try.ntmps9
  go_wp2_with fail
  refine bodyPost_ret (v := pcells d (.slice As d.srcs.length cs) (.slice Ae d.ex.length ce) (.slice Ap d.pl.length cp)) (by simp [results, Try.results9, go_sem, pcells]; try rfl) rfl ?_
  exact HQ.out _ _ ⟨rfl, (below_alloc _).alloc (by simp) _⟩
def largeB (d : PD) : Bool := decide (40 < d.srcs.length ∨ 1000 < d.ex.length ∨ 1000 < d.pl.length)
theorem large_few {d : PD} (h : largeB d = false) : d.Few := by
  unfold largeB at h
  rw [decide_eq_false_iff_not] at h
  exact ⟨by omega, by omega, by omega⟩
set_option maxHeartbeats 400000 in
theorem hlarge_any (v : Value) (d : PD) (w : World) (hv : PV w v d) :
    Calls Try.prog 6 #[v] w fun e w' => e = .returned (.bool (largeB d)) ∧ Below w.heap.size w w' := by
  obtain ⟨As, cs, Ae, ce, Ap, cp, rfl, ⟨a1, a2, a3⟩, ⟨b1, b2, b3⟩, c1, c2, c3⟩ := hv.parts
  have hL : largeB d = decide (40 < d.srcs.length ∨ 1000 < d.ex.length ∨ 1000 < d.pl.length) := rfl
  have HL := Lib.hid hL
  clear hv a3 b3 c3 hL
  refine calls_q fun Q HQ => ?_
  unfold pcells at *
  go_enter Try.func6, Try.ntmps6
  go_wp2_with fail
  all_goals (refine HQ.out _ _ ⟨ret_bool ?_, below_alloc _⟩; have h1 := HL.out; clear HL HQ; rw [h1, Bool.eq_iff_iff]; simp at *; omega)
end Go.Proofs.Ytphaehponljofaa
