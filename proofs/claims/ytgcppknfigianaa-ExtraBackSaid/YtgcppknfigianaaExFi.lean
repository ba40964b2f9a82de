/- The walks of extra.Find, and of extra.Read over a byte that may not be. -/
import Derived.Test.YtgcppknfigianaaExRd
namespace Go.Proofs.Ytgcppknfigianaa
open Go.RowKit

def findI (ts : List It) (x : Nat) : Option (List UInt8) := (ts.find? (fun t => t.n == x)).map It.b
theorem find_hit (ts : List It) (x j : Nat) (h : j < ts.length) (he : ts[j].n = x) : findI (ts.drop j) x = some ts[j].b := by
  rw [List.drop_eq_getElem_cons h, findI, List.find?_cons_of_pos (by simp [he])]; rfl
theorem find_miss (ts : List It) (x j : Nat) (h : j < ts.length) (he : ts[j].n ≠ x) : findI (ts.drop j) x = findI (ts.drop (j + 1)) x := by
  rw [List.drop_eq_getElem_cons h, findI, List.find?_cons_of_neg (by simp [he])]; rfl
set_option maxHeartbeats 400000 in
theorem ifind_any (v : Value) (ts : List It) (x : Nat) (w : World) (h : ItS w v ts) (h400 : ∀ t ∈ ts, t.b.length ≤ 400) :
    Calls Try.prog 11 #[v, .int .u8 (x : Nat)] w fun e w' => ∃ u, e = .returned (.tuple #[u, .bool (findI ts x).isSome]) ∧ BS w' u ((findI ts x).getD []) ∧ Below w.heap.size w w' := by
  have HT := Lib.hid h
  have H4 := Lib.hid h400
  obtain ⟨A, c, rfl, hc, hcm, hA⟩ := h.parts
  have HA := Lib.hid hA
  clear h hA h400
  refine calls_q fun Q HQ => ?_
  go_enter Try.func11, Try.ntmps11
  go_wp2_with fail
  go_loopw [10] (fun i wr => ∃ j : Nat, j ≤ ts.length ∧ i = .int .i64 j ∧ Below w.heap.size w wr ∧ findI ts x = findI (ts.drop j) x) (fun i _ => ts.length - (intOf i).toNat)
  case atStart => exact ⟨0, Nat.zero_le _, rfl, Below.refl _ _, rfl⟩
  case round =>
    obtain ⟨j, hj, rfl, hb, hf⟩ := hrel
    have HB := Lib.hid hb
    have HF := Lib.hid hf
    clear hb hf
    by_cases hlt : j < ts.length
    · obtain ⟨b, o, rfl, hbl⟩ := HA.out (by omega)
      obtain ⟨c0, c1⟩ := (HT.out.below HB.out).at j hlt
      have hbs := ((HT.out.2 _ (List.getElem_mem hlt)).b).below HB.out
      have hle := H4.out _ (List.getElem_mem hlt)
      have hbl2 := Nat.lt_of_lt_of_le hbl HB.out.size
      have HH := Lib.hid (find_hit ts x j hlt)
      have HM := Lib.hid (find_miss ts x j hlt)
      generalize (ts[j]'hlt).n = n at *
      generalize (ts[j]'hlt).v = vv at *
      generalize (ts[j]'hlt).b = bb at *
      obtain ⟨A2, cc, rfl, _, hcm2, _⟩ := bs_parts hbs
      have HBs := Lib.hid (hbs.below (below_alloc (.cells #[.int .u8 (n : Nat), .slice A2 bb.length cc] 37)))
      clear hbs
      have h0 : (0 : Int) ≤ (j : Int) := by omega
      have h1 : (j : Int) < (ts.length : Int) := by omega
      by_cases hn : n = x
      · have hx : ((n : Int) == (x : Int)) = true := by simp [hn]
        have HY := Lib.hid (HF.out.trans (HH.out hn))
        clear hn
        go_wp2_with fail
        refine (sclone_any _ bb _ HBs.out (by omega)).mono ?_
        rintro e w1 ⟨u, rfl, ho, hb⟩
        have HO := Lib.hid ho
        have HB1 := Lib.hid ((HB.out.alloc HB.out.size (.cells #[.int .u8 (n : Nat), .slice A2 bb.length cc] 37)).trans (hb.mono (by have := HB.out.size; simp; omega)))
        clear ho hb
        go_wp2_with fail
        exact HQ.out _ _ ⟨u, by rw [HY.out]; rfl, by rw [HY.out]; exact own_bs HO.out, HB1.out⟩
      · have hx : ((n : Int) == (x : Int)) = false := by simp; omega
        have HY := Lib.hid (HF.out.trans (HM.out hn))
        clear hn
        go_wp2_with fail
        go_roundw
        case rel => exact ⟨j + 1, by omega, by go_num, HB.out.alloc HB.out.size _, HY.out⟩
        case measure => simp [intOf]; omega
    · have : j = ts.length := by omega
      subst this
      have HY := Lib.hid (show findI ts x = none by rw [HF.out, List.drop_of_length_le (Nat.le_refl _)]; rfl)
      go_wp2_with fail
      exact HQ.out _ _ ⟨.slice none 0 0, by rw [HY.out]; rfl, by rw [HY.out]; exact BS.nil _, HB.out⟩
set_option maxHeartbeats 400000 in
theorem iread_bad (v : Value) (w : World) (hv : BS w v [3]) :
    Calls Try.prog 7 #[v] w fun e w' => (∃ u, e = .returned (.tuple #[u, .int .i64 2])) ∧ Below w.heap.size w w' := by
  obtain ⟨A, c, rfl, hc, hcm, hr⟩ := bs_parts hv
  obtain ⟨b, o, rfl, hb, hcell⟩ := hr (by decide)
  have c0 := hcell 0 (by decide)
  simp only [List.getElem_cons_zero, Nat.add_zero, show ((3 : UInt8).toNat : Nat) = 3 from rfl] at c0
  clear hcell hr hv
  refine calls_q fun Q HQ => ?_
  simp only [List.length_cons, List.length_nil] at *
  go_enter Try.func7, Try.ntmps7
  go_wp2_with fail
  go_step3
  go_wp2_with fail
  go_step3
  go_wp2_with fail
  go_loopw [0, 4] (fun b' u wr => b' = .slice (some ⟨b, o, none⟩) 1 c ∧ wr = w) (fun b _ _ => slen b)
  case atStart => exact ⟨rfl, rfl⟩
  case round =>
    obtain ⟨rfl, rfl⟩ := hrel
    by_cases hc1 : c = 1
    · go_wp2_with fail
      exact HQ.out _ _ ⟨⟨.slice none 0 0, rfl⟩, Below.refl _ _⟩
    · go_wp2_with fail
      exact HQ.out _ _ ⟨⟨.slice none 0 0, rfl⟩, Below.refl _ _⟩
end Go.Proofs.Ytgcppknfigianaa
