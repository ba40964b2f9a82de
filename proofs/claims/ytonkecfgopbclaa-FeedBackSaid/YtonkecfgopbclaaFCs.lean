/- The walk of same: two chunks held against each other. -/
import Derived.Test.YtonkecfgopbclaaCkSm
namespace Go.Proofs.Ytonkecfgopbclaa
open Go.RowKit

theorem fck_one (w : World) (n y : Nat) (v : Value) (B : List UInt8) (t : TypeId) (hn : n < 256) (hy : y < 256) (h : BS w v B) :
    CkS (w.alloc (.cells #[.int .u8 (n : Nat), .int .u8 (y : Nat), v] t)) (.slice (some ⟨w.heap.size, 0, none⟩) 1 1) [⟨n, y, v, B⟩] := by
  have ho := own_lit w 0 t 3 1 (cellsC [⟨n, y, v, B⟩]) rfl (Nat.zero_le _) (by decide)
  refine own_chunks rfl ho (fun x hx => ?_)
  obtain rfl := List.mem_singleton.1 hx
  exact ⟨hn, hy, h.below (below_alloc _)⟩
set_option maxHeartbeats 1000000 in
theorem fcsame_is {r : Bool} (n y : Nat) (v : Value) (B : List UInt8) (n2 y2 : Nat) (u : Value) (B2 : List UInt8) (w : World) (hv : BS w v B) (hu : BS w u B2)
    (hn : n < 256) (hy : y < 256) (hn2 : n2 < 256) (hy2 : y2 < 256) (h : decide ((n, y, B) = (n2, y2, B2)) = r) :
    Calls Try.prog 13 #[.agg #[.int .u8 (n : Nat), .int .u8 (y : Nat), v], .agg #[.int .u8 (n2 : Nat), .int .u8 (y2 : Nat), u]] w fun e w' => e = .returned (.bool r) ∧ Below w.heap.size w w' := by
  obtain ⟨A, c, rfl, _, _, _⟩ := bs_parts hv
  obtain ⟨A2, c2, rfl, _, _, _⟩ := bs_parts hu
  have hb1 := below_alloc (w := w) (.cells #[.int .u8 (n : Nat), .int .u8 (y : Nat), .slice A B.length c] 29)
  have hb2 := hb1.alloc hb1.size (.cells #[.int .u8 (n2 : Nat), .int .u8 (y2 : Nat), .slice A2 B2.length c2] 44)
  have k1 := fck_one _ n y _ B 44 hn hy (hv.below hb2)
  have hb3 := hb2.alloc hb2.size (.cells #[.int .u8 (n : Nat), .int .u8 (y : Nat), .slice A B.length c] 44)
  have k2 := fck_one _ n2 y2 _ B2 44 hn2 hy2 (hu.below hb3)
  have hb4 := hb3.alloc hb3.size (.cells #[.int .u8 (n2 : Nat), .int .u8 (y2 : Nat), .slice A2 B2.length c2] 44)
  have k3 := k1.below (below_alloc (.cells #[.int .u8 (n2 : Nat), .int .u8 (y2 : Nat), .slice A2 B2.length c2] 44))
  have hd : decide (ds [(⟨n, y, .slice A B.length c, B⟩ : Ck)] = ds [⟨n2, y2, .slice A2 B2.length c2, B2⟩]) = r := by
    rw [← h]
    simp [ds, Ck.d]
  have HC := Lib.hid (csame_is _ _ _ _ _ k3 k2 hd)
  have HB := Lib.hid hb4
  clear hv hu hb1 hb2 hb3 hb4 k1 k2 k3 hd h
  refine calls_q fun Q HQ => ?_
  go_enter Try.func13, Try.ntmps13
  go_wp2_with fail
  simp only [World.size_alloc] at HC
  refine HC.out.mono ?_
  rintro e w1 ⟨rfl, hb⟩
  have HB1 := Lib.hid (HB.out.trans (hb.mono (by omega)))
  clear hb HC HB
  go_wp2_with fail
  exact HQ.out _ _ ⟨rfl, HB1.out⟩
end Go.Proofs.Ytonkecfgopbclaa
