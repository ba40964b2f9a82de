/- Two lists of bytes held against each other: the walk of the document's Same. -/
import Derived.Test.YtonkecfgopbclaaMem
namespace Go.Proofs.Ytonkecfgopbclaa
open Go.RowKit
/-! ### two lists of bytes held against each other -/
theorem byte_ne {x y : UInt8} (h : x ≠ y) : (((x.toNat : Nat) : Int) != ((y.toNat : Nat) : Int)) = true := by
  have : x.toNat ≠ y.toNat := fun e => h (UInt8.toNat_inj.1 e)
  simp; omega
theorem byte_eq {x y : UInt8} (h : x = y) : (((x.toNat : Nat) : Int) != ((y.toNat : Nat) : Int)) = false := by
  rw [h]; simp
theorem take_eq_step {l m : List UInt8} {j : Nat} (h1 : j < l.length) (h2 : j < m.length) (h : l.take j = m.take j) (he : l[j] = m[j]) : l.take (j + 1) = m.take (j + 1) := by
  rw [take_snoc8 l j h1, take_snoc8 m j h2, h, he]
set_option maxHeartbeats 400000 in
theorem rsame_any (v u : Value) (l m : List UInt8) (w : World) (hv : BS w v l) (hu : BS w u m) :
    Calls Try.prog 46 #[v, u] w fun e w' => e = .returned (.bool (l == m)) ∧ ∃ n, w' = w.drewN n := by
  have hlen := hv.len
  have hlen2 := hu.len
  obtain ⟨A, c, rfl, hc, hm, hr⟩ := hv
  obtain ⟨A2, c2, rfl, hc2, hm2, hr2⟩ := hu
  have HR := Lib.hid hr
  have HR2 := Lib.hid hr2
  clear hr hm hc hr2 hm2 hc2
  refine calls_q fun Q HQ => ?_
  by_cases hl : l.length = m.length
  · have hne : ((l.length : Int) != (m.length : Int)) = false := by rw [hl]; simp
    have HL := Lib.hid hl
    clear hl
    go_enter Try.func46, Try.ntmps46
    go_wp2
    go_loopw [5] (fun i wr => ∃ j d : Nat, j ≤ l.length ∧ i = .int .i64 j ∧ l.take j = m.take j ∧ wr = w.drewN d) (fun i _ => l.length - (intOf i).toNat)
    case atStart => exact ⟨0, 0, Nat.zero_le _, rfl, by simp, rfl⟩
    case round =>
      obtain ⟨j, d, hj, rfl, ht, rfl⟩ := hrel
      have HT := Lib.hid ht
      clear ht
      by_cases hlt : j < l.length
      · have hlt2 : j < m.length := by have := HL.out; omega
        obtain ⟨b, o, rfl, hb, hcell⟩ := HR.out (by omega)
        obtain ⟨b2, o2, rfl, hb2, hcell2⟩ := HR2.out (by omega)
        have hc1 := hcell j hlt
        have hc2 := hcell2 j hlt2
        clear hcell hcell2
        have hi0 : (0 : Int) ≤ (j : Int) := by omega
        have hi1 : (j : Int) < (l.length : Int) := by omega
        have hi2 : (j : Int) < (m.length : Int) := by omega
        by_cases he : l[j] = m[j]
        · have hx := byte_eq he
          have HE := Lib.hid he
          clear he
          go_wp2
          go_quiet (fail)
          go_wp2
          go_roundw
          case rel => exact ⟨j + 1, _, by omega, by go_num, take_eq_step hlt hlt2 HT.out HE.out, rfl⟩
          case measure => simp [intOf]; omega
        · have hx := byte_ne he
          have HE := Lib.hid he
          clear he
          go_wp2
          go_quiet (fail)
          go_wp2
          refine HQ.out _ _ ⟨ret_bool ?_, _, World.drewN_drewN _ _ _⟩
          symm
          simp only [beq_eq_false_iff_ne, ne_eq]
          rintro rfl
          exact HE.out rfl
      · have : j = l.length := by omega
        subst this
        go_wp2
        refine HQ.out _ _ ⟨ret_bool ?_, _, rfl⟩
        symm
        have h1 := HT.out
        have h2 := HL.out
        rw [List.take_of_length_le (Nat.le_refl _), List.take_of_length_le (by omega)] at h1
        simp [h1]
  · have hne : ((l.length : Int) != (m.length : Int)) = true := by simp; omega
    have HL := Lib.hid hl
    clear hl
    go_enter Try.func46, Try.ntmps46
    go_wp2
    refine HQ.out _ _ ⟨ret_bool ?_, 0, rfl⟩
    symm
    simp only [beq_eq_false_iff_ne, ne_eq]
    rintro rfl
    exact HL.out rfl

end Go.Proofs.Ytonkecfgopbclaa
