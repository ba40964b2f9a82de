/- The walk of write: a thing written. -/
import Derived.Test.YtglpgfanninbnaaWireT
import Derived.Test.YtglpgfanninbnaaWireW
import Derived.Test.YtglpgfanninbnaaWireR
namespace Go.Proofs.Ytglpgfanninbnaa
open Go.RowKit

/-- a thing's bytes -/
def encT (t : Th) : List UInt8 := if 1 ≤ t.k ∧ t.k ≤ 4 then bytesI t.n.toNat t.k else if t.k = 5 then t.b else []
theorem bytesL_mod (x n : Nat) : bytesL (x % 256 ^ n) n = bytesL x n := by
  unfold bytesL
  refine List.map_congr_left fun i hi => ?_
  have hi := List.mem_range.1 hi
  apply UInt8.toNat_inj.1
  rw [UInt8.toNat_ofNat', UInt8.toNat_ofNat']
  have h1 : (256 : Nat) ^ n = 256 ^ (n - 1 - i) * 256 ^ (i + 1) := by rw [← Nat.pow_add]; congr 1; omega
  rw [h1, Nat.mod_mul_right_div_self, Nat.pow_succ, Nat.mul_comm, show (2 : Nat) ^ 8 = 256 by decide, Nat.mod_mul_right_mod]
theorem encT_len (t : Th) (h : t.b.length ≤ 40) : (encT t).length ≤ 40 := by
  unfold encT bytesI
  split
  · split
    · rw [bytesL_len]; omega
    · simp
  · split
    · exact h
    · simp
theorem enc_num (n : Int) (k : Nat) (v : Value) (b : List UInt8) (e : Int) (h : 1 ≤ k ∧ k ≤ 4) : bytesI n.toNat (k : Int) = encT ⟨(k : Int), n, v, b, e⟩ := by
  unfold encT
  have : 1 ≤ (⟨(k : Int), n, v, b, e⟩ : Th).k ∧ (⟨(k : Int), n, v, b, e⟩ : Th).k ≤ 4 := ⟨by show 1 ≤ (k : Int); omega, by show (k : Int) ≤ 4; omega⟩
  rw [if_pos this]
theorem enc1 (n : Int) (v : Value) (b : List UInt8) (e : Int) (h : 0 ≤ n) : bytesI (n % 256).toNat 1 = encT ⟨1, n, v, b, e⟩ := by
  refine Eq.trans ?_ (enc_num n 1 v b e (by omega))
  have h1 : (n % 256).toNat = n.toNat % 256 ^ 1 := by omega
  unfold bytesI
  rw [if_pos (by omega), if_pos (by omega), h1]
  exact bytesL_mod n.toNat 1
theorem enc2 (n : Int) (v : Value) (b : List UInt8) (e : Int) (h : 0 ≤ n) : bytesI (IntKind.u16.wrap n).toNat 2 = encT ⟨2, n, v, b, e⟩ := by
  refine Eq.trans ?_ (enc_num n 2 v b e (by omega))
  rw [wrap_u16]
  have h1 : (n % 65536).toNat = n.toNat % 256 ^ 2 := by omega
  unfold bytesI
  rw [if_pos (by omega), if_pos (by omega), h1]
  exact bytesL_mod n.toNat 2
set_option maxHeartbeats 1000000 in
theorem write_any (B pb : Nat) (ob : Option Nat) (l : List UInt8) (t : Th) (w : World) (hw : Wr B w pb ob l) (ht : t.Ok w) (hb : t.b.length ≤ 40) (hm : l.length ≤ 140737488300000) :
    Calls Try.prog 8 #[.pointer (some ⟨pb, 0, none⟩), t.val] w fun e w' => e = .returned (.tuple #[]) ∧ WPost B w pb ob (l ++ encT t) w' := by
  obtain ⟨A, c, hv, hc, hcm, _⟩ := bs_parts ht.b
  have HV := Lib.hid hv
  have HT := Lib.hid ht
  have n0 := ht.n.lo
  have n1 := ht.n.hi
  have hk : t.k = 1 ∨ t.k = 2 ∨ t.k = 3 ∨ t.k = 4 ∨ t.k = 5 ∨ (t.k == 1) = false ∧ (t.k == 2) = false ∧ (t.k == 3) = false ∧ (t.k == 4) = false ∧ (t.k == 5) = false ∧ encT t = [] := by
    by_cases h1 : t.k = 1
    · exact .inl h1
    by_cases h2 : t.k = 2
    · exact .inr (.inl h2)
    by_cases h3 : t.k = 3
    · exact .inr (.inr (.inl h3))
    by_cases h4 : t.k = 4
    · exact .inr (.inr (.inr (.inl h4)))
    by_cases h5 : t.k = 5
    · exact .inr (.inr (.inr (.inr (.inl h5))))
    refine .inr (.inr (.inr (.inr (.inr ⟨by simp [h1], by simp [h2], by simp [h3], by simp [h4], by simp [h5], ?_⟩))))
    unfold encT
    rw [if_neg (by omega), if_neg h5]
  obtain ⟨k, n, v, b, e⟩ := t
  simp only [Th.val] at *
  clear hv ht
  have ha := Fr.alloc w (.cells #[.int .i64 k, .int .u32 n, v, .int .i64 e] 32)
  have HB := Lib.hid ha.below0
  have HW1 := Lib.hid (hw.fr0 ha)
  have HU1 := Lib.hid (HT.out.b.fr ha (fun _ _ h => h))
  obtain rfl := HV.out
  clear ha hw HV
  refine calls_q fun Q HQ => ?_
  rcases hk with rfl | rfl | rfl | rfl | rfl | ⟨e1, e2, e3, e4, e5, he⟩
  · go_enter Try.func8, Try.ntmps8
    go_wp2_with fail
    refine (wbyte_any B pb ob l _ _ HW1.out (by constructor <;> omega) hm).mono ?_
    rintro e w2 ⟨rfl, hp⟩
    have HP := Lib.hid (hp.after HB.out)
    clear hp
    go_wp2_with fail
    go_end0
    refine HQ.out _ _ ⟨rfl, ?_⟩
    have := HP.out
    rw [enc1 n (.slice A b.length c) b e n0] at this
    exact this
  · go_enter Try.func8, Try.ntmps8
    go_wp2_with fail
    refine (wshort_any B pb ob l _ _ HW1.out (by rw [wrap_u16]; constructor <;> omega) hm).mono ?_
    rintro e w2 ⟨rfl, hp⟩
    have HP := Lib.hid (hp.after HB.out)
    clear hp
    go_wp2_with fail
    go_end0
    refine HQ.out _ _ ⟨rfl, ?_⟩
    have := HP.out
    rw [enc2 n (.slice A b.length c) b e n0] at this
    exact this
  · go_enter Try.func8, Try.ntmps8
    go_wp2_with fail
    refine (wthree_any B pb ob l _ _ HW1.out (by constructor <;> omega) hm).mono ?_
    rintro e w2 ⟨rfl, hp⟩
    have HP := Lib.hid (hp.after HB.out)
    clear hp
    go_wp2_with fail
    go_end0
    refine HQ.out _ _ ⟨rfl, ?_⟩
    have := HP.out
    have he := enc_num n 3 (.slice A b.length c) b e (by omega)
    rw [show bytesI n.toNat 3 = _ from he] at this
    exact this
  · go_enter Try.func8, Try.ntmps8
    go_wp2_with fail
    refine (wnum_any B pb ob l _ _ HW1.out (by constructor <;> omega) hm).mono ?_
    rintro e w2 ⟨rfl, hp⟩
    have HP := Lib.hid (hp.after HB.out)
    clear hp
    go_wp2_with fail
    go_end0
    refine HQ.out _ _ ⟨rfl, ?_⟩
    have := HP.out
    have he := enc_num n 4 (.slice A b.length c) b e (by omega)
    rw [show bytesI n.toNat 4 = _ from he] at this
    exact this
  · go_enter Try.func8, Try.ntmps8
    go_wp2_with fail
    refine (wraw_any B pb ob l _ b _ HW1.out HU1.out (by omega)).mono ?_
    rintro e w2 ⟨rfl, hp⟩
    have HP := Lib.hid (hp.after HB.out)
    clear hp
    go_wp2_with fail
    go_end0
    exact HQ.out _ _ ⟨rfl, HP.out⟩
  · have HE := Lib.hid he
    clear he
    go_enter Try.func8, Try.ntmps8
    go_wp2_with fail
    go_end0
    refine HQ.out _ _ ⟨rfl, ?_⟩
    rw [HE.out, List.append_nil]
    exact ⟨ob, HW1.out, (Fr.of HB.out).mono (fun _ h => h.elim), .inl rfl⟩
end Go.Proofs.Ytglpgfanninbnaa
