/- The walk of read: a thing read. -/
import Derived.Test.YtglpgfanninbnaaWireWr
import Derived.Test.YtglpgfanninbnaaBSame
import Derived.Test.YtglpgfanninbnaaBRBytes
import Derived.Deep.RegionWith
namespace Go.Proofs.Ytglpgfanninbnaa
open Go.RowKit

/-- how many bytes a thing takes -/
def takeT (t : Th) : Nat := if 1 ≤ t.k ∧ t.k ≤ 4 then t.k.toNat else if t.k = 5 then t.b.length else 0
/-- what read leaves -/
def RdPost (lo : Nat) (w : World) (rb : Nat) (t : Th) (l : List UInt8) (e : Int) (r : Ending) (w' : World) : Prop :=
  ∃ b, r = .returned (.bool b) ∧ (∀ rest, l = encT t ++ rest → b = true) ∧ RPost lo w rb (rawR (takeT t) l) (rawE (takeT t) l e) w'
theorem rd_fin {lo : Nat} {w wa w2 : World} {rb : Nat} {t : Th} {l : List UInt8} {e : Int} {b : Bool} (ha : Fr F0 w wa) (hp : RPost lo wa rb (rawR (takeT t) l) (rawE (takeT t) l e) w2)
    (hb : ∀ rest, l = encT t ++ rest → b = true) : RdPost lo w rb t l e (.returned (.bool b)) w2 :=
  ⟨b, rfl, hb, hp.1, (ha.mono (fun _ h => h.elim)).trans hp.2 (fun _ h => .inl h)⟩
theorem beN_bytesL (x n : Nat) : beN (bytesL x n) = x % 256 ^ n := by
  induction n with
  | zero => simp [bytesL, beN, Nat.mod_one]
  | succ n ih =>
    have h := beN_append [UInt8.ofNat (x / 256 ^ n)] (bytesL x n)
    simp only [List.cons_append, List.nil_append] at h
    rw [bytesL_snoc, h, ih, bytesL_len, Nat.pow_succ, Nat.mod_mul]
    have h3 : beN [UInt8.ofNat (x / 256 ^ n)] = x / 256 ^ n % 256 := by simp [beN, UInt8.toNat_ofNat']
    rw [h3, Nat.mul_comm]; omega
theorem rawL_app (xs rest : List UInt8) (n : Nat) (h : xs.length = n) : rawL n (xs ++ rest) = xs := by
  subst h
  rw [rawL, if_pos (by simp)]; simp
theorem rdN_enc (k : Nat) (hk : 1 ≤ k ∧ k ≤ 4) (n : Int) (v : Value) (b : List UInt8) (e : Int) (rest : List UInt8) : rdN k (encT ⟨(k : Int), n, v, b, e⟩ ++ rest) = n.toNat % 256 ^ k := by
  have h : encT ⟨(k : Int), n, v, b, e⟩ = bytesL n.toNat k := by
    rw [← enc_num n k v b e hk]
    unfold bytesI
    rw [if_pos (by omega)]; rfl
  rw [h, rdN, rawL_app _ _ _ (bytesL_len _ _), beN_bytesL]
theorem takeT_num (k : Nat) (hk : 1 ≤ k ∧ k ≤ 4) (n : Int) (v : Value) (b : List UInt8) (e : Int) : takeT ⟨(k : Int), n, v, b, e⟩ = k := by
  unfold takeT
  have : 1 ≤ (⟨(k : Int), n, v, b, e⟩ : Th).k ∧ (⟨(k : Int), n, v, b, e⟩ : Th).k ≤ 4 := ⟨by show 1 ≤ (k : Int); omega, by show (k : Int) ≤ 4; omega⟩
  rw [if_pos this]; rfl
theorem and_u32 (n : Int) (h0 : 0 ≤ n) (h1 : n < 4294967296) : bits .and .u32 n 16777215 = n % 16777216 := by
  obtain ⟨a, rfl⟩ := Int.eq_ofNat_of_zero_le h0
  show IntKind.u32.wrap ((BitVec.ofInt 32 (a : Int) &&& BitVec.ofInt 32 16777215).toNat : Int) = _
  rw [BitVec.ofInt_natCast, show BitVec.ofInt 32 16777215 = BitVec.ofNat 32 16777215 by decide, BitVec.toNat_and, BitVec.toNat_ofNat, BitVec.toNat_ofNat, Nat.mod_eq_of_lt (by omega : a < 2 ^ 32), show 16777215 % 2 ^ 32 = 2 ^ 24 - 1 by decide, Nat.and_two_pow_sub_one_eq_mod, wrap_u32]
  omega
set_option maxHeartbeats 1000000 in
theorem read1_any (lo rb : Nat) (l : List UInt8) (e : Int) (t : Th) (w : World) (hr : Rd lo w rb l e) (ht : t.Ok w) (hk : t.k = 1) :
    Calls Try.prog 13 #[.pointer (some ⟨rb, 0, none⟩), t.val] w (RdPost lo w rb t l e) := by
  obtain ⟨A, c, hv, hc, hcm, _⟩ := bs_parts ht.b
  have n0 := ht.n.lo
  have n1 := ht.n.hi
  obtain ⟨k, n, v, b, e2⟩ := t
  simp only [Th.val] at *
  subst hk hv
  clear ht
  have hlt := hr.lt
  have ha := (Fr.alloc w (.cells #[.int .i64 1, .int .u32 n, .slice A b.length c, .int .i64 e2] 32)).trans (Fr.drew _) (fun _ h => h.elim)
  have HC := Lib.hid (rbyte_any lo rb l e (w.alloc (.cells #[.int .i64 1, .int .u32 n, .slice A b.length c, .int .i64 e2] 32)).drew (hr.fr0 ha))
  have HF := Lib.hid (fun w2 (hp : RPost lo (w.alloc (.cells #[.int .i64 1, .int .u32 n, .slice A b.length c, .int .i64 e2] 32)).drew rb (rawR 1 l) (rawE 1 l e) w2) => rd_fin (t := ⟨1, n, .slice A b.length c, b, e2⟩) (l := l) (b := ((rdN 1 l : Nat) : Int) == IntKind.u8.wrap n) ha (by rw [show takeT ⟨1, n, .slice A b.length c, b, e2⟩ = 1 from takeT_num 1 (by omega) _ _ _ _]; exact hp) (by
    intro rest h
    have h2 := rdN_enc 1 (by omega) n (.slice A b.length c) b e2 rest
    rw [h, show rdN 1 (encT ⟨1, n, .slice A b.length c, b, e2⟩ ++ rest) = n.toNat % 256 ^ 1 from h2, beq_iff_eq]
    rw [wrap_u8]; omega))
  have HX := Lib.hid (heap_alloc_new w (.cells #[.int .i64 1, .int .u32 n, .slice A b.length c, .int .i64 e2] 32))
  clear ha hr
  refine calls_q fun Q HQ => ?_
  go_enter Try.func13, Try.ntmps13
  go_wp2_with fail
  go_region_with (go_at_call 17; refine HC.out.mono ?_; rintro r w2 ⟨rfl, hp⟩; have k1 := (obj_cell (hp.2.heap (k := w.heap.size) HX.out (fun h => by have h2 : w.heap.size = rb := h; omega)) 1); simp only [List.getElem?_toArray, List.getElem?_cons_succ, List.getElem?_cons_zero] at k1; have HP := Lib.hid hp; clear hp)
  all_goals (go_wp2_with fail; go_ret; exact HQ.out _ _ (HF.out _ HP.out))
set_option maxHeartbeats 1000000 in
theorem read2_any (lo rb : Nat) (l : List UInt8) (e : Int) (t : Th) (w : World) (hr : Rd lo w rb l e) (ht : t.Ok w) (hk : t.k = 2) :
    Calls Try.prog 13 #[.pointer (some ⟨rb, 0, none⟩), t.val] w (RdPost lo w rb t l e) := by
  obtain ⟨A, c, hv, hc, hcm, _⟩ := bs_parts ht.b
  have n0 := ht.n.lo
  have n1 := ht.n.hi
  obtain ⟨k, n, v, b, e2⟩ := t
  simp only [Th.val] at *
  subst hk hv
  clear ht
  have hlt := hr.lt
  have ha := (Fr.alloc w (.cells #[.int .i64 2, .int .u32 n, .slice A b.length c, .int .i64 e2] 32)).trans (Fr.drew _) (fun _ h => h.elim)
  have HC := Lib.hid (rshort_any lo rb l e (w.alloc (.cells #[.int .i64 2, .int .u32 n, .slice A b.length c, .int .i64 e2] 32)).drew (hr.fr0 ha))
  have HF := Lib.hid (fun w2 (hp : RPost lo (w.alloc (.cells #[.int .i64 2, .int .u32 n, .slice A b.length c, .int .i64 e2] 32)).drew rb (rawR 2 l) (rawE 2 l e) w2) => rd_fin (t := ⟨2, n, .slice A b.length c, b, e2⟩) (l := l) (b := ((rdN 2 l : Nat) : Int) == IntKind.u16.wrap n) ha (by rw [show takeT ⟨2, n, .slice A b.length c, b, e2⟩ = 2 from takeT_num 2 (by omega) _ _ _ _]; exact hp) (by
    intro rest h
    have h2 := rdN_enc 2 (by omega) n (.slice A b.length c) b e2 rest
    rw [h, show rdN 2 (encT ⟨2, n, .slice A b.length c, b, e2⟩ ++ rest) = n.toNat % 256 ^ 2 from h2, beq_iff_eq]
    rw [wrap_u16]; omega))
  have HX := Lib.hid (heap_alloc_new w (.cells #[.int .i64 2, .int .u32 n, .slice A b.length c, .int .i64 e2] 32))
  clear ha hr
  refine calls_q fun Q HQ => ?_
  go_enter Try.func13, Try.ntmps13
  go_wp2_with fail
  go_region_with (go_at_call 18; refine HC.out.mono ?_; rintro r w2 ⟨rfl, hp⟩; have k1 := (obj_cell (hp.2.heap (k := w.heap.size) HX.out (fun h => by have h2 : w.heap.size = rb := h; omega)) 1); simp only [List.getElem?_toArray, List.getElem?_cons_succ, List.getElem?_cons_zero] at k1; have HP := Lib.hid hp; clear hp)
  all_goals (go_wp2_with fail; go_ret; exact HQ.out _ _ (HF.out _ HP.out))
set_option maxHeartbeats 1000000 in
theorem read3_any (lo rb : Nat) (l : List UInt8) (e : Int) (t : Th) (w : World) (hr : Rd lo w rb l e) (ht : t.Ok w) (hk : t.k = 3) :
    Calls Try.prog 13 #[.pointer (some ⟨rb, 0, none⟩), t.val] w (RdPost lo w rb t l e) := by
  obtain ⟨A, c, hv, hc, hcm, _⟩ := bs_parts ht.b
  have n0 := ht.n.lo
  have n1 := ht.n.hi
  obtain ⟨k, n, v, b, e2⟩ := t
  simp only [Th.val] at *
  subst hk hv
  clear ht
  have hlt := hr.lt
  have ha := (Fr.alloc w (.cells #[.int .i64 3, .int .u32 n, .slice A b.length c, .int .i64 e2] 32)).trans (Fr.drew _) (fun _ h => h.elim)
  have HC := Lib.hid (rthree_any lo rb l e (w.alloc (.cells #[.int .i64 3, .int .u32 n, .slice A b.length c, .int .i64 e2] 32)).drew (hr.fr0 ha))
  have HF := Lib.hid (fun w2 (hp : RPost lo (w.alloc (.cells #[.int .i64 3, .int .u32 n, .slice A b.length c, .int .i64 e2] 32)).drew rb (rawR 3 l) (rawE 3 l e) w2) => rd_fin (t := ⟨3, n, .slice A b.length c, b, e2⟩) (l := l) (b := ((rdN 3 l : Nat) : Int) == bits .and .u32 n 16777215) ha (by rw [show takeT ⟨3, n, .slice A b.length c, b, e2⟩ = 3 from takeT_num 3 (by omega) _ _ _ _]; exact hp) (by
    intro rest h
    have h2 := rdN_enc 3 (by omega) n (.slice A b.length c) b e2 rest
    rw [h, show rdN 3 (encT ⟨3, n, .slice A b.length c, b, e2⟩ ++ rest) = n.toNat % 256 ^ 3 from h2, beq_iff_eq]
    rw [and_u32 n n0 n1]; omega))
  have HX := Lib.hid (heap_alloc_new w (.cells #[.int .i64 3, .int .u32 n, .slice A b.length c, .int .i64 e2] 32))
  clear ha hr
  refine calls_q fun Q HQ => ?_
  go_enter Try.func13, Try.ntmps13
  go_wp2_with fail
  go_region_with (go_at_call 19; refine HC.out.mono ?_; rintro r w2 ⟨rfl, hp⟩; have k1 := (obj_cell (hp.2.heap (k := w.heap.size) HX.out (fun h => by have h2 : w.heap.size = rb := h; omega)) 1); simp only [List.getElem?_toArray, List.getElem?_cons_succ, List.getElem?_cons_zero] at k1; have HP := Lib.hid hp; clear hp)
  all_goals (go_wp2_with fail; go_ret; exact HQ.out _ _ (HF.out _ HP.out))
set_option maxHeartbeats 1000000 in
theorem read4_any (lo rb : Nat) (l : List UInt8) (e : Int) (t : Th) (w : World) (hr : Rd lo w rb l e) (ht : t.Ok w) (hk : t.k = 4) :
    Calls Try.prog 13 #[.pointer (some ⟨rb, 0, none⟩), t.val] w (RdPost lo w rb t l e) := by
  obtain ⟨A, c, hv, hc, hcm, _⟩ := bs_parts ht.b
  have n0 := ht.n.lo
  have n1 := ht.n.hi
  obtain ⟨k, n, v, b, e2⟩ := t
  simp only [Th.val] at *
  subst hk hv
  clear ht
  have hlt := hr.lt
  have ha := (Fr.alloc w (.cells #[.int .i64 4, .int .u32 n, .slice A b.length c, .int .i64 e2] 32)).trans (Fr.drew _) (fun _ h => h.elim)
  have HC := Lib.hid (rnum_any lo rb l e (w.alloc (.cells #[.int .i64 4, .int .u32 n, .slice A b.length c, .int .i64 e2] 32)).drew (hr.fr0 ha))
  have HF := Lib.hid (fun w2 (hp : RPost lo (w.alloc (.cells #[.int .i64 4, .int .u32 n, .slice A b.length c, .int .i64 e2] 32)).drew rb (rawR 4 l) (rawE 4 l e) w2) => rd_fin (t := ⟨4, n, .slice A b.length c, b, e2⟩) (l := l) (b := ((rdN 4 l : Nat) : Int) == n) ha (by rw [show takeT ⟨4, n, .slice A b.length c, b, e2⟩ = 4 from takeT_num 4 (by omega) _ _ _ _]; exact hp) (by
    intro rest h
    have h2 := rdN_enc 4 (by omega) n (.slice A b.length c) b e2 rest
    rw [h, show rdN 4 (encT ⟨4, n, .slice A b.length c, b, e2⟩ ++ rest) = n.toNat % 256 ^ 4 from h2, beq_iff_eq]
    omega))
  have HX := Lib.hid (heap_alloc_new w (.cells #[.int .i64 4, .int .u32 n, .slice A b.length c, .int .i64 e2] 32))
  clear ha hr
  refine calls_q fun Q HQ => ?_
  go_enter Try.func13, Try.ntmps13
  go_wp2_with fail
  go_region_with (go_at_call 20; refine HC.out.mono ?_; rintro r w2 ⟨rfl, hp⟩; have k1 := (obj_cell (hp.2.heap (k := w.heap.size) HX.out (fun h => by have h2 : w.heap.size = rb := h; omega)) 1); simp only [List.getElem?_toArray, List.getElem?_cons_succ, List.getElem?_cons_zero] at k1; have HP := Lib.hid hp; clear hp)
  all_goals (go_wp2_with fail; go_ret; exact HQ.out _ _ (HF.out _ HP.out))
set_option maxHeartbeats 1000000 in
theorem read5_any (lo rb : Nat) (l : List UInt8) (e : Int) (t : Th) (w : World) (hr : Rd lo w rb l e) (ht : BSx (fun k => k < lo) w t.v t.b) (hk : t.k = 5) :
    Calls Try.prog 13 #[.pointer (some ⟨rb, 0, none⟩), t.val] w (RdPost lo w rb t l e) := by
  obtain ⟨A, c, hv, hc, hcm, _⟩ := bs_parts ht.1
  obtain ⟨k, n, v, b, e2⟩ := t
  simp only [Th.val] at *
  subst hk hv
  have hlt := hr.lt
  have ha := (Fr.alloc w (.cells #[.int .i64 5, .int .u32 n, .slice A b.length c, .int .i64 e2] 32)).trans (Fr.drew _) (fun _ h => h.elim)
  have hen : encT ⟨5, n, .slice A b.length c, b, e2⟩ = b := rfl
  have hta : takeT ⟨5, n, .slice A b.length c, b, e2⟩ = b.length := rfl
  have HC := Lib.hid (rraw_any lo rb b.length l e (w.alloc (.cells #[.int .i64 5, .int .u32 n, .slice A b.length c, .int .i64 e2] 32)).drew (hr.fr0 ha) (by omega))
  have HB := Lib.hid (ht.fr ha (fun _ _ _ h => h))
  have HF := Lib.hid (fun w2 m (hp : RPost lo (w.alloc (.cells #[.int .i64 5, .int .u32 n, .slice A b.length c, .int .i64 e2] 32)).drew rb (rawR b.length l) (rawE b.length l e) w2) => rd_fin (t := ⟨5, n, .slice A b.length c, b, e2⟩) (l := l) (w2 := w2.drewN m) (b := rawL b.length l == b) ha (by rw [hta]; exact ⟨hp.1.fr0 (Fr.drewN _ m), hp.2.trans (Fr.drewN _ m) (fun _ h => h.elim)⟩) (by
    intro rest h
    rw [hen] at h
    rw [h, rawL_app _ _ _ rfl, beq_self_eq_true]))
  have HX := Lib.hid (heap_alloc_new w (.cells #[.int .i64 5, .int .u32 n, .slice A b.length c, .int .i64 e2] 32))
  clear ha hr ht hen hta
  refine calls_q fun Q HQ => ?_
  go_enter Try.func13, Try.ntmps13
  go_wp2_with fail
  go_region_with (first | (go_at_call 21; refine HC.out.mono ?_; rintro r w2 ⟨v2, rfl, hv2, hp⟩; have k1 := (obj_cell (hp.2.heap (k := w.heap.size) HX.out (fun h => by have h2 : w.heap.size = rb := h; omega)) 2); simp only [List.getElem?_toArray, List.getElem?_cons_succ, List.getElem?_cons_zero] at k1; have HV2 := Lib.hid hv2; have HB2 := Lib.hid (HB.out.fr hp.2 (fun k _ h h3 => by have h2 : k = rb := h3; omega)); have HP := Lib.hid hp; clear hp hv2) | (go_at_call 10; refine (rsame_any _ _ _ _ _ HV2.out.1 HB2.out.1).mono ?_; rintro r w3 ⟨rfl, n3, rfl⟩))
  all_goals (go_wp2_with fail; go_ret; exact HQ.out _ _ (HF.out _ _ HP.out))
set_option maxHeartbeats 1000000 in
theorem read0_any (lo rb : Nat) (l : List UInt8) (e : Int) (t : Th) (w : World) (hr : Rd lo w rb l e) (hk : t.k < 1 ∨ 5 < t.k) :
    Calls Try.prog 13 #[.pointer (some ⟨rb, 0, none⟩), t.val] w (RdPost lo w rb t l e) := by
  have hta : takeT t = 0 := by unfold takeT; rw [if_neg (by omega), if_neg (by omega)]
  obtain ⟨k, n, v, b, e2⟩ := t
  simp only [Th.val] at *
  have e1 : (k == 1) = false := by simp; omega
  have e2' : (k == 2) = false := by simp; omega
  have e3 : (k == 3) = false := by simp; omega
  have e4 : (k == 4) = false := by simp; omega
  have e5 : (k == 5) = false := by simp; omega
  have ha := Fr.alloc w (.cells #[.int .i64 k, .int .u32 n, v, .int .i64 e2] 32)
  have HF := Lib.hid (rd_fin (t := ⟨k, n, v, b, e2⟩) (l := l) (e := e) (lo := lo) (rb := rb) (w := w) (b := true) (Fr.refl _ w) (w2 := w.alloc (.cells #[.int .i64 k, .int .u32 n, v, .int .i64 e2] 32))
    (by rw [hta, show rawR 0 l = l by simp [rawR], show rawE 0 l e = e by simp [rawE]]; exact ⟨hr.fr0 ha, ha.mono (fun _ h => h.elim)⟩) (fun _ _ => rfl))
  clear ha hr hta hk
  refine calls_q fun Q HQ => ?_
  go_enter Try.func13, Try.ntmps13
  go_wp2_with fail
  exact HQ.out _ _ HF.out
theorem read_any (lo rb : Nat) (l : List UInt8) (e : Int) (t : Th) (w : World) (hr : Rd lo w rb l e) (hn : Fits 4294967296 t.n) (ht : BSx (fun k => k < lo) w t.v t.b) :
    Calls Try.prog 13 #[.pointer (some ⟨rb, 0, none⟩), t.val] w (RdPost lo w rb t l e) := by
  by_cases h1 : t.k = 1
  · exact read1_any lo rb l e t w hr ⟨hn, ht.1⟩ h1
  by_cases h2 : t.k = 2
  · exact read2_any lo rb l e t w hr ⟨hn, ht.1⟩ h2
  by_cases h3 : t.k = 3
  · exact read3_any lo rb l e t w hr ⟨hn, ht.1⟩ h3
  by_cases h4 : t.k = 4
  · exact read4_any lo rb l e t w hr ⟨hn, ht.1⟩ h4
  by_cases h5 : t.k = 5
  · exact read5_any lo rb l e t w hr ht h5
  exact read0_any lo rb l e t w hr (by omega)
end Go.Proofs.Ytglpgfanninbnaa
