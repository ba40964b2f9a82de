/- Laid together: FRt, Fn, FRl, FRa, Fk, WireW2. -/
import Derived.Test.YtphofpemblindaaG06
import Derived.Test.YtphofpemblindaaG01
import Derived.Test.YtphofpemblindaaG03
import Derived.Test.YtphofpemblindaaG05
import Derived.Test.YtphofpemblindaaG04
/- Messages as values; the walk of Right. -/
namespace Go.Proofs.Ytphofpemblindaa
open Go.RowKit

/-! ### asks and lost numbers as slices -/
def rowA (a : Nat × Nat) : List Value := [.int .u32 (a.1 : Nat), .int .u8 (a.2 : Nat)]
def AsS (w : World) (v : Value) (l : List (Nat × Nat)) : Prop := RowsV 2 w v (l.map rowA)
def LoS (w : World) (v : Value) (l : List Int) : Prop := SV w v (ints .u16 l)
theorem AsS.fr {w w' : World} {v : Value} {l : List (Nat × Nat)} (h : AsS w v l) {F : Nat → Prop} (hf : Fr F w w') (hF : ∀ b, b < w.heap.size → ¬ F b) : AsS w' v l := RowsV.fr h hf hF
theorem AsS.below {w w' : World} {v : Value} {l : List (Nat × Nat)} (h : AsS w v l) (hb : Below w.heap.size w w') : AsS w' v l := h.fr (Fr.of hb) (fun _ _ h => h)
theorem LoS.below {w w' : World} {v : Value} {l : List Int} (h : LoS w v l) (hb : Below w.heap.size w w') : LoS w' v l := SV.below h hb
theorem AsS.parts {w : World} {v : Value} {l : List (Nat × Nat)} (h : AsS w v l) : ∃ A c, v = .slice A l.length c ∧ l.length ≤ c ∧ c ≤ 9223372036854775807 ∧
    (0 < l.length → ∃ b o, A = some ⟨b, o, none⟩ ∧ b < w.heap.size ∧ ∀ j (h : j < l.length), w.cell? ⟨b, o + j * 2, none⟩ = some (.int .u32 (l[j].1 : Nat)) ∧ w.cell? ⟨b, o + j * 2 + 1, none⟩ = some (.int .u8 (l[j].2 : Nat))) := by
  obtain ⟨A, c, rfl, h1, h2, h3⟩ := h
  have hl : (l.map rowA).length = l.length := List.length_map ..
  refine ⟨A, c, by rw [hl], by omega, by unfold maxLen at h2; omega, fun hp => ?_⟩
  obtain ⟨b, o, rfl, hb, hc⟩ := h3 (by omega)
  refine ⟨b, o, rfl, hb, fun j hj => ?_⟩
  have := fun (k : Nat) (u : Value) (hu : (rowA l[j])[k]? = some u) => hc j (by omega) k u (by simpa using hu)
  exact ⟨this 0 _ rfl, this 1 _ rfl⟩
theorem LoS.parts {w : World} {v : Value} {l : List Int} (h : LoS w v l) : ∃ A c, v = .slice A l.length c ∧ l.length ≤ c ∧ c ≤ 9223372036854775807 := by
  obtain ⟨A, c, h1, h2, h3, _⟩ := LoG.parts (SV.x h)
  exact ⟨A, c, h1, h2, h3⟩
theorem AsS.nil (w : World) : AsS w (.slice none 0 0) [] := ⟨none, 0, rfl, Nat.le_refl _, Nat.zero_le _, fun h => absurd h (by simp)⟩
theorem LoS.nil (w : World) : LoS w (.slice none 0 0) [] := SV.nil w
theorem AsS.len {w : World} {v : Value} {l : List (Nat × Nat)} (h : AsS w v l) : l.length ≤ 9223372036854775807 := by
  obtain ⟨A, c, _, h1, h2, _⟩ := h.parts
  omega
theorem LoS.len {w : World} {v : Value} {l : List Int} (h : LoS w v l) : l.length ≤ 9223372036854775807 := by
  obtain ⟨A, c, _, h1, h2⟩ := h.parts
  omega
set_option maxRecDepth 20000 in
set_option maxHeartbeats 2000000 in
theorem fright_any (k : Int) (se me : Nat) (va vl : Value) (ak : List (Nat × Nat)) (lo : List Int) (w : World) (ha : AsS w va ak) (hl : LoS w vl lo) :
    Calls Try.prog 23 #[.agg #[.int .i64 k, .int .u32 (se : Nat), .int .u32 (me : Nat), va, vl]] w fun e w' => e = .returned (.bool (rightM ⟨k, se, me, ak, lo⟩)) ∧ Below w.heap.size w w' := by
  obtain ⟨A, c, rfl, hc1, hc2, hp⟩ := ha.parts
  obtain ⟨A2, c2, rfl, hc4, hc3⟩ := hl.parts
  clear ha hp hc1 hc4
  have hb1 := below_alloc (w := w) (.cells #[.int .i64 k, .int .u32 (se : Nat), .int .u32 (me : Nat), .slice A ak.length c, .slice A2 lo.length c2] 38)
  have HL := Lib.hid (hl.below hb1)
  have HB := Lib.hid hb1
  have HRs := Lib.hid (fun (w : World) (h : LoS w (.slice A2 lo.length c2) lo) => rises_any lo _ w h)
  have HFt := Lib.hid (fun (w : World) (h : LoS w (.slice A2 lo.length c2) lo) => fits_any lo _ w h)
  have hr1 : k = 1 → rightM ⟨k, se, me, ak, lo⟩ = (decide (ak.length = 0) && decide (lo.length = 0)) := fun h => by rw [rightM, if_pos h]
  have hr2 : k = 2 → rightM ⟨k, se, me, ak, lo⟩ = (decide (me = 0) && decide (0 < ak.length) && decide (ak.length ≤ 23) && decide (lo.length = 0)) := fun h => by subst h; rfl
  have hr3 : k = 3 → rightM ⟨k, se, me, ak, lo⟩ = (decide (ak.length = 0) && decide (0 < lo.length) && risB lo && fitsL lo) := fun h => by subst h; rfl
  have hr4 : k ≠ 1 → k ≠ 2 → k ≠ 3 → rightM ⟨k, se, me, ak, lo⟩ = false := fun h1 h2 h3 => by rw [rightM, if_neg h1, if_neg h2, if_neg h3]
  generalize rightM ⟨k, se, me, ak, lo⟩ = r at *
  generalize ak.length = na at *
  generalize hnl : lo.length = nl at *
  have HN := Lib.hid hnl
  clear hl hb1 hnl
  refine calls_q fun Q HQ => ?_
  by_cases h1 : k = 1
  · subst h1
    have hr := hr1 rfl
    clear hr1 hr2 hr3 hr4
    by_cases h2 : na = 0
    all_goals by_cases h3 : nl = 0
    all_goals
      try subst h2
      try subst h3
      have HR := Lib.hid hr
      clear hr
      go_enter Try.func23, Try.ntmps23
      go_wp2_with fail
      refine HQ.out _ _ ⟨ret_bool ?_, HB.out⟩
      rw [HR.out]; simp [*]
  · by_cases h2 : k = 2
    · subst h2
      have hr := hr2 rfl
      clear hr1 hr2 hr3 hr4
      have h4i : na ≠ 0 → (0 : Int) < (na : Int) := fun h => by omega
      by_cases h3 : (me : Int) = 0
      · by_cases h4 : na = 0
        · subst h4
          have HR := Lib.hid hr
          clear hr h4i
          go_enter Try.func23, Try.ntmps23
          go_wp2_with fail
          refine HQ.out _ _ ⟨ret_bool ?_, below_alloc _⟩
          rw [HR.out]; simp
        · have h4 := h4i h4
          clear h4i
          by_cases h5 : (na : Int) ≤ 23
          · by_cases h6 : nl = 0
            all_goals
              try subst h6
              have HR := Lib.hid hr
              clear hr
              go_enter Try.func23, Try.ntmps23
              go_wp2_with fail
              refine HQ.out _ _ ⟨ret_bool ?_, below_alloc _⟩
              have h7 : me = 0 := by omega
              have h8 : 0 < na := by omega
              have h9 : na ≤ 23 := by omega
              rw [HR.out]; simp [*]
          · have HR := Lib.hid hr
            clear hr
            go_enter Try.func23, Try.ntmps23
            go_wp2_with fail
            refine HQ.out _ _ ⟨ret_bool ?_, below_alloc _⟩
            have h9 : ¬ na ≤ 23 := by omega
            rw [HR.out]; simp [h9]
      · have HR := Lib.hid hr
        clear hr h4i
        go_enter Try.func23, Try.ntmps23
        go_wp2_with fail
        refine HQ.out _ _ ⟨ret_bool ?_, below_alloc _⟩
        have h9 : ¬ me = 0 := by omega
        rw [HR.out]; simp [h9]
    · by_cases h3 : k = 3
      · subst h3
        have hr := hr3 rfl
        clear hr1 hr2 hr3 hr4
        by_cases h4 : na = 0
        · subst h4
          by_cases h5 : nl = 0
          · subst h5
            have HR := Lib.hid hr
            clear hr
            go_enter Try.func23, Try.ntmps23
            go_wp2_with fail
            refine HQ.out _ _ ⟨ret_bool ?_, HB.out⟩
            rw [HR.out]; simp
          · have h6 : (0 : Int) < (nl : Int) := by omega
            have hr' : r = (risB lo && fitsL lo) := by rw [hr, decide_eq_true (show 0 < nl by omega)]; simp
            clear hr
            generalize risB lo = b1 at *
            generalize fitsL lo = b2 at *
            have HR := Lib.hid hr'
            clear hr' h5
            cases b1
            · go_enter Try.func23, Try.ntmps23
              go_wp2_with fail
              refine (HRs.out _ HL.out).mono ?_
              rintro e w1 ⟨rfl, hb⟩
              have HB2 := Lib.hid (HB.out.trans (hb.mono HB.out.size))
              clear hb
              go_wp2_with fail
              exact HQ.out _ _ ⟨ret_bool (by rw [HR.out]; rfl), HB2.out⟩
            · go_enter Try.func23, Try.ntmps23
              go_wp2_with fail
              refine (HRs.out _ HL.out).mono ?_
              rintro e w1 ⟨rfl, hb⟩
              have HB2 := Lib.hid (HB.out.trans (hb.mono HB.out.size))
              have HL2 := Lib.hid (HL.out.below hb)
              have k4 := (Fr.of hb).heap (heap_alloc_new w (.cells #[.int .i64 3, .int .u32 (se : Nat), .int .u32 (me : Nat), .slice A 0 c, .slice A2 nl c2] 38 (0, 0))) (fun h => h)
              have k4 := obj_cell k4 4
              simp at k4
              clear hb
              go_wp2_with fail
              refine (HFt.out _ HL2.out).mono ?_
              rintro e w2 ⟨rfl, hb⟩
              have HB3 := Lib.hid (HB2.out.trans (hb.mono HB2.out.size))
              clear hb
              go_wp2_with fail
              exact HQ.out _ _ ⟨ret_bool (by rw [HR.out]; rfl), HB3.out⟩
        · have hr' : r = false := by rw [hr]; simp [h4]
          clear hr
          subst hr'
          have h4i : ((na : Int) == 0) = false := by simp [h4]
          clear h4 HRs HFt HL HN
          go_enter Try.func23, Try.ntmps23
          go_wp2_with fail
          exact HQ.out _ _ ⟨rfl, HB.out⟩
      · have hr := hr4 h1 h2 h3
        clear hr1 hr2 hr3 hr4
        subst hr
        have b1 : (k == 1) = false := by simp [h1]
        have b2 : (k == 2) = false := by simp [h2]
        have b3 : (k == 3) = false := by simp [h3]
        clear h1 h2 h3 HRs HFt HL HN HB
        go_enter Try.func23, Try.ntmps23
        go_wp2_with fail
        exact HQ.out _ _ ⟨ret_bool rfl, below_alloc _⟩
end Go.Proofs.Ytphofpemblindaa
/- The walk of numbers: all that a pair tells. -/
namespace Go.Proofs.Ytphofpemblindaa
open Go.RowKit

/-- a pair in its box, beside a row of numbers that grows -/
structure FnS (w0 : World) (bx : Nat) (n : Int) (a : Nat) (v : Value) (l : List Int) (w : World) : Prop where
  p : w.heap[bx]? = some (.cells #[.int .u16 n, .int .u16 (a : Nat)] 126 (0, 0))
  own : w.ownsRow (bx + 1) 58 1 v l.length (ints .u16 l)
  below : Below w0.heap.size w0 w
  o0 : w0.heap.size ≤ bx
section
variable {w0 : World} {bx : Nat} {n : Int} {a : Nat} {v : Value} {l : List Int} {w w' : World}
theorem FnS.after (h : FnS w0 bx n a v l w) (hb : Below w.heap.size w w') : FnS w0 bx n a v l w' :=
  ⟨(Fr.of hb).heap h.p (fun h => h), (Fr.of hb).own h.own (fun _ _ h => h), h.below.trans (hb.mono h.below.size), h.o0⟩
theorem FnS.app (h : FnS w0 bx n a v l w) {v' : Value} {m : List Int} (ho : w'.ownsRow (bx + 1) 58 1 v' m.length (ints .u16 m)) (hg : w.grownBy w' v.ownBlock) : FnS w0 bx n a v' m w' := by
  have h0 := h.o0
  have hf := Fr.grown hg
  have hlt : ∀ k, some k = v.ownBlock → bx + 1 ≤ k := fun k hk => (h.own.lt k hk.symm).1
  have hsz := h.below.size
  exact ⟨hf.heap h.p (fun hx => by have := hlt _ hx; omega), ho, h.below.trans (hf.below hsz (fun k hk => by have := hlt k hk; omega)), h0⟩
end
theorem u16_and1 (a j : Nat) (ha : a < 65536) : bits .and .u16 ((a : Int) / 2 ^ j) 1 = if a.testBit j then 1 else 0 := by
  have e : (a : Int) / 2 ^ j = ((a / 2 ^ j : Nat) : Int) := by rw [natpow_cast]; exact (Int.natCast_ediv a (2 ^ j)).symm
  have hlt : a / 2 ^ j < 65536 := Nat.lt_of_le_of_lt (Nat.div_le_self _ _) ha
  rw [e, Nat.testBit_eq_decide_div_mod_eq]
  generalize a / 2 ^ j = x at *
  show IntKind.u16.wrap ((BitVec.ofInt 16 (x : Int) &&& BitVec.ofInt 16 1).toNat : Int) = _
  rw [BitVec.ofInt_natCast, show BitVec.ofInt 16 1 = BitVec.ofNat 16 1 by decide, BitVec.toNat_and, BitVec.toNat_ofNat, BitVec.toNat_ofNat, Nat.mod_eq_of_lt (by omega : x < 2 ^ 16), show 1 % 2 ^ 16 = 2 ^ 1 - 1 by decide, Nat.and_two_pow_sub_one_eq_mod, wrap_u16]
  simp only [Nat.pow_one, decide_eq_true_eq]
  split <;> omega
set_option maxHeartbeats 1000000 in
theorem numbers_any (n : Int) (a : Nat) (w : World) (ha : a < 65536) :
    Calls Try.prog 72 #[.agg #[.int .u16 n, .int .u16 (a : Nat)]] w fun e w' => ∃ u, e = .returned u ∧ w'.ownsRow w.heap.size 58 1 u (nums1 (n, a)).length (ints .u16 (nums1 (n, a))) ∧ Below w.heap.size w w' := by
  refine calls_q fun Q HQ => ?_
  have HS0 := Lib.hid (show FnS w w.heap.size n a (.slice (some ⟨w.heap.size + 1, 0, none⟩) 1 1) [n] ((w.alloc (.cells #[.int .u16 n, .int .u16 (a : Nat)] 126 (0, 0))).alloc (.cells #[.int .u16 n] 58 (0, 0))) by
    have hb1 := below_alloc (w := w) (.cells #[.int .u16 n, .int .u16 (a : Nat)] 126 (0, 0))
    have hx := heap_alloc_new w (.cells #[.int .u16 n, .int .u16 (a : Nat)] 126 (0, 0))
    have ho := own_new (w.alloc (.cells #[.int .u16 n, .int .u16 (a : Nat)] 126 (0, 0))) (w.heap.size + 1) 58 (.int .u16 n) (by rw [World.size_alloc]; exact Nat.le_refl _)
    rw [World.size_alloc] at ho
    exact ⟨(Fr.alloc _ _).heap hx (fun h => h), ho, hb1.alloc hb1.size _, Nat.le_refl _⟩)
  go_enter Try.func72, Try.ntmps72
  go_upto_region 2 with fail
  rw [show ((w.alloc (.cells #[.int .u16 n, .int .u16 (a : Nat)] 126)).alloc (.cells #[.int .u16 n] 58)) = ((w.alloc (.cells #[.int .u16 n, .int .u16 (a : Nat)] 126 (0, 0))).alloc (.cells #[.int .u16 n] 58 (0, 0))) from rfl]
  generalize ((w.alloc (.cells #[.int .u16 n, .int .u16 (a : Nat)] 126 (0, 0))).alloc (.cells #[.int .u16 n] 58 (0, 0))) = w2 at *
  generalize hbx : w.heap.size = bx at *
  go_wp2_with fail
  go_loopw [3, 8] (fun v i wr => ∃ j : Nat, j ≤ 16 ∧ i = .int .i64 j ∧ FnS w bx n a v (numK n a j) wr) (fun _ i _ => 16 - (intOf i).toNat)
  case atStart => exact ⟨0, by omega, rfl, HS0.out⟩
  case round =>
    obtain ⟨j, hj, rfl, hs⟩ := hrel
    have HS := Lib.hid hs
    obtain ⟨A, c, rfl⟩ := own_slice hs.own
    have k0 := obj_cell hs.p 0
    have k1 := obj_cell hs.p 1
    simp at k0 k1
    clear hs
    by_cases hlt : j < 16
    · have hs : numK n a (j + 1) = numK n a j ++ (if a.testBit j then [aft n j] else []) := rfl
      have hlen := (numK_len n a j).2
      generalize numK n a j = l at *
      have hbt := u16_and1 a j ha
      have h16 : (j : Int) < 16 := by omega
      by_cases hbit : a.testBit j = true
      · rw [if_pos hbit] at hs hbt
        have HE := Lib.hid hs
        have HL := Lib.hid hlen
        clear hs hbit hlen
        go_wp2_with fail
        refine (after_any n (a : Nat) j wr).mono ?_
        rintro e w3 ⟨rfl, hb⟩
        have HA := Lib.hid (HS.out.after hb)
        have HA2 := Lib.hid ((HS.out.after hb).after (below_alloc (.cells #[.int .u16 (aft n j)] 58 (0, 0))))
        have hlt2 := obj_lt HA2.out.p
        clear hb HS k0 k1 hbt
        generalize aft n j = y at *
        go_wp2_with (at_builtin; refine wpl_app rfl _ _ 36 rfl (bx + 1) 58 (.int .u16 0) 2 Try.underlying36 (by kernel_rfl) rfl _ _ _ rfl HA2.out.own _ _ _ [.int .u16 y] rfl ?c1 ?c2 ?c3 ?c4 ?c5 ?c6)
        case c1 => exact src_1 w3 (.int .u16 y) 58
        case c2 => intro u hu; simp at hu; subst hu; rfl
        case c3 => have := HL.out; unfold maxLen; omega
        case c4 => have := HL.out; omega
        case c5 => rw [World.size_alloc] at hlt2 ⊢; have := obj_lt HA.out.p; omega
        case c6 =>
          intro v' w5 ho hg _
          obtain ⟨A5, c5, rfl⟩ := own_slice ho
          have hN := HA2.out.app (v' := .slice A5 (l.length + 1) c5) (m := l ++ [y]) (by rw [List.length_append]; simpa [ints] using ho) hg
          rw [← HE.out] at hN
          have HN := Lib.hid hN
          clear ho hg hN
          go_wp2_with fail
          go_roundw
          case rel => exact ⟨j + 1, by omega, by go_num, HN.out⟩
          case measure => simp [intOf]; omega
      · rw [if_neg hbit] at hs hbt
        rw [List.append_nil] at hs
        have HE := Lib.hid hs
        clear hs hbit hlen
        go_wp2_with fail
        go_roundw
        case rel => exact ⟨j + 1, by omega, by go_num, by rw [HE.out]; exact HS.out⟩
        case measure => simp [intOf]; omega
    · obtain rfl : j = 16 := by omega
      have HX := Lib.hid hlt
      have hN : FnS w bx n a (.slice A (nums1 (n, a)).length c) (nums1 (n, a)) wr := HS.out
      rw [show numK n a 16 = nums1 (n, a) from rfl]
      have HN := Lib.hid hN
      clear hN HS hlt
      generalize nums1 (n, a) = l at *
      go_wp2_with fail
      have o0 := HN.out.o0
      refine HQ.out _ _ ⟨_, rfl, own_base HN.out.own (Nat.le_succ _), ?_⟩
      have := HN.out.below
      rw [hbx] at this; exact this
end Go.Proofs.Ytphofpemblindaa
/- The walk of readLost. -/
namespace Go.Proofs.Ytphofpemblindaa
open Go.RowKit

/-- what goes wrong when lost numbers are read -/
def lostE (l : List UInt8) (e : Int) : Int := if l = [] then wrongE e 2 else if okL [] (decPs l) = true then 0 else 2
/-- a reader beside a row of numbers that grows -/
structure RlS (w0 : World) (lo rb : Nat) (l : List UInt8) (e : Int) (v : Value) (acc : List Int) (w : World) : Prop where
  rd : Rd lo w rb l e
  own : w.ownsRow w0.heap.size 58 1 v acc.length (ints .u16 acc)
  fr : Fr (F1 rb) w0 w
  lt : rb < w0.heap.size
section
variable {w0 : World} {lo rb : Nat} {l l2 : List UInt8} {e e2 : Int} {v v' : Value} {acc acc' : List Int} {w w' : World}
theorem RlS.read (h : RlS w0 lo rb l e v acc w) (hp : RPost lo w rb l2 e2 w') : RlS w0 lo rb l2 e2 v acc w' := by
  have hlt := h.lt
  refine ⟨hp.1, hp.2.own h.own (fun k hk (hx : k = rb) => ?_), h.fr.trans hp.2 (fun x hx => .inl hx), hlt⟩
  have := (h.own.lt k hk).1
  omega
theorem RlS.after (h : RlS w0 lo rb l e v acc w) (hb : Below w.heap.size w w') : RlS w0 lo rb l e v acc w' :=
  ⟨h.rd.fr0 (Fr.of hb), (Fr.of hb).own h.own (fun _ _ h => h), h.fr.trans (Fr.of hb) (fun _ hx => hx.elim), h.lt⟩
theorem RlS.app (h : RlS w0 lo rb l e v acc w) (ho : w'.ownsRow w0.heap.size 58 1 v' acc'.length (ints .u16 acc')) (hg : w.grownBy w' v.ownBlock) : RlS w0 lo rb l e v' acc' w' := by
  have hlt := h.lt
  have hf := Fr.grown hg
  have hk : ∀ k, some k = v.ownBlock → w0.heap.size ≤ k := fun k hk => (h.own.lt k hk.symm).1
  exact ⟨h.rd.fr hf (fun k _ h2 hx => by have := hk k hx; omega), ho, h.fr.trans hf (fun k hx => .inr (hk k hx)), hlt⟩
end
/-- how many bytes a reader has left -/
def rdLen (w : World) (rb : Nat) : Nat :=
  match w.cell? ⟨rb, 0, none⟩ with
  | some v => slen v
  | none => 0
theorem Rd.len {lo rb : Nat} {w : World} {l : List UInt8} {e : Int} (h : Rd lo w rb l e) : rdLen w rb = l.length := by
  obtain ⟨_, _, v, hh, hb⟩ := h
  obtain ⟨A, c, rfl, _⟩ := bs_parts hb.1
  have := obj_cell hh 0
  simp at this
  rw [rdLen, this]; rfl
/-- how far reading has come -/
def RlP (R : List UInt8) (E : Int) (l : List UInt8) (e : Int) (acc : List Int) : Prop :=
  (R ≠ [] ∧ e = 0 ∧ okL [] (decPs R) = okL acc (decPs l) ∧ numsP (decPs R) = acc ++ numsP (decPs l) ∧ l.length % 4 = 0 ∧ acc.length + 17 * (l.length / 4) ≤ 17 * (R.length / 4)) ∨ (l = [] ∧ e = E ∧ E ≠ 0)
theorem rawR_0' (n : Nat) (l : List UInt8) (h : n ≤ l.length) : rawE n l 0 = 0 := by rw [rawE, if_pos h]
theorem getLast_eq (acc : List Int) (k : Nat) (h : acc.length = k + 1) : acc.getLast? = some (acc[k]'(by omega)) := by
  rw [List.getLast?_eq_getElem?]
  simp only [h, Nat.add_sub_cancel]
  exact List.getElem?_eq_getElem (by omega)
theorem svsrc {w : World} {A : Option Addr} {n c : Nat} {xs : List Value} (h : SV w (.slice A n c) xs) : Src w A n xs := by
  obtain ⟨A', c', he, _, _, hr⟩ := h
  simp only [Value.slice.injEq] at he
  obtain ⟨rfl, rfl, rfl⟩ := he
  refine ⟨rfl, fun hp => ?_⟩
  obtain ⟨b, o, rfl, _, hc⟩ := hr hp
  refine ⟨_, rfl, fun j u hu => ?_⟩
  obtain ⟨hj, hu2⟩ := List.getElem?_eq_some_iff.1 hu
  rw [RowV.add rfl, hc j hj, hu2]
theorem ints_one (k : IntKind) (zs : List Int) : ∀ u ∈ ints k zs, u.oneCell' = true := by
  intro u hu
  simp only [ints, List.mem_map] at hu
  obtain ⟨b, _, rfl⟩ := hu
  rfl
theorem ints_app (k : IntKind) (a b : List Int) : ints k (a ++ b) = ints k a ++ ints k b := by simp [ints]
set_option maxHeartbeats 2000000 in
theorem readlost_any (lo rb : Nat) (R : List UInt8) (e : Int) (w : World) (hr : Rd lo w rb R e) (h4 : R.length % 4 = 0) (hl : R.length ≤ 1000) :
    Calls Try.prog 57 #[.pointer (some ⟨rb, 0, none⟩)] w fun r w' => ∃ u zs, r = .returned u ∧ w'.ownsRow w.heap.size 58 1 u zs.length (ints .u16 zs) ∧ RPost lo w rb [] (lostE R e) w' ∧ (lostE R e = 0 → zs = numsP (decPs R)) := by
  have HR := Lib.hid hr
  have hlt := hr.lt.2
  have he := hr.2.1
  refine calls_q fun Q HQ => ?_
  obtain ⟨E, hE⟩ : ∃ E, E = lostE R e := ⟨_, rfl⟩
  rw [← hE] at HQ
  go_enter Try.func57, Try.ntmps57
  go_upto_region 1 with fail
  go_upto_if 7 with (go_at_call 33; refine (rleft_any lo rb R e w HR.out).mono ?_; rintro r w ⟨rfl, rfl⟩)
  have hs0 : RlS w lo rb R e (.slice none 0 0) [] w := ⟨hr, World.ownsRow_nil _ _ _ _, Fr.refl _ _, hlt⟩
  have HE := Lib.hid hE
  have HS0 := Lib.hid hs0
  clear hs0 hE hr
  go_cut [] (fun wx => ∃ l' e', RlS w lo rb l' e' (.slice none 0 0) [] wx ∧ RlP R E l' e' [])
  case first =>
    by_cases hR : R = []
    · subst hR
      simp only [List.length_nil]
      have HX := Lib.hid (show E = wrongE e 2 by rw [HE.out]; rfl)
      have hne : E ≠ 0 := by rw [HX.out]; unfold wrongE; split <;> omega
      have HN := Lib.hid hne
      clear hne he
      go_wp2_with fail
      refine (rwrong_any lo rb [] e 2 w HR.out (by decide)).mono ?_
      rintro r w2 ⟨rfl, hp⟩
      have HS1 := Lib.hid (HS0.out.read hp)
      clear hp
      go_wp2_with fail
      go_meet
      case rel => exact ⟨[], wrongE e 2, HS1.out, .inr ⟨rfl, HX.out.symm, HN.out⟩⟩
    · have h0 : ((R.length : Int) == 0) = false := by simp [hR]
      have HN := Lib.hid hR
      have HEe := Lib.hid (show e = 0 by rcases Int.decEq e 0 with h | h; exact absurd (he h) hR; exact h)
      clear he hR
      go_wp2_with fail
      go_meet
      case rel => exact ⟨R, e, HS0.out, .inl ⟨HN.out, HEe.out, rfl, rfl, h4, by simp⟩⟩
  case rest =>
    obtain ⟨l1, e1, hs1, hp1⟩ := hcut
    have HS1 := Lib.hid hs1
    have HP1 := Lib.hid hp1
    clear hs1 hp1 HS0 HR he
    go_wp2_with fail
    go_loopw [3] (fun v wx => ∃ l' e' acc, RlS w lo rb l' e' v acc wx ∧ RlP R E l' e' acc) (fun _ wx => rdLen wx rb)
    case atStart => exact ⟨l1, e1, [], HS1.out, HP1.out⟩
    case round =>
      obtain ⟨l, e2, acc, hs, hp⟩ := hrel
      obtain ⟨A, c, rfl⟩ := own_slice hs.own
      have HS := Lib.hid hs
      have hll := hs.rd.len
      have HM := Lib.hid hll
      by_cases hl0 : l = []
      · subst hl0
        have hfin : RPost lo w rb [] E wr ∧ (E = 0 → acc = numsP (decPs R)) := by
          rcases hp with ⟨h1, rfl, h2, h3, _, _⟩ | ⟨_, rfl, h2⟩
          · have h2 : okL [] (decPs R) = true := h2.trans rfl
            have : E = 0 := by rw [HE.out, lostE, if_neg h1, if_pos h2]
            rw [this]
            exact ⟨⟨hs.rd, hs.fr⟩, fun _ => by rw [h3]; simp [decPs_nil, numsP]⟩
          · exact ⟨⟨hs.rd, hs.fr⟩, fun h => absurd h h2⟩
        have HF := Lib.hid hfin
        clear hs hp hll hfin
        go_wp2_with fail
        refine (rleft_any lo rb [] e2 wr HS.out.rd).mono ?_
        rintro r wr ⟨rfl, rfl⟩
        go_wp2_with fail
        exact HQ.out _ _ ⟨_, acc, rfl, HS.out.own, HF.out⟩
      · rcases hp with ⟨h1, rfl, h2, h3, h5, h6⟩ | ⟨h1, _⟩
        · have hl4 : 4 ≤ l.length := by
            have : l.length ≠ 0 := fun h => hl0 (List.eq_nil_of_length_eq_zero h)
            omega
          rw [decPs_step l hl4] at h2 h3
          rw [okL] at h2
          rw [numsP_cons, ← List.append_assoc] at h3
          have hrl := rawR_len 4 l hl4
          have H2 := Lib.hid h2
          have H3 := Lib.hid h3
          have H1 := Lib.hid h1
          have hml : (0 : Int) < (l.length : Int) := by omega
          have H4 := Lib.hid (show (rawR 4 l).length % 4 = 0 ∧ acc.length + 17 + 17 * ((rawR 4 l).length / 4) ≤ 17 * (R.length / 4) ∧ (rawR 4 l).length < l.length by rw [hrl]; omega)
          have hR4 := rawR_add 2 2 l (by decide)
          have hE2 := rawR_0' 2 l (by omega)
          have hE4 := rawR_0' 2 (rawR 2 l) (by rw [rawR_len 2 l (by omega)]; omega)
          have HL4 := Lib.hid hl4
          clear hs hl0 h1 h2 h3 h5 h6 hll hrl hl4
          go_wp2_with fail
          refine (rleft_any lo rb l 0 wr HS.out.rd).mono ?_
          rintro r wr ⟨rfl, rfl⟩
          go_wp2_with fail
          refine (rshort_any lo rb l 0 wr HS.out.rd).mono ?_
          rintro r w3 ⟨rfl, hp⟩
          rw [hE2] at hp
          have HS3 := Lib.hid (HS.out.read hp)
          clear hp
          go_wp2_with fail
          refine (rshort_any lo rb (rawR 2 l) 0 w3 HS3.out.rd).mono ?_
          rintro r w4 ⟨rfl, hp⟩
          rw [hE4, hR4] at hp
          have HS4 := Lib.hid (HS3.out.read hp)
          clear hp HS3 hE2 hE4 hR4
          have hx1 := (decP_ok l).1
          have hx2 := (decP_ok l).2
          have hd : decP l = (((rdN 2 l : Nat) : Int), rdN 2 (rawR 2 l)) := rfl
          rw [hd] at H2 H3 hx1 hx2
          simp only at H2 H3 hx1 hx2
          clear hd
          generalize ((rdN 2 l : Nat) : Int) = x at *
          generalize rdN 2 (rawR 2 l) = a at *
          generalize rawR 4 l = l4 at *
          have HS5 := Lib.hid (HS4.out.after (below_alloc (.cells #[.int .u16 x, .int .u16 (a : Nat)] 126 (0, 0))))
          have HP5 := Lib.hid (heap_alloc_new w4 (.cells #[.int .u16 x, .int .u16 (a : Nat)] 126 (0, 0)))
          have HX1 := Lib.hid hx1
          have HX2 := Lib.hid hx2
          have HNe := Lib.hid (show rb < w4.heap.size from HS4.out.rd.lt.2)
          clear HS HS4 hx1 hx2
          go_upto_region 6 with fail
          rw [show (w4.alloc (.cells #[.int .u16 x, .int .u16 (a : Nat)] 126)) = (w4.alloc (.cells #[.int .u16 x, .int .u16 (a : Nat)] 126 (0, 0))) from rfl]
          generalize (w4.alloc (.cells #[.int .u16 x, .int .u16 (a : Nat)] 126 (0, 0))) = w5 at *
          generalize w4.heap.size = bp at *
          obtain ⟨b, hb⟩ : ∃ b, b = newOk acc x := ⟨_, rfl⟩
          have HB := Lib.hid hb
          clear hb
          generalize hm : acc.length = m at *
          have HMl := Lib.hid hm
          clear hm
          go_cut [32] (fun y wx => y = .bool (!b) ∧ ∃ n, wx = w5.drewN n)
          case first =>
            cases m with
            | zero =>
              have HBt := Lib.hid (show b = true by rw [HB.out, List.eq_nil_of_length_eq_zero HMl.out]; rfl)
              go_quiet (fail)
              go_wp2_with fail
              go_meet
              case rel => exact ⟨by rw [HBt.out]; rfl, _, rfl⟩
            | succ k =>
              obtain ⟨_, _, he, _, hcm, hp⟩ := LoG.parts (own_svx HS5.out.own)
              rw [HMl.out] at he
              simp only [Value.slice.injEq, true_and] at he
              obtain ⟨rfl, rfl⟩ := he
              have hk := HMl.out
              obtain ⟨g, o, rfl, _, _, hcell⟩ := hp (by omega)
              have hck := hcell k (by omega)
              have hno : newOk acc x = decide (0 < ahd 65536 (acc[k]'(by omega)) x) := by rw [newOk, getLast_eq acc k hk]
              have p0 := obj_cell HP5.out 0
              simp at p0
              rw [← HB.out] at hno
              generalize acc[k]'(by omega) = y at *
              have hks : IntKind.i64.wrap (k : Int) = (k : Int) := by simp [IntKind.wrap, IntKind.bits, IntKind.signed]; omega
              have hk0 : (0 : Int) ≤ (k : Int) := by omega
              have hk1 : (0 : Int) < (k : Int) + 1 := by omega
              have HN := Lib.hid (fun w => newer_any y x w)
              rw [← hno] at HN
              clear hcell hp hno hk
              go_quiet ((go_at_call 58; exact Calls.quiet_of_same (HN.out _)))
              go_wp2_with fail
              go_meet
              case rel => exact ⟨rfl, _, rfl⟩
          case rest =>
            obtain ⟨hu, n, rfl⟩ := hcut
            subst hu
            have HS6 := Lib.hid (HS5.out.after (below_drewN (Below.refl _ _) n))
            have HP6 := Lib.hid ((Fr.drewN w5 n).heap HP5.out (fun h => h))
            generalize w5.drewN n = w6 at *
            clear HS5 HP5
            go_upto_if 32 with fail
            go_cut [] (fun wx => ∃ l3 e3, RlS w lo rb l3 e3 (.slice A m c) acc wx ∧ wx.heap[bp]? = some (.cells #[.int .u16 x, .int .u16 (a : Nat)] 126 (0, 0)) ∧ ((b = true ∧ l3 = l4 ∧ e3 = 0) ∨ (b = false ∧ l3 = [] ∧ e3 = 2)))
            case first =>
              have hbp := HS6.out.rd.lt.2
              cases b
              · go_wp2_with fail
                refine (rwrong_any lo rb l4 0 2 w6 HS6.out.rd (by decide)).mono ?_
                rintro r w7 ⟨rfl, hp⟩
                have HS7 := Lib.hid (HS6.out.read hp)
                have HP7 := Lib.hid (hp.2.heap HP6.out (fun (hx : bp = rb) => by have := HNe.out; omega))
                clear hp
                go_wp2_with fail
                go_meet
                case rel => exact ⟨[], 2, HS7.out, HP7.out, by simp⟩
              · go_wp2_with fail
                go_meet
                case rel => exact ⟨l4, 0, HS6.out, HP6.out, by simp⟩
            case rest =>
              obtain ⟨l3, e3, hs7, hp7, hcase⟩ := hcut
              have hrp : RlP R E l3 e3 (acc ++ nums1 (x, a)) ∧ l3.length < l.length := by
                rcases hcase with ⟨rfl, rfl, rfl⟩ | ⟨rfl, rfl, rfl⟩
                · have h2 := H2.out
                  rw [← HB.out, Bool.true_and] at h2
                  refine ⟨.inl ⟨H1.out, rfl, h2, H3.out, H4.out.1, ?_⟩, H4.out.2.2⟩
                  have := (nums1_len (x, a)).2
                  have := H4.out.2.1
                  have := HMl.out
                  rw [List.length_append]; omega
                · have h2 := H2.out
                  rw [← HB.out, Bool.false_and] at h2
                  have hE : E = 2 := by rw [HE.out, lostE, if_neg H1.out, if_neg (by rw [h2]; decide)]
                  exact ⟨.inr ⟨rfl, hE.symm, by rw [hE]; decide⟩, by have := HL4.out; simp; omega⟩
              have HRP := Lib.hid hrp
              have HS7 := Lib.hid hs7
              have hlen := H4.out.2.1
              have hn17 := (nums1_len (x, a)).2
              have hml := HMl.out
              have HLs := Lib.hid (show m ≤ 17 * 250 by omega)
              have p0 := obj_cell hp7 0
              have p1 := obj_cell hp7 1
              simp at p0 p1
              have HP7 := Lib.hid hp7
              have HN17 := Lib.hid hn17
              clear HS6 HP6 hs7 hp7 hcase hrp hlen hn17 hml
              go_wp2_with fail
              refine (numbers_any x a wc HX2.out).mono ?_
              rintro r w8 ⟨u, rfl, hu, hb8⟩
              have HS8 := Lib.hid (HS7.out.after hb8)
              have HSr := Lib.hid (own_sv hu)
              obtain ⟨A8, c8', rfl⟩ := own_slice hu
              have HO8 := Lib.hid (show w8.ownsRow w.heap.size 58 1 (.slice A m c) m (ints .u16 acc) by have := HS8.out.own; rwa [HMl.out] at this)
              have hsz8 := (HS7.out.after hb8).fr.size
              have HM8 := Lib.hid HS7.out.rd.len
              generalize hnn : nums1 (x, a) = nn at *
              clear hnn hu hb8 p0 p1 HS7
              go_wp2_with (at_builtin; refine wpl_app rfl _ _ 36 rfl w.heap.size 58 (.int .u16 0) 2 Try.underlying36 (by kernel_rfl) rfl _ _ _ rfl HO8.out _ _ _ (ints .u16 nn) rfl ?c1 (ints_one _ _) ?c3 ?c4 ?c5 ?c6)
              case c1 => exact svsrc HSr.out
              case c3 => have := HLs.out; have := HN17.out; unfold maxLen; omega
              case c4 => have := HLs.out; have := HN17.out; omega
              case c5 => exact hsz8
              case c6 =>
                intro v' w9 ho hg _
                obtain ⟨A9, c9, rfl⟩ := own_slice ho
                rw [← ints_app] at ho
                have hN := HS8.out.app (v' := .slice A9 (m + nn.length) c9) (acc' := acc ++ nn) (by rw [List.length_append, HMl.out]; exact ho) hg
                have HN := Lib.hid hN
                have HMn := Lib.hid hN.rd.len
                clear ho hg hN
                go_wp2_with fail
                go_roundw
                case rel => exact ⟨l3, e3, acc ++ nn, HN.out, HRP.out.1⟩
                case measure => rw [HMn.out, HM.out]; exact HRP.out.2
        · exact absurd h1 hl0
end Go.Proofs.Ytphofpemblindaa
/- The walk of readAsks. -/
namespace Go.Proofs.Ytphofpemblindaa
open Go.RowKit

def cellsA (l : List (Nat × Nat)) : List Value := (l.map rowA).flatten
theorem cellsA_snoc (l : List (Nat × Nat)) (a : Nat × Nat) : cellsA l ++ rowA a = cellsA (l ++ [a]) := by simp [cellsA]
theorem rowA_len (l : List (Nat × Nat)) : ∀ r ∈ l.map rowA, r.length = 2 := by
  intro r hr
  obtain ⟨t, _, rfl⟩ := List.mem_map.1 hr
  rfl
theorem own_asks {w : World} {base : Nat} {e : TypeId} {v : Value} {n : Nat} {l : List (Nat × Nat)} (hn : l.length = n) (h : w.ownsRow base e 2 v n (cellsA l)) : AsS w v l :=
  own_rows (by simpa using hn) (rowA_len l) h
/-- what goes wrong when asks are read -/
def asksE (l : List UInt8) (e : Int) : Int := if l = [] ∨ l.length % 8 ≠ 0 then wrongE e 2 else 0
/-- a reader beside a row of asks that grows -/
structure RaS (w0 : World) (lo rb : Nat) (l : List UInt8) (e : Int) (v : Value) (acc : List (Nat × Nat)) (w : World) : Prop where
  rd : Rd lo w rb l e
  own : w.ownsRow w0.heap.size 57 2 v acc.length (cellsA acc)
  fr : Fr (F1 rb) w0 w
  lt : rb < w0.heap.size
section
variable {w0 : World} {lo rb : Nat} {l l2 : List UInt8} {e e2 : Int} {v v' : Value} {acc acc' : List (Nat × Nat)} {w w' : World}
theorem RaS.read (h : RaS w0 lo rb l e v acc w) (hp : RPost lo w rb l2 e2 w') : RaS w0 lo rb l2 e2 v acc w' := by
  have hlt := h.lt
  refine ⟨hp.1, hp.2.own h.own (fun k hk (hx : k = rb) => ?_), h.fr.trans hp.2 (fun x hx => .inl hx), hlt⟩
  have := (h.own.lt k hk).1
  omega
theorem RaS.after (h : RaS w0 lo rb l e v acc w) (hb : Below w.heap.size w w') : RaS w0 lo rb l e v acc w' :=
  ⟨h.rd.fr0 (Fr.of hb), (Fr.of hb).own h.own (fun _ _ h => h), h.fr.trans (Fr.of hb) (fun _ hx => hx.elim), h.lt⟩
theorem RaS.app (h : RaS w0 lo rb l e v acc w) (ho : w'.ownsRow w0.heap.size 57 2 v' acc'.length (cellsA acc')) (hg : w.grownBy w' v.ownBlock) : RaS w0 lo rb l e v' acc' w' := by
  have hlt := h.lt
  have hf := Fr.grown hg
  have hk : ∀ k, some k = v.ownBlock → w0.heap.size ≤ k := fun k hk => (h.own.lt k hk.symm).1
  exact ⟨h.rd.fr hf (fun k _ h2 hx => by have := hk k hx; omega), ho, h.fr.trans hf (fun k hx => .inr (hk k hx)), hlt⟩
end
def RaP (R : List UInt8) (E : Int) (l : List UInt8) (e : Int) (acc : List (Nat × Nat)) : Prop :=
  (E = 0 ∧ e = 0 ∧ decAs R = acc ++ decAs l ∧ l.length % 8 = 0 ∧ acc.length + l.length / 8 ≤ R.length / 8) ∨ (l = [] ∧ e = E ∧ E ≠ 0)
set_option maxHeartbeats 2000000 in
theorem readasks_any (lo rb : Nat) (R : List UInt8) (e : Int) (w : World) (hr : Rd lo w rb R e) (hl : R.length ≤ 1000) :
    Calls Try.prog 56 #[.pointer (some ⟨rb, 0, none⟩)] w fun r w' => ∃ u zs, r = .returned u ∧ w'.ownsRow w.heap.size 57 2 u zs.length (cellsA zs) ∧ RPost lo w rb [] (asksE R e) w' ∧ (asksE R e = 0 → zs = decAs R) := by
  have HR := Lib.hid hr
  have hlt := hr.lt.2
  have he := hr.2.1
  have hwe : wrongE e 2 ≠ 0 := by unfold wrongE; split <;> omega
  refine calls_q fun Q HQ => ?_
  obtain ⟨E, hE⟩ : ∃ E, E = asksE R e := ⟨_, rfl⟩
  rw [← hE] at HQ
  have hs0 : RaS w lo rb R e (.slice none 0 0) [] w := ⟨hr, World.ownsRow_nil _ _ _ _, Fr.refl _ _, hlt⟩
  have HE := Lib.hid hE
  have HS0 := Lib.hid hs0
  clear hs0 hE hr
  obtain ⟨m, hm⟩ : ∃ m, m = R.length := ⟨_, rfl⟩
  have HM0 := Lib.hid hm
  have HL := Lib.hid (fun (w : World) (h : Rd lo w rb R e) => rleft_any lo rb R e w h)
  rw [← hm] at HL hl
  go_enter Try.func56, Try.ntmps56
  go_upto_region 1 with fail
  go_cut [12] (fun y wx => y = .bool (decide (m = 0 ∨ m % 8 ≠ 0)) ∧ w = wx)
  case first =>
    clear hm
    by_cases h0 : m = 0
    · subst h0
      go_wp2_with fail
      refine (HL.out w HR.out).mono ?_
      rintro r w ⟨rfl, rfl⟩
      go_wp2_with fail
      go_meet
      case rel => simp
    · have h0i : ((m : Int) == 0) = false := by simp [h0]
      by_cases h8 : m % 8 = 0
      · have h8i : (m : Int) % 8 = 0 := by omega
        have HB2 := Lib.hid (show decide (m = 0 ∨ m % 8 ≠ 0) = false from decide_eq_false (by omega))
        clear h0 h8
        go_wp2_with fail
        refine (HL.out w HR.out).mono ?_
        rintro r w ⟨rfl, rfl⟩
        go_wp2_with fail
        refine (HL.out w HR.out).mono ?_
        rintro r w ⟨rfl, rfl⟩
        go_wp2_with fail
        go_meet
        case rel => exact ⟨by rw [HB2.out], rfl⟩
      · have h8i : ((m : Int) % 8 != 0) = true := by simp; omega
        have HB2 := Lib.hid (show decide (m = 0 ∨ m % 8 ≠ 0) = true from decide_eq_true (by omega))
        clear h0 h8
        go_wp2_with fail
        refine (HL.out w HR.out).mono ?_
        rintro r w ⟨rfl, rfl⟩
        go_wp2_with fail
        refine (HL.out w HR.out).mono ?_
        rintro r w ⟨rfl, rfl⟩
        go_wp2_with fail
        go_meet
        case rel => exact ⟨by rw [HB2.out], rfl⟩
  case rest =>
    obtain ⟨hu, rfl⟩ := hcut
    subst hu
    have hEm : E = if m = 0 ∨ m % 8 ≠ 0 then wrongE e 2 else 0 := by
      rw [HE.out, asksE, hm]
      have h1 : R = [] ↔ R.length = 0 := ⟨fun h => by rw [h]; rfl, List.eq_nil_of_length_eq_zero⟩
      simp only [h1]
    have HEm := Lib.hid hEm
    clear hEm hm
    go_upto_if 12 with fail
    go_cut [] (fun wx => ∃ l' e', RaS w lo rb l' e' (.slice none 0 0) [] wx ∧ RaP R E l' e' [])
    case first =>
      by_cases hb : m = 0 ∨ m % 8 ≠ 0
      · have HX := Lib.hid (show E = wrongE e 2 by rw [HEm.out, if_pos hb])
        have HB2 := Lib.hid (show decide (m = 0 ∨ m % 8 ≠ 0) = true from decide_eq_true hb)
        have HWe := Lib.hid hwe
        rw [HB2.out]
        clear hb hwe
        go_wp2_with fail
        refine (rwrong_any lo rb R e 2 w HR.out (by decide)).mono ?_
        rintro r w2 ⟨rfl, hp⟩
        have HS1 := Lib.hid (HS0.out.read hp)
        clear hp
        go_wp2_with fail
        go_meet
        case rel => exact ⟨[], wrongE e 2, HS1.out, .inr ⟨rfl, HX.out.symm, by rw [HX.out]; exact HWe.out⟩⟩
      · have HX := Lib.hid (show E = 0 by rw [HEm.out, if_neg hb])
        have HB2 := Lib.hid (show decide (m = 0 ∨ m % 8 ≠ 0) = false from decide_eq_false hb)
        have HEe := Lib.hid (show e = 0 by rcases Int.decEq e 0 with h | h; exact absurd (he h) (fun hR => hb (.inl (by rw [HM0.out, hR]; rfl))); exact h)
        have HR8 := Lib.hid (show R.length % 8 = 0 by have := HM0.out; omega)
        rw [HB2.out]
        clear hb hwe he
        go_wp2_with fail
        go_meet
        case rel => exact ⟨R, e, HS0.out, .inl ⟨HX.out, HEe.out, rfl, HR8.out, by simp⟩⟩
    case rest =>
      obtain ⟨l1, e1, hs1, hp1⟩ := hcut
      have HS1 := Lib.hid hs1
      have HP1 := Lib.hid hp1
      clear hs1 hp1 HS0 HR he hwe
      go_wp2_with fail
      go_loopw [3] (fun v wx => ∃ l' e' acc, RaS w lo rb l' e' v acc wx ∧ RaP R E l' e' acc) (fun _ wx => rdLen wx rb)
      case atStart => exact ⟨l1, e1, [], HS1.out, HP1.out⟩
      case round =>
        obtain ⟨l, e2, acc, hs, hp⟩ := hrel
        obtain ⟨A, c, rfl⟩ := own_slice hs.own
        have HS := Lib.hid hs
        have HM := Lib.hid hs.rd.len
        by_cases hl0 : l = []
        · subst hl0
          have hfin : RPost lo w rb [] E wr ∧ (E = 0 → acc = decAs R) := by
            rcases hp with ⟨h1, rfl, h2, _, _⟩ | ⟨_, rfl, h2⟩
            · rw [h1]
              exact ⟨⟨hs.rd, hs.fr⟩, fun _ => by rw [h2]; simp [decAs_nil]⟩
            · exact ⟨⟨hs.rd, hs.fr⟩, fun h => absurd h h2⟩
          have HF := Lib.hid hfin
          clear hs hp hfin
          go_wp2_with fail
          refine (rleft_any lo rb [] e2 wr HS.out.rd).mono ?_
          rintro r wr ⟨rfl, rfl⟩
          go_wp2_with fail
          exact HQ.out _ _ ⟨_, acc, rfl, HS.out.own, HF.out⟩
        · rcases hp with ⟨h1, rfl, h2, h5, h6⟩ | ⟨h1, _⟩
          · have hl8 : 8 ≤ l.length := by
              have : l.length ≠ 0 := fun h => hl0 (List.eq_nil_of_length_eq_zero h)
              omega
            rw [decAs_step l hl8] at h2
            have hrl := rawR_len 8 l hl8
            have H2 := Lib.hid h2
            have H1 := Lib.hid h1
            have hml : (0 : Int) < (l.length : Int) := by omega
            have H4 := Lib.hid (show (rawR 8 l).length % 8 = 0 ∧ acc.length + 1 + ((rawR 8 l).length / 8) ≤ R.length / 8 ∧ (rawR 8 l).length < l.length by rw [hrl]; omega)
            have hR5 := rawR_add 4 1 l (by decide)
            have hR8 := rawR_add 5 3 l (by decide)
            have hE4 := rawR_0' 4 l (by omega)
            have hE5 := rawR_0' 1 (rawR 4 l) (by rw [rawR_len 4 l (by omega)]; omega)
            have hE8 := rawR_0' 3 (rawR 5 l) (by rw [rawR_len 5 l (by omega)]; omega)
            clear hs hl0 h1 h2 h5 h6 hrl hl8
            go_wp2_with fail
            refine (rleft_any lo rb l 0 wr HS.out.rd).mono ?_
            rintro r wr ⟨rfl, rfl⟩
            go_wp2_with fail
            refine (rnum_any lo rb l 0 wr HS.out.rd).mono ?_
            rintro r w3 ⟨rfl, hp⟩
            rw [hE4] at hp
            have HS3 := Lib.hid (HS.out.read hp)
            clear hp
            go_wp2_with fail
            refine (rbyte_any lo rb (rawR 4 l) 0 w3 HS3.out.rd).mono ?_
            rintro r w4 ⟨rfl, hp⟩
            rw [hE5, hR5] at hp
            have HS4 := Lib.hid (HS3.out.read hp)
            clear hp HS3 hE4 hE5 hR5 HS
            have hd : decA l = (rdN 4 l, rdN 1 (rawR 4 l)) := rfl
            rw [hd] at H2
            clear hd
            generalize rdN 4 l = x at *
            generalize rdN 1 (rawR 4 l) = y at *
            have HS5 := Lib.hid (HS4.out.after (below_alloc (.cells #[.int .u32 (x : Nat), .int .u8 (y : Nat)] 57 (0, 0))))
            have hsz5 := HS5.out.fr.size
            have HLa := Lib.hid (show acc.length ≤ 1000 by have := H4.out.2.1; have := HM0.out; omega)
            clear HS4
            go_wp2_with (at_builtin; refine wpl_appk rfl _ _ 35 rfl w.heap.size 57 (.agg #[.int .u32 0, .int .u8 0]) 2 8 Try.underlying35 (by kernel_rfl) rfl (by decide) _ _ _ rfl HS5.out.own _ 1 1 (rowA (x, y)) rfl rfl ?c2 ?c3 ?c4 ?c5 ?c6 ?c7)
            case c2 => exact new_cells w4 [.int .u32 (x : Nat), .int .u8 (y : Nat)] 57
            case c3 => intro u hu; simp [rowA] at hu; rcases hu with rfl | rfl <;> rfl
            case c4 => have := HLa.out; unfold maxLen; omega
            case c5 => have := HLa.out; omega
            case c6 => exact hsz5
            case c7 =>
              intro v' w6 ho hg _
              obtain ⟨A6, c6, rfl⟩ := own_slice ho
              rw [cellsA_snoc] at ho
              have hN := HS5.out.app (v' := .slice A6 (acc.length + 1) c6) (acc' := acc ++ [(x, y)]) (by rw [List.length_append]; exact ho) hg
              have HN := Lib.hid hN
              clear ho hg hN HS5
              go_wp2_with fail
              refine (rthree_any lo rb (rawR 5 l) 0 w6 HN.out.rd).mono ?_
              rintro r w7 ⟨rfl, hp⟩
              rw [hE8, hR8] at hp
              have HS7 := Lib.hid (HN.out.read hp)
              have HM7 := Lib.hid (HN.out.read hp).rd.len
              clear hp HN hE8 hR8
              have HRP := Lib.hid (show RaP R E (rawR (5 + 3) l) 0 (acc ++ [(x, y)]) from .inl ⟨H1.out, rfl, by rw [H2.out]; simp, H4.out.1, by have := H4.out.2.1; rw [List.length_append]; simp; omega⟩)
              go_wp2_with fail
              go_roundw
              case rel => exact ⟨rawR 8 l, 0, acc ++ [(x, y)], by simpa using HS7.out, HRP.out⟩
              case measure => rw [HM7.out, HM.out]; exact H4.out.2.2
          · exact absurd h1 hl0
end Go.Proofs.Ytphofpemblindaa
/- The walks of markOf and kindOf: what tells a message's Kind. -/
namespace Go.Proofs.Ytphofpemblindaa
open Go.RowKit

set_option maxHeartbeats 1000000 in
theorem markof_any (k : Int) (w : World) :
    Calls Try.prog 71 #[.int .i64 k] w fun e w' => e = .returned (.agg #[.int .u8 (typM k : Nat), .int .u8 (cntM k : Nat)]) ∧ Below w.heap.size w w' := by
  by_cases h1 : k = 1
  · subst h1
    rw [show typM 1 = 206 from rfl, show cntM 1 = 1 from rfl]
    refine calls_q fun Q HQ => ?_
    go_enter Try.func71, Try.ntmps71
    go_wp2_with fail
    refine bodyPost_ret (v := .agg #[.int .u8 206, .int .u8 1]) (by simp [results, Try.results71, go_sem]; try rfl) rfl ?_
    exact HQ.out _ _ ⟨rfl, below_alloc _⟩
  · by_cases h2 : k = 2
    · subst h2
      rw [show typM 2 = 206 from rfl, show cntM 2 = 4 from rfl]
      refine calls_q fun Q HQ => ?_
      go_enter Try.func71, Try.ntmps71
      go_wp2_with fail
      refine bodyPost_ret (v := .agg #[.int .u8 206, .int .u8 4]) (by simp [results, Try.results71, go_sem]; try rfl) rfl ?_
      exact HQ.out _ _ ⟨rfl, below_alloc _⟩
    · rw [show typM k = 205 by rw [typM, if_neg h1, if_neg h2], show cntM k = 1 by rw [cntM, if_neg h1, if_neg h2]]
      refine calls_q fun Q HQ => ?_
      go_enter Try.func71, Try.ntmps71
      go_wp2_with fail
      refine bodyPost_ret (v := .agg #[.int .u8 205, .int .u8 1]) (by simp [results, Try.results71, go_sem]; try rfl) rfl ?_
      exact HQ.out _ _ ⟨rfl, below_alloc _⟩
/-- a chunk's box -/
structure KdS (w0 : World) (bx n y : Nat) (v : Value) (w : World) : Prop where
  p : w.heap[bx]? = some (.cells #[.int .u8 (n : Nat), .int .u8 (y : Nat), v] 40 (0, 0))
  below : Below w0.heap.size w0 w
theorem KdS.after {w0 w w' : World} {bx n y : Nat} {v : Value} (h : KdS w0 bx n y v w) (hb : Below w.heap.size w w') : KdS w0 bx n y v w' :=
  ⟨(Fr.of hb).heap h.p (fun h => h), h.below.trans (hb.mono h.below.size)⟩
theorem KdS.cells {w0 w : World} {bx n y : Nat} {v : Value} (h : KdS w0 bx n y v w) : KdS w0 bx n y v w ∧ w.cell? ⟨bx, 0, none⟩ = some (.int .u8 (n : Nat)) ∧ w.cell? ⟨bx, 1, none⟩ = some (.int .u8 (y : Nat)) :=
  ⟨h, obj_cell h.p 0, obj_cell h.p 1⟩
theorem kind_is (n y j : Nat) (h1 : 1 ≤ j) (h2 : j ≤ 3) (hn : ∀ i : Nat, 1 ≤ i → i < j → ¬ (typM i = y ∧ cntM i = n)) (h : typM j = y ∧ cntM j = n) : kindN n y = j := by
  obtain ⟨rfl, rfl⟩ := h
  exact kind_mark j (by omega)
theorem kind_none (n y : Nat) (hn : ∀ i : Nat, 1 ≤ i → i < 4 → ¬ (typM i = y ∧ cntM i = n)) : kindN n y = 0 := by
  rcases Int.decEq (kindN n y) 0 with h | h
  · obtain ⟨h1, h2, h3⟩ := mark_kind n y h
    rcases h3 with h3 | h3 | h3 <;> rw [h3] at h1 h2
    · exact absurd ⟨h2, h1⟩ (hn 1 (by omega) (by omega))
    · exact absurd ⟨h2, h1⟩ (hn 2 (by omega) (by omega))
    · exact absurd ⟨h2, h1⟩ (hn 3 (by omega) (by omega))
  · exact h
set_option maxHeartbeats 1000000 in
theorem kindof_any (n y : Nat) (v : Value) (w : World) :
    Calls Try.prog 55 #[.agg #[.int .u8 (n : Nat), .int .u8 (y : Nat), v]] w fun e w' => e = .returned (.int .i64 (kindN n y)) ∧ Below w.heap.size w w' := by
  have HS0 := Lib.hid (show KdS w w.heap.size n y v (w.alloc (.cells #[.int .u8 (n : Nat), .int .u8 (y : Nat), v] 40 (0, 0))) from ⟨heap_alloc_new _ _, below_alloc _⟩)
  refine calls_q fun Q HQ => ?_
  go_enter Try.func55, Try.ntmps55
  go_wp2_with fail
  rw [show (w.alloc (.cells #[.int .u8 (n : Nat), .int .u8 (y : Nat), v] 40)) = (w.alloc (.cells #[.int .u8 (n : Nat), .int .u8 (y : Nat), v] 40 (0, 0))) from rfl]
  generalize (w.alloc (.cells #[.int .u8 (n : Nat), .int .u8 (y : Nat), v] 40 (0, 0))) = w2 at *
  generalize hbx : w.heap.size = bx at *
  go_loopw [3] (fun i wr => ∃ j : Nat, 1 ≤ j ∧ j ≤ 4 ∧ i = .int .i64 j ∧ (∀ i : Nat, 1 ≤ i → i < j → ¬ (typM i = y ∧ cntM i = n)) ∧ KdS w bx n y v wr) (fun i _ => 4 - (intOf i).toNat)
  case atStart => exact ⟨1, by omega, by omega, rfl, fun i _ _ => by omega, HS0.out⟩
  case round =>
    obtain ⟨j, hj1, hj, rfl, hn, hs⟩ := hrel
    have HS := Lib.hid hs
    by_cases hlt : j < 4
    · have h4 : (j : Int) ≤ 3 := by omega
      have HK := Lib.hid (kind_is n y j hj1 (by omega) hn)
      have HN := Lib.hid (show ¬ (typM j = y ∧ cntM j = n) → ∀ i : Nat, 1 ≤ i → i < j + 1 → ¬ (typM i = y ∧ cntM i = n) from fun h i h1 h2 => by
        rcases Nat.lt_or_ge i j with h3 | h3
        · exact hn i h1 h3
        · obtain rfl : i = j := by omega
          exact h)
      have HM := Lib.hid (fun w => markof_any j w)
      clear hn hs
      generalize typM j = ty at *
      generalize cntM j = ct at *
      by_cases he : ty = y ∧ ct = n
      · obtain ⟨rfl, rfl⟩ := he
        have HE := Lib.hid (HK.out ⟨rfl, rfl⟩)
        clear HK HN
        go_wp2_with fail
        go_region_held3 (fun w' => KdS w bx ct ty v w' ∧ w'.cell? ⟨bx, 0, none⟩ = some (.int .u8 (ct : Nat)) ∧ w'.cell? ⟨bx, 1, none⟩ = some (.int .u8 (ty : Nat))) (first | exact ((‹KdS _ _ _ _ _ _ ∧ _›).1.after (by assumption)).cells | exact (HS.out.after (below_drewN (Below.refl _ _) 1)).cells) (first | (go_at_call 71; refine (HM.out _).mono ?_; rintro e w9 ⟨rfl, hb⟩))
        have hh := (‹KdS _ _ _ _ _ _ ∧ _›).1
        go_wp2_with fail
        refine HQ.out _ _ ⟨ret_int HE.out.symm, ?_⟩
        have := hh.below
        rw [hbx] at this; exact this
      · have HE := Lib.hid (HN.out he)
        clear HK HN
        by_cases he1 : ty = y
        · obtain rfl := he1
          have he2 : ¬ ((ct : Nat) : Int) = (n : Nat) := by omega
          clear he
          go_wp2_with fail
          go_region_held3 (fun w' => KdS w bx n ty v w' ∧ w'.cell? ⟨bx, 0, none⟩ = some (.int .u8 (n : Nat)) ∧ w'.cell? ⟨bx, 1, none⟩ = some (.int .u8 (ty : Nat))) (first | exact ((‹KdS _ _ _ _ _ _ ∧ _›).1.after (by assumption)).cells | exact (HS.out.after (below_drewN (Below.refl _ _) 1)).cells) (first | (go_at_call 71; refine (HM.out _).mono ?_; rintro e w9 ⟨rfl, hb⟩))
          have hh := (‹KdS _ _ _ _ _ _ ∧ _›).1
          go_wp2_with fail
          go_roundw
          case rel => exact ⟨j + 1, by omega, by omega, by go_num, HE.out, hh⟩
          case measure => simp [intOf]; omega
        · have he2 : ¬ ((ty : Nat) : Int) = (y : Nat) := by omega
          clear he he1
          go_wp2_with fail
          go_region_held3 (fun w' => KdS w bx n y v w' ∧ w'.cell? ⟨bx, 0, none⟩ = some (.int .u8 (n : Nat)) ∧ w'.cell? ⟨bx, 1, none⟩ = some (.int .u8 (y : Nat))) (first | exact ((‹KdS _ _ _ _ _ _ ∧ _›).1.after (by assumption)).cells | exact (HS.out.after (below_drewN (Below.refl _ _) 1)).cells) (first | (go_at_call 71; refine (HM.out _).mono ?_; rintro e w9 ⟨rfl, hb⟩))
          have hh := (‹KdS _ _ _ _ _ _ ∧ _›).1
          go_wp2_with fail
          go_roundw
          case rel => exact ⟨j + 1, by omega, by omega, by go_num, HE.out, hh⟩
          case measure => simp [intOf]; omega
    · obtain rfl : j = 4 := by omega
      have HE := Lib.hid (kind_none n y hn)
      clear hn
      go_wp2_with fail
      refine HQ.out _ _ ⟨ret_int HE.out.symm, ?_⟩
      have := HS.out.below
      rw [hbx] at this; exact this
end Go.Proofs.Ytphofpemblindaa
/- The walk of Short of wire's Writer. -/
namespace Go.Proofs.Ytphofpemblindaa
open Go.RowKit
set_option maxHeartbeats 400000 in
theorem wshort_any (B pb : Nat) (ob : Option Nat) (l : List UInt8) (n : Int) (w : World) (hw : Wr B w pb ob l) (hn : Fits 65536 n) (hm : l.length ≤ 140737488300000) :
    Calls Try.prog 64 #[.pointer (some ⟨pb, 0, none⟩), .int .u16 n] w fun e w' => e = .returned (.tuple #[]) ∧ WPost B w pb ob (l ++ bytesI n.toNat 2) w' := by
  have hu := u64_of hn (by decide)
  have hw1 := u64_id hu
  refine calls_q fun Q HQ => ?_
  go_enter Try.func64, Try.ntmps64
  go_wp2_with fail
  refine (wnumber_any B pb ob l n 2 w hw hu hm).mono ?_
  rintro e w2 ⟨rfl, hp⟩
  have HP := Lib.hid hp
  clear hp
  go_wp2_with fail
  go_end0
  exact HQ.out _ _ ⟨rfl, HP.out⟩
end Go.Proofs.Ytphofpemblindaa
