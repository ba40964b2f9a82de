/- The walks of feed's pairs: after, firstPair, fits. -/
import Derived.Test.YtonkecfgopbclaaFm
import Derived.Test.YtonkecfgopbclaaRowK
import Derived.Deep.RegionHeld3
import Derived.Deep.DeepCutAuto
namespace Go.Proofs.Ytonkecfgopbclaa
open Go.RowKit

theorem aft_wrap (n : Int) (k : Nat) : IntKind.u16.wrap (IntKind.u16.wrap (n + IntKind.u16.wrap (k : Int)) + 1) = aft n k := by
  rw [wrap_u16, wrap_u16, wrap_u16]; unfold aft; omega
set_option maxHeartbeats 400000 in
theorem after_any (n a : Int) (k : Nat) (w : World) :
    Calls Try.prog 49 #[.agg #[.int .u16 n, .int .u16 a], .int .i64 (k : Nat)] w fun e w' => e = .returned (.int .u16 (aft n k)) ∧ Below w.heap.size w w' := by
  have hw := aft_wrap n k
  refine calls_q fun Q HQ => ?_
  go_enter Try.func49, Try.ntmps49
  go_wp2_with fail
  exact HQ.out _ _ ⟨rfl, below_alloc _⟩

/-! ### lost numbers as a slice -/
/-- lost numbers, in blocks of G -/
abbrev LoG (G : Nat → Prop) (w : World) (v : Value) (l : List Int) : Prop := SVx G w v (ints .u16 l)
theorem LoG.parts {G : Nat → Prop} {w : World} {v : Value} {l : List Int} (h : LoG G w v l) : ∃ A c, v = .slice A l.length c ∧ l.length ≤ c ∧ c ≤ 9223372036854775807 ∧
    (0 < l.length → ∃ b o, A = some ⟨b, o, none⟩ ∧ b < w.heap.size ∧ G b ∧ ∀ j (h : j < l.length), w.cell? ⟨b, o + j, none⟩ = some (.int .u16 l[j])) := by
  obtain ⟨⟨A, c, rfl, h1, h2, h3⟩, h4⟩ := h
  have hl := ints_len .u16 l
  refine ⟨A, c, by rw [hl], by omega, by unfold maxLen at h2; omega, fun hp => ?_⟩
  obtain ⟨b, o, rfl, hb, hc⟩ := h3 (by omega)
  refine ⟨b, o, rfl, hb, h4 (by omega) b rfl, fun j hj => ?_⟩
  have := hc j (by omega)
  simpa [ints] using this
/-- all but the first -/
theorem LoG.tail {G : Nat → Prop} {w : World} {A A' : Option Addr} {n c c' : Nat} {x : Int} {l : List Int} (h : LoG G w (.slice A n c) (x :: l)) (hA : l.length = 0 ∨ A' = A.map (fun x => x.add 1)) (hc : l.length ≤ c') (hm : c' ≤ 9223372036854775807) :
    LoG G w (.slice A' l.length c') l := by
  obtain ⟨⟨A1, c1, he, h1, h2, h3⟩, h4⟩ := h
  simp only [Value.slice.injEq] at he
  obtain ⟨rfl, _, rfl⟩ := he
  have hl := ints_len .u16 l
  by_cases hz : l.length = 0
  · obtain rfl := List.eq_nil_of_length_eq_zero hz
    exact ⟨⟨A', c', rfl, Nat.zero_le _, by unfold maxLen; omega, fun h => absurd h (by simp [ints])⟩, fun h => absurd h (by simp [ints])⟩
  · obtain rfl := hA.resolve_left hz
    obtain ⟨b, o, rfl, hb, hcell⟩ := h3 (by simp [ints])
    have hG := h4 (by simp [ints]) b rfl
    have ha : (⟨b, o, none⟩ : Addr).add 1 = ⟨b, o + 1, none⟩ := by rw [RowV.add rfl]
    refine ⟨⟨_, c', by rw [hl], by rw [hl]; exact hc, by unfold maxLen; omega, fun _ => ⟨b, o + 1, by rw [Option.map_some, ha], hb, fun j hj => ?_⟩⟩, fun _ k hk => ?_⟩
    · have := hcell (j + 1) (by rw [ints_len] at hj ⊢; simpa using hj)
      rw [show o + 1 + j = o + (j + 1) by omega, this]
      simp [ints]
    · rw [Option.map_some, ha] at hk
      simp only [Value.ownBlock, Option.some.injEq] at hk
      exact hk ▸ hG
theorem LoG.below {G : Nat → Prop} {w w' : World} {v : Value} {l : List Int} (h : LoG G w v l) (hb : Below w.heap.size w w') : LoG G w' v l := h.fr (Fr.of hb) (fun _ _ _ h => h)
theorem objs2 {w : World} {b : Nat} {c0 c1 : Value} {t : TypeId} (h : w.heap[b]? = some (.cells #[c0, c1] t (0, 0))) (x y : Value) (w' : World) (hw : w' = (w.setCell ⟨b, 0, none⟩ x).setCell ⟨b, 1, none⟩ y) :
    w'.heap[b]? = some (.cells #[x, y] t (0, 0)) ∧ Fr (F1 b) w w' := by
  subst hw
  have h1 := obj_set h 0 x
  have h2 := obj_set h1 1 y
  exact ⟨by simpa using h2, (Fr.setCell w ⟨b, 0, none⟩ x).trans (Fr.setCell _ ⟨b, 1, none⟩ y) (fun _ h => .inl h)⟩
/-- a pair that grows, beside the numbers that are left -/
structure FpS (G : Nat → Prop) (w0 : World) (rx bp : Nat) (n : Int) (a : Nat) (l : List Int) (v : Value) (w : World) : Prop where
  res : w.heap[rx]? = some (.cells #[.int .u16 0, .int .u16 0] 82 (0, 0))
  p : w.heap[bp]? = some (.cells #[.int .u16 n, .int .u16 (a : Nat)] 82 (0, 0))
  v : LoG (fun k => G k ∧ k < w0.heap.size) w v l
  below : Below w0.heap.size w0 w
  o0 : w0.heap.size ≤ rx
  o1 : rx < bp
section
variable {G : Nat → Prop} {w0 : World} {rx bp : Nat} {n : Int} {a : Nat} {l : List Int} {v : Value} {w w' : World}
theorem FpS.after (h : FpS G w0 rx bp n a l v w) (hb : Below w.heap.size w w') : FpS G w0 rx bp n a l v w' :=
  ⟨(Fr.of hb).heap h.res (fun h => h), (Fr.of hb).heap h.p (fun h => h), h.v.below hb, h.below.trans (hb.mono h.below.size), h.o0, h.o1⟩
theorem FpS.drew (h : FpS G w0 rx bp n a l v w) : FpS G w0 rx bp n a l v w.drew := h.after (below_drewN (Below.refl _ _) 1)
theorem FpS.cells (h : FpS G w0 rx bp n a l v w) : w.cell? ⟨bp, 0, none⟩ = some (.int .u16 n) ∧ w.cell? ⟨bp, 1, none⟩ = some (.int .u16 (a : Nat)) ∧ w.frozen? ⟨bp, 0, none⟩ = false ∧ w.frozen? ⟨bp, 1, none⟩ = false :=
  ⟨obj_cell h.p 0, obj_cell h.p 1, obj_frozen h.p 0, obj_frozen h.p 1⟩
theorem FpS.set (h : FpS G w0 rx bp n a l v w) (b : Nat) : FpS G w0 rx bp n b l v (w.setCell ⟨bp, 1, none⟩ (.int .u16 (b : Nat))) := by
  have h0 := h.o0; have h1 := h.o1
  have hf : Fr (F1 bp) w (w.setCell ⟨bp, 1, none⟩ (.int .u16 (b : Nat))) := Fr.setCell w ⟨bp, 1, none⟩ _
  exact ⟨hf.heap h.res (fun (hx : rx = bp) => by omega), by simpa using obj_set h.p 1 (.int .u16 (b : Nat)), h.v.fr hf (fun k _ hk (hx : k = bp) => by omega), h.below.trans (hf.below h.below.size (fun k (hk : k = bp) => by omega)), h0, h1⟩
end
theorem u16_or_nat (a b : Nat) (ha : a < 65536) (hb : b < 65536) : bits .or .u16 (a : Int) (b : Int) = ((a ||| b : Nat) : Int) := by
  have hx : a ||| b < 2 ^ 16 := Nat.or_lt_two_pow (by omega) (by omega)
  show IntKind.u16.wrap ((BitVec.ofInt 16 (a : Int) ||| BitVec.ofInt 16 (b : Int)).toNat : Int) = _
  rw [BitVec.ofInt_natCast, BitVec.ofInt_natCast, wrap_u16, BitVec.toNat_or, BitVec.toNat_ofNat, BitVec.toNat_ofNat, Nat.mod_eq_of_lt (by omega), Nat.mod_eq_of_lt (by omega)]
  omega
theorem or_wrap (a k : Nat) (ha : a < 2 ^ k) (hk : k < 16) : bits .or .u16 (a : Int) (IntKind.u16.wrap (2 ^ k)) = ((a ||| 2 ^ k : Nat) : Int) := by
  have h : (2 : Nat) ^ k ≤ 2 ^ 15 := Nat.pow_le_pow_right (by decide) (by omega)
  have e : IntKind.u16.wrap (2 ^ k) = ((2 ^ k : Nat) : Int) := by rw [natpow_cast, wrap_u16]; omega
  rw [e, u16_or_nat _ _ (by omega) (by omega)]
theorem FpS.tl {G : Nat → Prop} {w0 : World} {rx bp : Nat} {n x : Int} {a m c c' : Nat} {t : List Int} {A A' : Option Addr} {w : World} (h : FpS G w0 rx bp n a (x :: t) (.slice A m c) w)
    (hA : t.length = 0 ∨ A' = A.map (fun x => x.add 1)) (hc : t.length ≤ c') (hm : c' ≤ 9223372036854775807) : FpS G w0 rx bp n a t (.slice A' t.length c') w :=
  ⟨h.res, h.p, LoG.tail h.v hA hc hm, h.below, h.o0, h.o1⟩
theorem add1 (b o : Nat) : (⟨b, o, none⟩ : Addr).add 1 = ⟨b, o + 1, none⟩ := by rw [RowV.add rfl]
set_option maxHeartbeats 2000000 in
theorem firstpair_any (G : Nat → Prop) (n : Int) (l : List Int) (v : Value) (w : World) (h : LoG G w v (n :: l)) :
    Calls Try.prog 41 #[v] w fun e w' => ∃ u, e = .returned (.tuple #[.agg #[.int .u16 n, .int .u16 ((fp n l).1 : Nat)], u]) ∧ LoG G w' u (fp n l).2 ∧ Below w.heap.size w w' := by
  obtain ⟨A, c, rfl, hc1, hc2, hp⟩ := h.parts
  obtain ⟨b, o, rfl, hb, hG, hcell⟩ := hp (by simp)
  have hc0 := hcell 0 (by simp)
  simp at hc0
  have HT := Lib.hid h
  have hln : ((n :: l).length : Int) = (l.length : Int) + 1 := by simp
  have hlc : l.length + 1 ≤ c := by simpa using hc1
  have hl0 : (n :: l).length = l.length + 1 := rfl
  rw [hl0] at HT ⊢
  clear h hp hcell hc1 hln hl0
  refine calls_q fun Q HQ => ?_
  have HS0 := Lib.hid (show ∀ (A' : Option Addr) (c' : Nat), (l.length = 0 ∨ A' = some ⟨b, o + 1, none⟩) → l.length ≤ c' → c' ≤ 9223372036854775807 → FpS G w w.heap.size (w.heap.size + 1) n (fpK n l 0).1 (fpK n l 0).2 (.slice A' l.length c') ((w.alloc (.cells #[.int .u16 0, .int .u16 0] 82 (0, 0))).alloc (.cells #[.int .u16 n, .int .u16 0] 82 (0, 0))) by
    intro A' c' hA h1 h2
    have hb1 := below_alloc (w := w) (.cells #[.int .u16 0, .int .u16 0] 82 (0, 0))
    have hb2 := hb1.alloc hb1.size (.cells #[.int .u16 n, .int .u16 0] 82 (0, 0))
    have hx := heap_alloc_new w (.cells #[.int .u16 0, .int .u16 0] 82 (0, 0))
    have hy := heap_alloc_new (w.alloc (.cells #[.int .u16 0, .int .u16 0] 82 (0, 0))) (.cells #[.int .u16 n, .int .u16 0] 82 (0, 0))
    rw [World.size_alloc] at hy
    have ha : (⟨b, o, none⟩ : Addr).add 1 = ⟨b, o + 1, none⟩ := by rw [RowV.add rfl]
    have hv := HT.out.tail (A' := A') (c' := c') (by rw [Option.map_some, ha]; exact hA) h1 h2
    have hv2 : LoG (fun k => G k ∧ k < w.heap.size) w (.slice A' l.length c') l := hv.mono (fun k hk h => ⟨h, hk⟩)
    exact ⟨(Fr.alloc _ _).heap hx (fun h => h), hy, LoG.below hv2 hb2, hb2, Nat.le_refl _, Nat.lt_succ_self _⟩)
  obtain ⟨F, hF⟩ : ∃ F : Nat → Nat × List Int, F = fpK n l := ⟨_, rfl⟩
  rw [← hF] at HS0
  have HFb := Lib.hid (show ∀ k, (F k).1 < 2 ^ k by rw [hF]; exact fun k => (fpK_back n l k).1)
  have HFs := Lib.hid (show ∀ k, F (k + 1) = fpS n k (F k) by rw [hF]; exact fun k => rfl)
  rw [show fp n l = F 16 by rw [hF]; rfl] at HQ
  clear hF
  generalize l.length = m at *
  by_cases hce : c = 1
  all_goals
    first
      | (subst hce; obtain rfl : m = 0 := by omega)
      | skip
    go_enter Try.func41, Try.ntmps41
    go_upto_region 3 with fail
    go_wp2_with fail
    rw [show ((w.alloc (.cells #[.int .u16 0, .int .u16 0] 82)).alloc (.cells #[.int .u16 n, .int .u16 0] 82)) = ((w.alloc (.cells #[.int .u16 0, .int .u16 0] 82 (0, 0))).alloc (.cells #[.int .u16 n, .int .u16 0] 82 (0, 0))) from rfl]
    generalize ((w.alloc (.cells #[.int .u16 0, .int .u16 0] 82 (0, 0))).alloc (.cells #[.int .u16 n, .int .u16 0] 82 (0, 0))) = w3 at *
    generalize w.heap.size + 1 = bp at *
    generalize hrx : w.heap.size = rx at *
    clear HT hc0 hb
    go_loopw [0, 12] (fun v i wr => ∃ j : Nat, j ≤ 16 ∧ i = .int .i64 j ∧ FpS G w rx bp n (F j).1 (F j).2 v wr) (fun _ i _ => 16 - (intOf i).toNat)
    case atStart => first | exact ⟨0, by omega, rfl, HS0.out _ _ (.inr rfl) (by omega) (by omega)⟩ | exact ⟨0, by omega, rfl, HS0.out (some ⟨b, o, none⟩) 0 (by simp) (Nat.le_refl _) (by decide)⟩
    case round =>
      obtain ⟨j, hj, rfl, hs⟩ := hrel
      have HS := Lib.hid hs
      clear hs HS0
      by_cases hlt : j < 16
      · have hfl := HFb.out j
        have hst := HFs.out j
        generalize F j = s at *
        obtain ⟨a, t⟩ := s
        simp only at HS hfl
        cases t with
        | nil =>
          have HE := Lib.hid (show F (j + 1) = (a, []) from hst)
          clear hst
          obtain ⟨A1, c1, rfl, hc3, hc4, _⟩ := HS.out.v.parts
          simp only [List.length_nil] at HS ⊢
          clear hfl
          have h16 : (j : Int) < 16 := by omega
          go_wp2_with fail
          go_quiet (fail)
          go_wp2_with fail
          go_roundw
          case rel => exact ⟨j + 1, by omega, by go_num, by rw [HE.out]; exact HS.out.after (below_drewN (Below.refl _ _) _)⟩
          case measure => simp [intOf]; omega
        | cons x t =>
          obtain ⟨A1, c1, rfl, hc3, hc4, hp⟩ := HS.out.v.parts
          obtain ⟨b1, o1, rfl, hb1, ⟨_, hG1⟩, hcell⟩ := hp (by simp)
          have hc0 := hcell 0 (by simp)
          simp at hc0
          have hl0 : (x :: t).length = t.length + 1 := rfl
          rw [hl0] at HS hc3 ⊢
          have h0 : (0 : Int) < (t.length : Int) + 1 := by omega
          have h16 : (j : Int) < 16 := by omega
          clear hp hcell hl0
          have HC := Lib.hid (show ∀ w', FpS G w rx bp n a (x :: t) (.slice (some ⟨b1, o1, none⟩) (t.length + 1) c1) w' → FpS G w rx bp n a (x :: t) (.slice (some ⟨b1, o1, none⟩) (t.length + 1) c1) w' ∧ w'.cell? ⟨b1, o1, none⟩ = some (.int .u16 x) ∧ w'.cell? ⟨bp, 0, none⟩ = some (.int .u16 n) ∧ w'.cell? ⟨bp, 1, none⟩ = some (.int .u16 (a : Nat)) from fun w' h => ⟨h, by
                obtain ⟨_, _, he, _, _, hp⟩ := h.v.parts
                simp only [Value.slice.injEq] at he
                obtain ⟨_, _, he2, _, _, hcell⟩ := hp (by simp)
                rw [← he.1] at he2
                simp only [Option.some.injEq, Addr.mk.injEq, and_true] at he2
                obtain ⟨rfl, rfl⟩ := he2
                exact hcell 0 (by simp), h.cells.1, h.cells.2.1⟩)
          by_cases hx : x = aft n j
          · have HE := Lib.hid (show F (j + 1) = (a ||| 2 ^ j, t) from hst.trans (by simp [fpS, hx]))
            have hx0 : (x == aft n j) = true := by simpa using hx
            clear hst hx
            go_wp2_with fail
            go_region_held3 (fun w' => FpS G w rx bp n a (x :: t) (.slice (some ⟨b1, o1, none⟩) (t.length + 1) c1) w' ∧ w'.cell? ⟨b1, o1, none⟩ = some (.int .u16 x) ∧ w'.cell? ⟨bp, 0, none⟩ = some (.int .u16 n) ∧ w'.cell? ⟨bp, 1, none⟩ = some (.int .u16 (a : Nat))) (first | exact HC.out _ ((‹FpS _ _ _ _ _ _ _ _ _ ∧ _›).1.after (by assumption)) | exact HC.out _ HS.out.drew) (first | (go_at_call 49; refine (after_any n (a : Nat) j _).mono ?_; rintro e w9 ⟨rfl, hb⟩))
            have hh := (‹FpS _ _ _ _ _ _ _ _ _ ∧ _›).1
            clear HC HS
            have hcs := hh.cells
            obtain ⟨k0, k1, z0, z1⟩ := hcs
            have hor := or_wrap a j hfl hlt
            have hset := (hh.set (a ||| 2 ^ j)).drew
            generalize a ||| 2 ^ j = a2 at *
            have HH := Lib.hid hset
            clear hb hh hset hfl hx0
            by_cases hc1 : c1 = 1
            · subst hc1
              have hm : t.length = 0 := by omega
              obtain rfl := List.eq_nil_of_length_eq_zero hm
              simp only [List.length_nil] at HH h0 ⊢
              go_wp2_with fail
              go_region
              go_wp2_with fail
              go_roundw
              case rel => exact ⟨j + 1, by omega, by go_num, by rw [HE.out]; exact FpS.tl HH.out (.inl rfl) (Nat.zero_le _) (by decide)⟩
              case measure => simp [intOf]; omega
            · go_wp2_with fail
              go_region
              go_wp2_with fail
              go_roundw
              case rel => exact ⟨j + 1, by omega, by go_num, by rw [HE.out]; exact FpS.tl (t := t) HH.out (.inr (by rw [Option.map_some, add1])) (by omega) (by omega)⟩
              case measure => simp [intOf]; omega
          · have HE := Lib.hid (show F (j + 1) = (a, x :: t) from hst.trans (by simp [fpS, hx]))
            clear hst hfl
            have HX := Lib.hid hx
            have hx0 : (x == aft n j) = false := by simpa using hx
            go_wp2_with fail
            go_region_held3 (fun w' => FpS G w rx bp n a (x :: t) (.slice (some ⟨b1, o1, none⟩) (t.length + 1) c1) w' ∧ w'.cell? ⟨b1, o1, none⟩ = some (.int .u16 x) ∧ w'.cell? ⟨bp, 0, none⟩ = some (.int .u16 n) ∧ w'.cell? ⟨bp, 1, none⟩ = some (.int .u16 (a : Nat))) (first | exact HC.out _ ((‹FpS _ _ _ _ _ _ _ _ _ ∧ _›).1.after (by assumption)) | exact HC.out _ HS.out.drew) (first | (go_at_call 49; refine (after_any n (a : Nat) j _).mono ?_; rintro e w9 ⟨rfl, hb⟩))
            have hh := (‹FpS _ _ _ _ _ _ _ _ _ ∧ _›).1
            go_wp2_with fail
            go_roundw
            case rel => exact ⟨j + 1, by omega, by go_num, by rw [HE.out]; exact hh⟩
            case measure => simp [intOf]; omega
      · obtain rfl : j = 16 := by omega
        have HX := Lib.hid hlt
        clear hlt
        generalize F 16 = s at *
        obtain ⟨a, t⟩ := s
        simp only at HS HQ
        have hcs := HS.out.cells
        have r0 := obj_cell HS.out.res 0
        have r1 := obj_cell HS.out.res 1
        have q0 := obj_frozen HS.out.res 0
        have q1 := obj_frozen HS.out.res 1
        obtain ⟨k0, k1, z0, z1⟩ := hcs
        simp at r0 r1
        obtain ⟨A1, c1, rfl, _, _, _⟩ := HS.out.v.parts
        go_wp2_with fail
        generalize hW : World.setCell _ _ _ = wf
        obtain ⟨hx, hfx⟩ := objs2 HS.out.res _ _ wf hW.symm
        clear hW k0 k1 z0 z1 r0 r1 q0 q1
        have m0 := obj_cell hx 0
        have m1 := obj_cell hx 1
        simp at m0 m1
        refine bodyPost_ret (v := .tuple #[.agg #[.int .u16 n, .int .u16 (a : Nat)], .slice A1 t.length c1]) (by simp [results, Try.results41, go_sem, m0, m1]; try rfl) rfl ?_
        have o0 := HS.out.o0
        have hv2 := HS.out.v.fr hfx (fun k _ hk (hx : k = rx) => by omega)
        refine HQ.out _ _ ⟨_, rfl, hv2.mono (fun k _ h => h.1), ?_⟩
        have := HS.out.below.trans (hfx.below HS.out.below.size (fun k (hk : k = rx) => by omega))
        rw [hrx] at this; exact this
end Go.Proofs.Ytonkecfgopbclaa
