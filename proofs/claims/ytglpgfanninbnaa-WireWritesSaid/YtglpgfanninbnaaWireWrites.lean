/- The walk of WireWrites. -/
import Derived.Test.YtglpgfanninbnaaWireWr
import Derived.Test.YtglpgfanninbnaaWireAw
import Derived.Test.YtglpgfanninbnaaBRBytes
namespace Go.Proofs.Ytglpgfanninbnaa
open Go.RowKit

/-- all things' bytes -/
def encs (ts : List Th) : List UInt8 := ts.flatMap encT
theorem encs_snoc (ts : List Th) (j : Nat) (h : j < ts.length) : encs (ts.take (j + 1)) = encs (ts.take j) ++ encT ts[j] := by
  unfold encs
  rw [List.take_succ_eq_append_getElem h, List.flatMap_append]
  simp
theorem wanted_step {B pb : Nat} {ob : Option Nat} {w5 w6 : World} {A : Option Addr} {c m : Nat} {L L2 M X : List UInt8} {v' : Value} (hO : w5.ownsRow B 5 1 (.slice A L.length c) L.length (c8 L)) (hD : ∀ k, A.map (·.block) = some k → ¬ WF pb ob k) (hW : Wr B w5 pb ob M)
    (hown : w6.ownsRow B 5 1 v' (L.length + m) (c8 L ++ c8 X)) (hm : X.length = m) (hg : w5.grownBy w6 (Value.slice A L.length c).ownBlock) (hblk : v'.ownBlock = (Value.slice A L.length c).ownBlock ∨ v'.ownBlock = some w5.heap.size) (hN : L2 = L ++ X) (hB : B ≤ w5.heap.size) :
    ∃ A5 c5, v' = .slice A5 L2.length c5 ∧ w6.ownsRow B 5 1 (.slice A5 L2.length c5) L2.length (c8 L2) ∧ (∀ k, A5.map (·.block) = some k → ¬ WF pb ob k) ∧ Wr B w6 pb ob M ∧ Below B w5 w6 := by
  subst hN hm
  rw [← c8_app, ← List.length_append] at hown
  obtain ⟨A5, c5, rfl⟩ := own_slice hown
  have hf := Fr.grown hg
  refine ⟨A5, c5, rfl, hown, fun k hk h => ?_, hW.fr hf (fun k hk h => ?_), hf.below hB (fun k hk => (hO.lt k hk.symm).1)⟩
  · rw [ownB, ownB] at hblk
    rw [hk] at hblk
    rcases hblk with h2 | h2
    · exact hD k h2.symm h
    · injection h2 with h2
      have := (hW.lt k h).2
      omega
  · rw [ownB] at h
    exact hD k h.symm hk
theorem few_len {ts : List Th} (h : fewB ts = true) : ts.length ≤ 60 ∧ ∀ t ∈ ts, t.b.length ≤ 40 := by
  simp only [fewB, Bool.and_eq_true, decide_eq_true_eq, List.all_eq_true] at h
  exact h
/-- what is wanted lies in none of the writer's blocks -/
def Apart (A : Option Addr) (pb : Nat) (ob : Option Nat) : Prop := ∀ k, A.map (·.block) = some k → ¬ WF pb ob k
set_option maxHeartbeats 2000000 in
theorem writes_walk (u : Value) (ts : List Th) (w : World) (ht : ThS w u ts) :
    Calls Try.prog 3 #[u] w fun r w' => r = .returned (.bool true) ∧ Below w.heap.size w w' := by
  have HT := Lib.hid ht
  obtain ⟨A2, c2, rfl, hc2, hcm2, hA⟩ := ht.parts
  have HA := Lib.hid hA
  clear ht hA
  refine calls_q fun Q HQ => ?_
  by_cases hfew : fewB ts = true
  · have HF := Lib.hid (few_len hfew)
    go_enter Try.func3, Try.ntmps3
    go_wp2_with fail
    refine (awake3_any _).mono ?_
    rintro r w1 ⟨rfl, hb⟩
    have HB := Lib.hid hb
    clear hb
    go_wp2_with fail
    have hc := large_any _ _ _ (HT.out.fr (Fr.of HB.out) (fun _ _ h => h))
    rw [hfew] at hc
    refine hc.mono ?_
    rintro r w2 ⟨rfl, hb⟩
    have HB2 := Lib.hid (HB.out.trans (hb.mono HB.out.size))
    clear hb hc hfew
    go_wp2_with fail
    have hW0 := (wr_new w2).fr0 (Fr.alloc (w2.alloc (.cells #[.slice none 0 0] 28)) (.cells #[] 5))
    have hO0 := own_empty (w2.alloc (.cells #[.slice none 0 0] 28)) w2.heap.size 5 (by simp)
    have HB0 := Lib.hid ((HB2.out.alloc HB2.out.size (.cells #[.slice none 0 0] 28)).alloc (by have := HB2.out.size; simp; omega) (.cells #[] 5))
    rw [show (w2.alloc (.cells #[.slice none 0 0] 28)).heap.size = w2.heap.size + 1 from World.size_alloc _ _] at hO0
    have HW0 := Lib.hid hW0
    have HO0 := Lib.hid hO0
    have HS2 := Lib.hid HB2.out.size
    clear hW0 hO0
    go_loopw [4, 16] (fun o i wr => ∃ (j : Nat) (A : Option Addr) (c : Nat) (ob : Option Nat), j ≤ ts.length ∧ i = .int .i64 j ∧ o = .slice A (encs (ts.take j)).length c ∧ Wr w2.heap.size wr w2.heap.size ob (encs (ts.take j)) ∧ wr.ownsRow w2.heap.size 5 1 (.slice A (encs (ts.take j)).length c) (encs (ts.take j)).length (c8 (encs (ts.take j))) ∧ Apart A w2.heap.size ob ∧ Below w.heap.size w wr ∧ (encs (ts.take j)).length ≤ 40 * j) (fun _ i _ => ts.length - (intOf i).toNat)
    case atStart => exact ⟨0, _, _, none, Nat.zero_le _, rfl, rfl, HW0.out, HO0.out, by (intro k hk; simp at hk; subst hk; rintro (h | h); omega; cases h), HB0.out, by simp [encs]⟩
    case round =>
      obtain ⟨j, A, c, ob, hj, rfl, rfl, hw, ho, hap, hb, hL⟩ := hrel
      have HWr := Lib.hid hw
      have HOr := Lib.hid ho
      have HDr := Lib.hid hap
      have HBr := Lib.hid hb
      clear hw ho hap hb
      by_cases hlt : j < ts.length
      · obtain ⟨b, o, rfl, hbl⟩ := HA.out (by omega)
        have hat := (HT.out.fr (Fr.of HBr.out) (fun _ _ h => h)).at j hlt
        have htok := HT.out.2 _ (List.getElem_mem hlt)
        have h40 := HF.out.2 _ (List.getElem_mem hlt)
        have h60 := HF.out.1
        have HSn := Lib.hid (encs_snoc ts j hlt)
        generalize (ts[j]'hlt) = t at *
        obtain ⟨c0, c1, c2, c3⟩ := hat
        have hok : t.Ok wr := ⟨htok.n, htok.b.below HBr.out⟩
        have HTb := Lib.hid htok.b
        clear htok
        have hbl2 := Nat.lt_of_lt_of_le hbl HBr.out.size
        obtain ⟨A3, cc, hv, _, hcm3, _⟩ := bs_parts hok.b
        have hval : t.val = .agg #[.int .i64 t.k, .int .u32 t.n, .slice A3 t.b.length cc, .int .i64 t.e] := by rw [← hv]; rfl
        have n0 := hok.n.lo
        have n1 := hok.n.hi
        have ha := Fr.alloc wr (.cells #[.int .i64 t.k, .int .u32 t.n, .slice A3 t.b.length cc, .int .i64 t.e] 32)
        have HBx := Lib.hid (HBr.out.alloc HBr.out.size (.cells #[.int .i64 t.k, .int .u32 t.n, .slice A3 t.b.length cc, .int .i64 t.e] 32))
        have hcall := fun hm => write_any w2.heap.size w2.heap.size ob (encs (ts.take j)) t (wr.alloc (.cells #[.int .i64 t.k, .int .u32 t.n, .slice A3 t.b.length cc, .int .i64 t.e] 32)) (HWr.out.fr0 ha) ⟨hok.n, hok.b.fr ha (fun _ _ h => h)⟩ h40 hm
        rw [hval] at hcall
        have HC := Lib.hid (hcall (by omega))
        have HVv := Lib.hid hv
        have HVb := Lib.hid hok.b
        rw [hv] at c2
        have hbx := heap_alloc_new wr (.cells #[.int .i64 t.k, .int .u32 t.n, .slice A3 t.b.length cc, .int .i64 t.e] 32)
        have HX := Lib.hid hbx
        have HLt := Lib.hid (HWr.out.lt)
        clear hcall hval hv hok ha hbx
        have h0 : (0 : Int) ≤ (j : Int) := by omega
        have h1 : (j : Int) < (ts.length : Int) := by omega
        have HL2 := Lib.hid (show (encs (ts.take (j + 1))).length ≤ 40 * (j + 1) by rw [HSn.out, List.length_append]; have := encT_len t h40; omega)
        go_wp2_with fail
        refine HC.out.mono ?_
        rintro r w4 ⟨rfl, ob5, hw4, hf4, hob⟩
        rw [← HSn.out] at hw4
        have hx4 := hf4.heap HX.out (fun h => by have := (HLt.out _ h).2; omega)
        have k0 := obj_cell hx4 0
        have k1 := obj_cell hx4 1
        have k2 := obj_cell hx4 2
        simp only [List.getElem?_toArray, List.getElem?_cons_succ, List.getElem?_cons_zero] at k0 k1 k2
        have HW5 := Lib.hid hw4
        have HB4 := Lib.hid (HBx.out.trans (hf4.below HBx.out.size (fun k hk => by have := (HLt.out _ hk).1; have := HS2.out; omega)))
        have HO4 := Lib.hid (hf4.own ((Fr.alloc wr (.cells #[.int .i64 t.k, .int .u32 t.n, .slice A3 t.b.length cc, .int .i64 t.e] 32)).own HOr.out (fun _ _ h => h)) (fun k hk h => HDr.out k (by rw [ownB] at hk; exact hk) h))
        have HD4 := Lib.hid (show Apart A w2.heap.size ob5 from by
          intro k hk h
          have hlo := (HOr.out.lt k (by rw [ownB]; exact hk)).2
          rcases h with h | h
          · exact HDr.out k hk (.inl h)
          · rcases hob with h2 | ⟨k2, h2, h3⟩
            · exact HDr.out k hk (.inr (by rw [← h2]; exact h))
            · rw [h2] at h
              injection h with h
              rw [World.size_alloc] at h3
              omega)
        have HAx := Lib.hid (show ¬ (some wr.heap.size = (Value.slice A (encs (ts.take j)).length c).ownBlock) from fun h => by have := (HOr.out.lt _ h.symm).2; omega)
        have HOb := Lib.hid (HW5.out.lt)
        have HR64 := Lib.hid (show Row8 w4 A3 t.b from by
          have h := HTb.out.below HB4.out
          rw [HVv.out] at h
          obtain ⟨A', c', he, _, _, hr⟩ := h
          simp only [Value.slice.injEq] at he
          rw [he.1]; exact hr)
        clear hw4 hf4 hx4 hob
        by_cases hk1 : 1 ≤ t.k
        · by_cases hk4 : t.k ≤ 4
          · have h5 : (t.k == 5) = false := by simp; omega
            have hconv := u64_id (u64_of (⟨n0, n1⟩ : Fits 4294967296 t.n) (by decide))
            have hbI : encT t = bytesI t.n.toNat t.k := by unfold encT; rw [if_pos ⟨hk1, hk4⟩]
            have HE := Lib.hid hbI
            clear hbI
            go_wp2_with fail
            refine (rbytes_any t.n t.k w4 (u64_of (⟨n0, n1⟩ : Fits 4294967296 t.n) (by decide))).mono ?_
            rintro r w5 ⟨v5, rfl, hv5, hb5⟩
            rw [← HE.out] at hv5
            obtain ⟨A6, c6, rfl, _, _, hr6⟩ := bs_parts hv5
            have HR6 := Lib.hid hr6
            have HB50 := Lib.hid (HB4.out.trans (hb5.mono HB4.out.size))
            have HN := HSn
            have HW50 := Lib.hid (HW5.out.fr0 (Fr.of hb5))
            have HO50 := Lib.hid ((Fr.of hb5).own HO4.out (fun _ _ h => h))
            have HX5 := Lib.hid (show w2.heap.size ≤ w5.heap.size by have := HOb.out _ (.inl rfl); have := hb5.size; omega)
            have hel := encT_len t h40
            have hk0' := (hb5.cell (p := ⟨wr.heap.size, 0, none⟩) (World.block_lt_of_cell? w4 _ k0)).trans k0
            clear hv5 hr6 k0 k1 k2
            go_wp2_with (at_builtin; refine wpl_app rfl _ _ 26 rfl w2.heap.size 5 (.int .u8 0) 1 Try.underlying26 (by kernel_rfl) rfl _ _ _ rfl HO50.out _ _ _ (c8 (encT t)) rfl ?c1 (c8_one _) ?c2 ?c3 ?c4 ?c5)
            case c1 => exact src_of rfl HR6.out
            case c2 => unfold maxLen; omega
            case c3 => omega
            case c4 => have := HX5.out; omega
            case c5 =>
              intro v' w6 hown hg hblk
              obtain ⟨A5, c5, rfl, hO5, hD5, hW5, hb56⟩ := wanted_step HO50.out HD4.out HW50.out hown rfl hg hblk HN.out HX5.out
              have HB5 := Lib.hid (HB50.out.trans (hb56.mono HS2.out))
              have HW5 := Lib.hid hW5
              have HO5 := Lib.hid hO5
              have HD5 := Lib.hid hD5
              have kk := (World.cell?_of_block (a := ⟨wr.heap.size, 0, none⟩) ((Fr.grown hg).block wr.heap.size (World.block_lt_of_cell? w5 _ hk0') HAx.out)).trans hk0'
              clear hk0'
              clear hown hg hblk hO5 hD5 hW5 hb56
              go_wp2_with fail
              have hlen := HL2.out
              refine (wbytes_any _ _ _ _ _ HW5.out (by omega)).mono ?_
              rintro r w6 ⟨u, rfl, hu, hb⟩
              have HB6 := Lib.hid (HB5.out.trans (hb.mono HB5.out.size))
              have HW6 := Lib.hid (HW5.out.fr0 (Fr.of hb))
              have HO6 := Lib.hid ((Fr.of hb).own HO5.out (fun _ _ h => h))
              have HU6 := Lib.hid (own_bs hu)
              clear hb hu
              go_wp2_with fail
              have hc := rsame_any _ _ _ _ _ HU6.out (own_bs HO6.out)
              rw [beq_self_eq_true] at hc
              refine hc.mono ?_
              rintro r w7 ⟨rfl, n7, rfl⟩
              clear hc
              go_wp2_with fail
              go_roundw
              case rel => exact ⟨j + 1, A5, c5, ob5, by omega, by go_num, rfl, HW6.out.fr0 (Fr.drewN _ _), (Fr.drewN _ _).own HO6.out (fun _ _ h => h), HD5.out, below_drewN HB6.out n7, HL2.out⟩
              case measure => simp [intOf]; omega
          · by_cases hk5 : t.k = 5
            · have h5 : (t.k == 5) = true := by simp [hk5]
              have HE := Lib.hid (show encT t = t.b by unfold encT; rw [if_neg (by omega), if_pos hk5])
              clear hk5
              have hk4' : (4 : Int) < t.k := by omega
              have HB50 := HB4
              have HW50 := HW5
              have HO50 := HO4
              have HN := Lib.hid (show encs (ts.take (j + 1)) = encs (ts.take j) ++ t.b by rw [HSn.out, HE.out])
              have HX5 := Lib.hid (show w2.heap.size ≤ w4.heap.size from by have := (HOb.out _ (.inl rfl)).2; omega)
              have HR6 := HR64
              go_wp2_with (at_builtin; refine wpl_app rfl _ _ 26 rfl w2.heap.size 5 (.int .u8 0) 1 Try.underlying26 (by kernel_rfl) rfl _ _ _ rfl HO50.out _ _ _ (c8 (t.b)) rfl ?c1 (c8_one _) ?c2 ?c3 ?c4 ?c5)
              case c1 => exact src_of rfl HR6.out
              case c2 => unfold maxLen; omega
              case c3 => omega
              case c4 => have := HX5.out; omega
              case c5 =>
                intro v' w6 hown hg hblk
                obtain ⟨A5, c5, rfl, hO5, hD5, hW5, hb56⟩ := wanted_step HO50.out HD4.out HW50.out hown rfl hg hblk HN.out HX5.out
                have HB5 := Lib.hid (HB50.out.trans (hb56.mono HS2.out))
                have HW5 := Lib.hid hW5
                have HO5 := Lib.hid hO5
                have HD5 := Lib.hid hD5
                clear k0 k1 k2
                clear hown hg hblk hO5 hD5 hW5 hb56
                go_wp2_with fail
                have hlen := HL2.out
                refine (wbytes_any _ _ _ _ _ HW5.out (by omega)).mono ?_
                rintro r w6 ⟨u, rfl, hu, hb⟩
                have HB6 := Lib.hid (HB5.out.trans (hb.mono HB5.out.size))
                have HW6 := Lib.hid (HW5.out.fr0 (Fr.of hb))
                have HO6 := Lib.hid ((Fr.of hb).own HO5.out (fun _ _ h => h))
                have HU6 := Lib.hid (own_bs hu)
                clear hb hu
                go_wp2_with fail
                have hc := rsame_any _ _ _ _ _ HU6.out (own_bs HO6.out)
                rw [beq_self_eq_true] at hc
                refine hc.mono ?_
                rintro r w7 ⟨rfl, n7, rfl⟩
                clear hc
                go_wp2_with fail
                go_roundw
                case rel => exact ⟨j + 1, A5, c5, ob5, by omega, by go_num, rfl, HW6.out.fr0 (Fr.drewN _ _), (Fr.drewN _ _).own HO6.out (fun _ _ h => h), HD5.out, below_drewN HB6.out n7, HL2.out⟩
                case measure => simp [intOf]; omega
            · have h5 : (t.k == 5) = false := by simp [hk5]
              have hk4' : (4 : Int) < t.k := by omega
              have HE := Lib.hid (show encT t = [] by unfold encT; rw [if_neg (by omega), if_neg (by omega)])
              have HN := Lib.hid (show encs (ts.take (j + 1)) = encs (ts.take j) by rw [HSn.out, HE.out, List.append_nil])
              have HO5 := HO4
              have HB5 := HB4
              have HD5 := HD4
              go_wp2_with fail
              have hlen := HL2.out
              refine (wbytes_any _ _ _ _ _ HW5.out (by omega)).mono ?_
              rintro r w6 ⟨u, rfl, hu, hb⟩
              have HB6 := Lib.hid (HB5.out.trans (hb.mono HB5.out.size))
              have HW6 := Lib.hid (HW5.out.fr0 (Fr.of hb))
              have HO6 := Lib.hid ((Fr.of hb).own HO5.out (fun _ _ h => h))
              have HU6 := Lib.hid (own_bs hu)
              clear hb hu
              go_wp2_with fail
              have hc := rsame_any _ _ _ _ _ HU6.out (own_bs HO6.out)
              rw [HN.out, beq_self_eq_true] at hc
              refine hc.mono ?_
              rintro r w7 ⟨rfl, n7, rfl⟩
              clear hc
              go_wp2_with fail
              go_roundw
              case rel => exact ⟨j + 1, A, c, ob5, by omega, by go_num, (by rw [HN.out]), HW6.out.fr0 (Fr.drewN _ _), (by rw [HN.out]; exact (Fr.drewN _ _).own HO6.out (fun _ _ h => h)), HD5.out, below_drewN HB6.out n7, HL2.out⟩
              case measure => simp [intOf]; omega
        · have h5 : (t.k == 5) = false := by simp; omega
          have hk1' : t.k < 1 := by omega
          have HE := Lib.hid (show encT t = [] by unfold encT; rw [if_neg (by omega), if_neg (by omega)])
          have HN := Lib.hid (show encs (ts.take (j + 1)) = encs (ts.take j) by rw [HSn.out, HE.out, List.append_nil])
          have HO5 := HO4
          have HB5 := HB4
          have HD5 := HD4
          go_wp2_with fail
          have hlen := HL2.out
          refine (wbytes_any _ _ _ _ _ HW5.out (by omega)).mono ?_
          rintro r w6 ⟨u, rfl, hu, hb⟩
          have HB6 := Lib.hid (HB5.out.trans (hb.mono HB5.out.size))
          have HW6 := Lib.hid (HW5.out.fr0 (Fr.of hb))
          have HO6 := Lib.hid ((Fr.of hb).own HO5.out (fun _ _ h => h))
          have HU6 := Lib.hid (own_bs hu)
          clear hb hu
          go_wp2_with fail
          have hc := rsame_any _ _ _ _ _ HU6.out (own_bs HO6.out)
          rw [HN.out, beq_self_eq_true] at hc
          refine hc.mono ?_
          rintro r w7 ⟨rfl, n7, rfl⟩
          clear hc
          go_wp2_with fail
          go_roundw
          case rel => exact ⟨j + 1, A, c, ob5, by omega, by go_num, (by rw [HN.out]), HW6.out.fr0 (Fr.drewN _ _), (by rw [HN.out]; exact (Fr.drewN _ _).own HO6.out (fun _ _ h => h)), HD5.out, below_drewN HB6.out n7, HL2.out⟩
          case measure => simp [intOf]; omega
      · have : j = ts.length := by omega
        subst this
        go_wp2_with fail
        exact HQ.out _ _ ⟨rfl, HBr.out⟩
  · have hfw : fewB ts = false := by simpa using hfew
    go_enter Try.func3, Try.ntmps3
    go_wp2_with fail
    refine (awake3_any _).mono ?_
    rintro r w1 ⟨rfl, hb⟩
    have HB := Lib.hid hb
    clear hb
    go_wp2_with fail
    have hc := large_any _ _ _ (HT.out.fr (Fr.of HB.out) (fun _ _ h => h))
    rw [hfw] at hc
    refine hc.mono ?_
    rintro r w2 ⟨rfl, hb⟩
    have HB2 := Lib.hid (HB.out.trans (hb.mono HB.out.size))
    clear hb hc
    go_wp2_with fail
    exact HQ.out _ _ ⟨rfl, HB2.out⟩
end Go.Proofs.Ytglpgfanninbnaa
