/- The walk of extra.Read over bytes of items with bytes 0 behind them. -/
import Derived.Test.YtgcppknfigianaaExBy
import Derived.Test.YtgcppknfigianaaSClone
import Derived.WalkMore
import Derived.Deep.Cut
namespace Go.Proofs.Ytgcppknfigianaa
open Go.RowKit

/-- bytes that stay, whatever else is made -/
def Stays (w : World) (v : Value) (l : List UInt8) : Prop := ∀ w', Below w.heap.size w w' → BS w' v l
theorem Stays.of {w : World} {v : Value} {l : List UInt8} (h : BS w v l) : Stays w v l := fun _ hb => h.below hb
theorem Stays.piece {w : World} {A A' : Option Addr} {m c c' i j n : Nat} {l l' : List UInt8} (h : Stays w (.slice A m c) l) (hij : i ≤ j) (hj : j ≤ l.length) (hA : n = 0 ∨ A' = A.map (fun x => x.add i)) (hc : n ≤ c') (hm : c' ≤ 9223372036854775807)
    (hn : n = j - i) (hl : (l.take j).drop i = l') : Stays w (.slice A' n c') l' := fun w' hb => by
  subst hn; subst hl
  exact (BSx.piece (A' := A') (c' := c') (BS.x (h w' hb)) hij hj hA hc (by unfold maxLen; omega)).1
/-- items that were read: their data lie in other blocks than the row itself -/
structure RdS (w0 : World) (l0 : List DI) (b : Value) (L : List UInt8) (es : List DI) (k : Nat) (u : Value) (ts : List It) (w : World) : Prop where
  stays : Stays w0 b L
  list : L = encs es ++ zeros k
  cnt : ts.length + L.length ≤ 200
  eq : ds ts ++ es = l0
  below : Below w0.heap.size w0 w
  own : w.ownsRow w0.heap.size 37 2 u ts.length (cellsI ts)
  ok : ∀ t ∈ ts, t.n < 256 ∧ BSx (fun k => some k ≠ u.ownBlock) w t.v t.b
theorem RdS.parts {w0 w : World} {l0 : List DI} {b : Value} {L : List UInt8} {es : List DI} {k : Nat} {u : Value} {ts : List It} (h : RdS w0 l0 b L es k u ts w) :
    ∃ A c, b = .slice A L.length c ∧ L.length ≤ c ∧ c ≤ 9223372036854775807 ∧ Row8 w A L := bs_parts (h.stays w h.below)
theorem RdS.items {w0 w : World} {l0 : List DI} {b : Value} {L : List UInt8} {k : Nat} {u : Value} {ts : List It} (h : RdS w0 l0 b L [] k u ts w) : ItS w u ts ∧ ds ts = l0 :=
  ⟨own_items rfl h.own (fun t ht => ⟨(h.ok t ht).1, (h.ok t ht).2.1⟩), by have := h.eq; rwa [List.append_nil] at this⟩
theorem RdS.next {w0 w : World} {l0 : List DI} {A A' : Option Addr} {m c n c' : Nat} {R : List UInt8} {k : Nat} {u : Value} {ts : List It} (h : RdS w0 l0 (.slice A m c) (0 :: R) [] (k + 1) u ts w)
    (hn : n = R.length) (hA : n = 0 ∨ A' = A.map (fun x => x.add 1)) (hc : n ≤ c') (hm : c' ≤ 9223372036854775807) : RdS w0 l0 (.slice A' n c') R [] k u ts w :=
  ⟨h.stays.piece (i := 1) (j := R.length + 1) (by omega) (by simp) hA hc hm (by omega) (by simp), by have := h.list; simp [encs, zeros, List.replicate_succ] at this; simpa [encs, zeros] using this,
    by have := h.cnt; simp at this; omega, h.eq, h.below, h.own, h.ok⟩
theorem RdS.app {w0 w w1 w3 : World} {l0 : List DI} {b b' : Value} {L R : List UInt8} {d : DI} {es : List DI} {k : Nat} {u u' uc : Value} {ts : List It} (h : RdS w0 l0 b L (d :: es) k u ts w)
    (hd : d.1 < 256) (hL : L = encI d ++ R) (hs : Stays w0 b' R) (hc : w1.ownsRow w.heap.size 5 1 uc d.2.length (c8 d.2)) (hb : Below w.heap.size w w1) (o : Obj)
    (ho : w3.ownsRow w0.heap.size 37 2 u' (ts.length + 1) (cellsI ts ++ [.int .u8 (d.1 : Nat), uc])) (hg : (w1.alloc o).grownBy w3 u.ownBlock) (hk : u'.ownBlock = u.ownBlock ∨ u'.ownBlock = some (w1.alloc o).heap.size) :
    RdS w0 l0 b' R es k u' (ts ++ [⟨d.1, uc, d.2⟩]) w3 := by
  have hsz := h.below.size
  have hsz1 := hb.size
  refine ⟨hs, ?_, ?_, ?_, ?_, ?_, ?_⟩
  · have := h.list
    rw [hL, encs_cons, List.append_assoc] at this
    exact List.append_cancel_left this
  · have := h.cnt
    rw [hL, List.length_append, encI_len] at this
    simp; omega
  · rw [← h.eq, ds, ds, List.map_append, List.append_assoc]; rfl
  · exact ((h.below.trans (hb.mono hsz)).alloc (by omega) o).grown hg (by rw [World.size_alloc]; omega) (fun k hk => (h.own.lt k hk).1)
  · have e1 : (ts ++ [(⟨d.1, uc, d.2⟩ : It)]).length = ts.length + 1 := by simp
    rw [e1, ← cellsI_snoc]; exact ho
  · have key : ∀ (t : It), BSx (fun k => some k ≠ u.ownBlock) w1 t.v t.b → BSx (fun k => some k ≠ u'.ownBlock) w3 t.v t.b := fun t ht => by
      have h1 := (ht.fr (Fr.alloc w1 o) (fun _ _ _ h => h)).mono (G' := fun k => some k ≠ u.ownBlock ∧ some k ≠ u'.ownBlock) (fun k hk1 hk2 => ⟨hk2, by
        rcases hk with e | e <;> rw [e]
        · exact hk2
        · intro e2; injection e2 with e2; omega⟩)
      exact (h1.fr (Fr.app hg) (fun k _ hk hF => hk.1 hF)).mono (fun k _ hk => hk.2)
    intro t ht
    rcases List.mem_append.1 ht with ht | ht
    · exact ⟨(h.ok t ht).1, key t ((h.ok t ht).2.fr (Fr.of hb) (fun _ _ _ h => h))⟩
    · obtain rfl := List.mem_singleton.1 ht
      exact ⟨hd, key _ ((own_bsx hc).mono (fun k _ hk e => by have := (h.own.lt k e.symm).2; omega))⟩
set_option maxHeartbeats 1600000 in
theorem iread_any (v : Value) (l0 : List DI) (k0 : Nat) (w : World) (hv : BS w v (encs l0 ++ zeros k0)) (hok : l0.all rightI = true) (h200 : (encs l0 ++ zeros k0).length ≤ 200) :
    Calls Try.prog 7 #[v] w fun e w' => ∃ u ts, e = .returned (.tuple #[u, .int .i64 0]) ∧ ItS w' u ts ∧ ds ts = l0 ∧ Below w.heap.size w w' := by
  have HS := Lib.hid (show RdS w l0 v _ l0 k0 (.slice none 0 0) [] w from ⟨Stays.of hv, rfl, by simpa using h200, rfl, Below.refl _ _, World.ownsRow_nil _ _ _ _, by simp⟩)
  obtain ⟨A, c, rfl, hc, hcm, _⟩ := bs_parts hv
  have HOk := Lib.hid hok
  clear hv hok
  generalize encs l0 ++ zeros k0 = L0 at *
  refine calls_q fun Q HQ => ?_
  go_enter Try.func7, Try.ntmps7
  go_wp2_with fail
  go_step3
  go_wp2_with fail
  go_step3
  go_wp2_with fail
  go_loopw [0, 4] (fun b u wr => ∃ L es k ts, RdS w l0 b L es k u ts wr) (fun b _ _ => slen b)
  case atStart => exact ⟨L0, l0, k0, [], HS.out⟩
  case round =>
    obtain ⟨L, es, k, ts, hs⟩ := hrel
    obtain ⟨Ab, cb, rfl, hcb, hcbm, hrow⟩ := hs.parts
    have hL := hs.list
    cases es with
    | nil =>
      cases k with
      | zero =>
        obtain rfl : L = [] := by simpa [encs, zeros] using hL
        simp only [List.length_nil] at *
        obtain ⟨q1, q2⟩ := hs.items
        have HQ1 := Lib.hid q1
        have HSr := Lib.hid hs
        clear q1 hrow hs hL
        go_wp2_with fail
        exact HQ.out _ _ ⟨u4, ts, rfl, HQ1.out, q2, HSr.out.below⟩
      | succ k =>
        obtain ⟨R, rfl⟩ : ∃ R, L = 0 :: R := ⟨zeros k, by rw [hL]; simp [encs, zeros, List.replicate_succ]⟩
        obtain ⟨b0, o, rfl, hb, hcell⟩ := hrow (by simp)
        have c0 := hcell 0 (by simp)
        simp only [List.getElem_cons_zero, Nat.add_zero] at c0
        have HN := Lib.hid (fun A' n c' => hs.next (A' := A') (n := n) (c' := c'))
        clear hcell hs hL hrow
        simp only [List.length_cons] at *
        generalize R.length = m at *
        have hm0 : (0 : Int) < ((m + 1 : Nat) : Int) := by omega
        by_cases hc1 : cb = 1
        · go_wp2_with fail
          exact ⟨⟨R, [], k, ts, HN.out _ _ _ rfl (.inl (by omega)) (by omega) (by omega)⟩, by simp [slen]⟩
        · go_wp2_with fail
          exact ⟨⟨R, [], k, ts, HN.out _ _ _ rfl (.inr (by simp [Addr.add])) (by omega) (by omega)⟩, by simp [slen]⟩
    | cons d es =>
      obtain ⟨n, bb⟩ := d
      obtain ⟨R, hR⟩ : ∃ R, R = encs es ++ zeros k := ⟨_, rfl⟩
      have hL2 : L = UInt8.ofNat (16 * n + (bb.length - 1)) :: (bb ++ R) := by rw [hL, encs_cons, encI, hR]; simp
      have hL3 : L = encI (n, bb) ++ R := hL2
      have hri : rightI (n, bb) = true := List.all_eq_true.1 HOk.out (n, bb) (by rw [← hs.eq]; simp)
      have hr := right_iffI.1 hri
      simp only at hr
      subst hL2
      have hb1 := byte1 n (bb.length - 1) hr.2.1 (by omega)
      obtain ⟨b0, o, rfl, hb, hcell⟩ := hrow (by simp)
      have c0 := hcell 0 (by simp)
      simp only [List.getElem_cons_zero, Nat.add_zero, hb1] at c0
      have HA := Lib.hid (fun b' w1 w3 u' uc o hs' hc hb' ho hg hk => hs.app (b' := b') (w1 := w1) (w3 := w3) (u' := u') (uc := uc) (by show n < 256; omega) hL3 hs' hc hb' o ho hg hk)
      have hq0 : bb.length = (bb.length - 1) + 1 := by omega
      have hSb := fun A' n c' hA hc hm hn => hs.stays.piece (A' := A') (n := n) (c' := c') (i := 1) (j := 1 + bb.length) (l' := bb) (by omega) (by simp; omega) hA hc hm hn (by rw [Nat.add_comm, List.take_succ_cons, List.drop_succ_cons, List.drop_zero, List.take_left])
      have hSr := fun A' n c' hA hc hm hn => hs.stays.piece (A' := A') (n := n) (c' := c') (i := 1 + bb.length) (j := 1 + bb.length + R.length) (l' := R) (by omega) (by simp; omega) hA hc hm hn (by rw [List.take_of_length_le (by simp; omega), Nat.add_comm, List.drop_succ_cons, List.drop_left])
      have HSb := Lib.hid hSb
      have HSr := Lib.hid hSr
      have hle := hs.cnt
      have HOw := Lib.hid hs.own
      have HBr := Lib.hid hs.below
      clear hcell hL hL3 hri hs hrow hSb hSr hR
      obtain ⟨q, hq⟩ : ∃ q : Nat, bb.length = q + 1 := ⟨bb.length - 1, by omega⟩
      obtain ⟨X, hX⟩ : ∃ X : Nat, X = 16 * n + (bb.length - 1) := ⟨_, rfl⟩
      rw [← hX] at c0
      have x1 : (X : Int) % 16 = (q : Int) := by omega
      have x2 : (X : Int) / 16 = (n : Int) := by omega
      have x3 : ¬ (X : Int) < 16 := by omega
      have x4 : ¬ (240 : Int) ≤ (X : Int) := by omega
      have x5 : ((X : Int) == 0) = false := by simp; omega
      simp only [List.length_cons, List.length_append] at hle hcb ⊢
      rw [hq] at hle hcb ⊢
      have HX := Lib.hid hX
      have HQq := Lib.hid hq
      have hq15 : q ≤ 15 := by omega
      have hn15 : n ≤ 14 := by omega
      clear hX hq hb1 hr hq0
      generalize hRl : R.length = m at *
      go_wp2_with fail
      refine (sclone_any _ bb _ (HSb.out _ _ _ (.inr (by simp [Addr.add])) (by omega) (by omega) (by have := HQq.out; omega) _ HBr.out) (by have := HQq.out; omega)).mono ?_
      rintro e w1 ⟨uc, rfl, hco, hb1⟩
      obtain ⟨A2, c2, rfl⟩ := own_slice hco
      have hb2 := HBr.out.trans (hb1.mono HBr.out.size)
      have HCo := Lib.hid hco
      have HB1 := Lib.hid hb1
      have HB2 := Lib.hid hb2
      have HOw1 := Lib.hid ((Fr.of hb1).own HOw.out (fun _ _ h => h))
      clear hco hb1 hb2
      go_wp2_with (at_builtin; refine wpl_appk rfl _ _ 22 rfl w.heap.size 37 (.agg #[.int .u8 0, .slice none 0 0]) 2 32 Try.underlying22 (by kernel_rfl) rfl (by decide) _ ts.length (cellsI ts) rfl ?c1 _ 1 1 [.int .u8 (n : Nat), .slice A2 bb.length c2] rfl rfl ?c2 ?c3 ?c4 ?c5 ?c6 ?c7)
      case c1 => exact (Fr.alloc _ _).own HOw1.out (fun _ _ h => h)
      case c2 => exact new_cells w1 [.int .u8 (n : Nat), .slice A2 bb.length c2] 37
      case c3 => intro u hu; simp at hu; rcases hu with rfl | rfl <;> rfl
      case c4 => unfold maxLen; omega
      case c5 => omega
      case c6 => have := HB2.out.size; simp; omega
      case c7 =>
        intro v' w3 ho hg hk
        have HF := Lib.hid (fun b' hs' => HA.out b' w1 w3 v' _ _ hs' HCo.out HB1.out ho hg (by rw [World.size_alloc]; exact hk))
        clear ho hg hk
        by_cases hcq : cb - 1 = q + 1
        · go_wp2_with fail
          exact ⟨⟨R, es, k, _, HF.out _ (HSr.out _ _ _ (.inl (by omega)) (by omega) (by omega) (by omega))⟩, by simp [slen]; omega⟩
        · go_wp2_with fail
          exact ⟨⟨R, es, k, _, HF.out _ (HSr.out _ _ _ (.inr (by have := HQq.out; simp [Addr.add] <;> omega)) (by omega) (by omega) (by omega))⟩, by simp [slen]; omega⟩
end Go.Proofs.Ytgcppknfigianaa
