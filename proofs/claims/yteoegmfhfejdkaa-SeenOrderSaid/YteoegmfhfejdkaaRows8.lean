/- Slices of structs that come in, as lists of rows of cells; their fields one by one. -/
import Derived.Test.YteoegmfhfejdkaaFr
import Derived.Deep.Slices
import Derived.Deep.Fields
import Derived.ChangeSame
namespace Go.Proofs.Yteoegmfhfejdkaa
open Go.ChangeShapes Go.WideShapes Go.ChangeAt Go.RowKit Go.Deep

/-- a slice of elements of k cells reads as these rows -/
def RowsV (k : Nat) (w : World) (v : Value) (rs : List (List Value)) : Prop :=
  ∃ A c, v = .slice A rs.length c ∧ rs.length ≤ c ∧ c ≤ maxLen ∧
    (0 < rs.length → ∃ b o, A = some ⟨b, o, none⟩ ∧ b < w.heap.size ∧ ∀ i (h : i < rs.length) j u, rs[i][j]? = some u → w.cell? ⟨b, o + i * k + j, none⟩ = some u)
theorem RowsV.fr {k : Nat} {w w' : World} {v : Value} {rs : List (List Value)} (h : RowsV k w v rs) {F : Nat → Prop} (hf : Fr F w w') (hF : ∀ b, b < w.heap.size → ¬ F b) : RowsV k w' v rs := by
  obtain ⟨A, c, rfl, h1, h2, h3⟩ := h
  refine ⟨A, c, rfl, h1, h2, fun hp => ?_⟩
  obtain ⟨b, o, rfl, hb, hc⟩ := h3 hp
  refine ⟨b, o, rfl, Nat.lt_of_lt_of_le hb hf.size, fun i hi j u hu => ?_⟩
  rw [World.cell?_of_block (w := w) (a := ⟨b, o + i * k + j, none⟩) (hf.block b hb (hF b hb))]
  exact hc i hi j u hu
section
variable {H : Type} {enc : TypeId × Value → H} {P : Program} {w : World} {base : Nat} {spare : Nat → Bool} {held : Bool}
theorem rows_of_trod {k : Nat} {t e : TypeId} {v : Value} {fuel : Nat} {x : DataW H × List MemPlace} (ht : P.underlying t = some (.slice e)) (hk : P.cellsOf e = k) (hk0 : 0 < k)
    (h : DataW.trod enc P w base spare held fuel t [v] = some x) : ∃ rs, RowsV k w v rs ∧ ∀ r ∈ rs, ∃ n y, DataW.trod enc P w base spare held n e r = some y := by
  rcases open_slice ht h with ⟨hcs, _⟩ | ⟨a, len, cap, m, n, D, Pl, hcs, hb, hl, hm, hmm, _, hx⟩
  · obtain rfl : v = .slice none 0 0 := by simpa using hcs
    exact ⟨[], ⟨none, 0, rfl, Nat.le_refl _, Nat.zero_le _, fun h => absurd h (by simp)⟩, by simp⟩
  · obtain rfl : v = .slice (some a) len cap := by simpa using hcs
    have hlm : len ≤ m := by rw [hmm]; split <;> omega
    obtain ⟨R, hR⟩ := choose_lt (n := len) (p := fun i cs => w.cells? base (a.add (i * P.cellsOf e)) (P.cellsOf e) = some cs ∧ DataW.trod enc P w base spare held n e cs = some (D i, Pl i)) (fun i hi => hx i (by omega))
    have hrl : ((List.range len).map R).length = len := by simp
    refine ⟨(List.range len).map R, ⟨some a, cap, by rw [hrl], by rw [hrl]; exact hl, hm, fun hp => ?_⟩, fun r hr => ?_⟩
    · rw [hrl] at hp
      have hcell : ∀ i, i < len → ∀ j u, (R i)[j]? = some u → w.cell? ((a.add (i * k)).add j) = some u := fun i hi j u hu => by
        obtain ⟨_, hcl, hat⟩ := World.cells?_some (hR i hi).1
        rw [hk] at hat hcl
        have hjl : j < k := by rw [← hcl]; exact (List.getElem?_eq_some_iff.1 hu).1
        rw [hat j hjl, hu]
      have h0 : ∃ u, (R 0)[0]? = some u := by
        obtain ⟨_, hcl, _⟩ := World.cells?_some (hR 0 hp).1
        exact ⟨_, List.getElem?_eq_getElem (by rw [hcl, hk]; exact hk0)⟩
      obtain ⟨u0, hu0⟩ := h0
      have hc0 := hcell 0 hp 0 u0 hu0
      have hsp : a.spot = none := by
        have := World.cell?_spot hc0
        rw [add_add] at this
        simpa [Addr.add] using this
      have hlt : a.block < w.heap.size := by
        have := World.block_lt_of_cell? w _ hc0
        rwa [add_block, add_block] at this
      refine ⟨a.block, a.off, by obtain ⟨b, o, sp⟩ := a; obtain rfl : sp = none := hsp; rfl, hlt, fun i hi j u hu => ?_⟩
      rw [hrl] at hi
      have := hcell i hi j u (by simpa using hu)
      rw [add_add, RowV.add hsp, ← Nat.add_assoc] at this
      exact this
    · obtain ⟨i, hi, rfl⟩ := List.mem_map.1 hr
      exact ⟨n, _, (hR i (List.mem_range.1 hi)).2⟩
theorem fields_of_trod {e : TypeId} {fs : Array Field} {fuel : Nat} {r : List Value} {x : DataW H × List MemPlace} (he : P.underlying e = some (.struct fs)) (hone : oneCellFields P fs = true) (hC : P.cellsOf e = fs.size)
    (h : DataW.trod enc P w base spare held fuel e r = some x) :
    r.length = fs.size ∧ ∀ (j : Nat) (f : Field), fs[j]? = some f → ∃ v n y, r[j]? = some v ∧ DataW.trod enc P w base spare held n f.type [v] = some y := by
  obtain ⟨xs, n, _, _, hl, hxl, hf⟩ := DataW.trod_struct he h
  rw [hC] at hl
  refine ⟨hl, fun j f hj => ?_⟩
  obtain ⟨ho, hk⟩ := hone_of hone j f hj
  have hjl : j < fs.size := (Array.getElem?_eq_some_iff.1 hj).1
  have h1 := hf j f hj
  rw [ho, hk, List.drop_eq_getElem_cons (by omega), List.getElem?_eq_getElem (by omega)] at h1
  exact ⟨r[j]'(by omega), n, _, List.getElem?_eq_getElem (by omega), h1⟩
theorem int_of_trod {t : TypeId} {k : IntKind} {v : Value} {fuel : Nat} {x : DataW H × List MemPlace} (ht : P.underlying t = some (.int k)) (h : DataW.trod enc P w base spare held fuel t [v] = some x) :
    ∃ n, v = .int k n ∧ (Lit.int k n).wf = true := by
  obtain ⟨n, hc, _, hw⟩ := DataW.trod_int ht h
  exact ⟨n, by simpa using hc, hw⟩
theorem bool_of_trod {t : TypeId} {v : Value} {fuel : Nat} {x : DataW H × List MemPlace} (ht : P.underlying t = some .bool) (h : DataW.trod enc P w base spare held fuel t [v] = some x) :
    ∃ b, v = .bool b := by
  obtain ⟨b, hc, _⟩ := DataW.trod_bool ht h
  exact ⟨b, by simpa using hc⟩
theorem bs_of_trod {t e : TypeId} {v : Value} {fuel : Nat} {x : DataW H × List MemPlace} (ht : P.underlying t = some (.slice e)) (he : P.underlying e = some (.int .u8)) (hc : P.cellsOf e = 1)
    (h : DataW.trod enc P w base spare held fuel t [v] = some x) : ∃ l, BS w v l := by
  obtain ⟨rs, ⟨A, c, rfl, hl, hm, hr⟩, hall⟩ := rows_of_trod ht hc (by decide) h
  have hone : ∀ r ∈ rs, ∃ z : Nat, z < 256 ∧ r = [.int .u8 (z : Nat)] := fun r hr => by
    obtain ⟨n, y, hy⟩ := hall r hr
    obtain ⟨z, hz, _, hw⟩ := DataW.trod_int he hy
    simp [Lit.wf, IntKind.min, IntKind.max, IntKind.bits, IntKind.signed] at hw
    exact ⟨z.toNat, by omega, by rw [hz]; congr 2; omega⟩
  let g : List Value → UInt8 := fun r => match r with | [.int _ z] => UInt8.ofNat z.toNat | _ => 0
  have hgl : (rs.map g).length = rs.length := by simp
  refine ⟨rs.map g, A, c, by rw [hgl], by rw [hgl]; exact hl, hm, fun hp => ?_⟩
  rw [hgl] at hp
  obtain ⟨b, o, rfl, hb, hcell⟩ := hr hp
  refine ⟨b, o, rfl, hb, fun j hj => ?_⟩
  rw [hgl] at hj
  obtain ⟨z, hz, hrj⟩ := hone _ (List.getElem_mem hj)
  have := hcell j hj 0 (.int .u8 z) (by rw [hrj]; rfl)
  rw [Nat.mul_one, Nat.add_zero] at this
  rw [this, List.getElem_map, hrj]
  show _ = some (Value.int .u8 ((UInt8.ofNat ((z : Int).toNat)).toNat : Nat))
  rw [UInt8.toNat_ofNat', Int.toNat_natCast, Nat.mod_eq_of_lt hz]
end
end Go.Proofs.Yteoegmfhfejdkaa
