/- Messages that come in. -/
import Derived.Test.YtonkecfgopbclaaFRt
import Derived.Test.YtonkecfgopbclaaCkOp
namespace Go.Proofs.Ytonkecfgopbclaa
open Go.ChangeShapes Go.WideShapes Go.ChangeAt Go.RowKit Go.Deep

/-- a message's value, read in a world -/
def MV (w : World) (v : Value) (m : DM) : Prop := ∃ va vl, v = .agg #[.int .i64 m.k, .int .u32 (m.se : Nat), .int .u32 (m.me : Nat), va, vl] ∧ AsS w va m.ak ∧ LoS w vl m.lo
section
variable {H : Type} {enc : TypeId × Value → H} {w : World} {base : Nat} {spare : Nat → Bool} {held : Bool}
theorem asks_of_trod {v : Value} {fuel : Nat} {x : DataW H × List MemPlace} (h : DataW.trod enc Try.prog w base spare held fuel 23 [v] = some x) : ∃ l, AsS w v l ∧ ∀ a ∈ l, okA a := by
  obtain ⟨rs, hr, hall⟩ := rows_of_trod Try.underlying23 (k := 2) (by kernel_rfl) (by decide) h
  have h1 : ∀ r ∈ rs, ∃ a : Nat × Nat, r = rowA a ∧ okA a := fun r hr => by
    obtain ⟨n, y, hy⟩ := hall r hr
    obtain ⟨hl, hfs⟩ := fields_of_trod Try.underlying68 (by kernel_rfl) (by kernel_rfl) hy
    obtain ⟨v0, n0, y0, e0, t0⟩ := hfs 0 _ rfl
    obtain ⟨v1, n1, y1, e1, t1⟩ := hfs 1 _ rfl
    obtain ⟨z0, rfl, w0⟩ := int_of_trod Try.underlying22 t0
    obtain ⟨z1, rfl, w1⟩ := int_of_trod Try.underlying5 t1
    obtain ⟨s, rfl, f0⟩ := nat_u32 w0
    obtain ⟨p, rfl, f1⟩ := nat_u8 w1
    refine ⟨(s, p), ?_, ⟨f0, f1⟩⟩
    have hl2 : r.length = 2 := hl
    match r, hl2 with
    | [a0, a1], _ =>
      simp at e0 e1
      simp [rowA, e0, e1]
  have h2 : ∃ l : List (Nat × Nat), rs = l.map rowA ∧ ∀ a ∈ l, okA a := by
    clear hr hall
    induction rs with
    | nil => exact ⟨[], rfl, by simp⟩
    | cons r rs ih =>
      obtain ⟨l, rfl, hb⟩ := ih (fun r hr => h1 r (List.mem_cons_of_mem _ hr))
      obtain ⟨b, rfl, hok⟩ := h1 r (List.mem_cons_self ..)
      refine ⟨b :: l, rfl, fun x hx => ?_⟩
      rcases List.mem_cons.1 hx with rfl | hx
      · exact hok
      · exact hb x hx
  obtain ⟨l, rfl, hok⟩ := h2
  exact ⟨l, hr, hok⟩
theorem lost_of_trod {v : Value} {fuel : Nat} {x : DataW H × List MemPlace} (h : DataW.trod enc Try.prog w base spare held fuel 24 [v] = some x) : ∃ l, LoS w v l ∧ ∀ a ∈ l, Fits 65536 a := by
  obtain ⟨rs, ⟨A, c, rfl, hl, hm, hr⟩, hall⟩ := rows_of_trod Try.underlying24 (k := 1) (by kernel_rfl) (by decide) h
  have h1 : ∀ r ∈ rs, ∃ z : Int, r = [.int .u16 z] ∧ Fits 65536 z := fun r hr => by
    obtain ⟨n, y, hy⟩ := hall r hr
    obtain ⟨z, hz, _, hw⟩ := DataW.trod_int Try.underlying47 hy
    exact ⟨z, hz, fits_u16 hw⟩
  have h2 : ∃ l : List Int, rs = l.map (fun z => [.int .u16 z]) ∧ ∀ a ∈ l, Fits 65536 a := by
    clear hr hall hl h
    induction rs with
    | nil => exact ⟨[], rfl, by simp⟩
    | cons r rs ih =>
      obtain ⟨l, rfl, hb⟩ := ih (fun r hr => h1 r (List.mem_cons_of_mem _ hr))
      obtain ⟨b, rfl, hok⟩ := h1 r (List.mem_cons_self ..)
      refine ⟨b :: l, rfl, fun x hx => ?_⟩
      rcases List.mem_cons.1 hx with rfl | hx
      · exact hok
      · exact hb x hx
  obtain ⟨l, rfl, hok⟩ := h2
  have e1 : (l.map (fun z => [Value.int .u16 z])).length = (ints .u16 l).length := by simp [ints]
  refine ⟨l, ⟨A, c, by rw [e1], by rw [← e1]; exact hl, hm, fun hp => ?_⟩, hok⟩
  obtain ⟨b, o, rfl, hb, hcell⟩ := hr (by rw [e1]; exact hp)
  refine ⟨b, o, rfl, hb, fun j hj => ?_⟩
  have := hcell j (by rw [e1]; exact hj) 0 (.int .u16 (l[j]'(by simpa [ints] using hj))) (by simp)
  rw [Nat.mul_one, Nat.add_zero] at this
  rw [this]
  simp [ints]
end
theorem open_msg {H : Type} {enc : TypeId × Value → H} {W : World} {base : Nat} {v : Value} {d : DataW H} {p : List MemPlace}
    (hval : Value.okWide Try.prog W .any base 26 v)
    (h : DataW.Trod enc Try.prog W 0 (fun _ => true) true 26 v d p) : ∃ m, MV W v m ∧ m.Ok := by
  obtain ⟨cs, rfl, hsz⟩ := okWide_struct Try.underlying26 hval
  obtain ⟨fuel, hf⟩ := h
  have hc5 : Try.prog.cellsOf 26 = 5 := by kernel_rfl
  rw [hc5] at hsz
  obtain ⟨l, hl, rfl⟩ : ∃ l : List Value, l.length = 5 ∧ cs = l.toArray := ⟨cs.toList, by simpa using hsz, by simp⟩
  match l, hl with
  | [x0, x1, x2, x3, x4], _ =>
    obtain ⟨_, hh⟩ := fields_of_trod Try.underlying26 (by kernel_rfl) (by kernel_rfl) hf
    obtain ⟨v0, n0, y0, e0, s0⟩ := hh 0 _ rfl
    obtain ⟨v1, n1, y1, e1, s1⟩ := hh 1 _ rfl
    obtain ⟨v2, n2, y2, e2, s2⟩ := hh 2 _ rfl
    obtain ⟨v3, n3, y3, e3, s3⟩ := hh 3 _ rfl
    obtain ⟨v4, n4, y4, e4, s4⟩ := hh 4 _ rfl
    obtain ⟨z0, rfl, w0⟩ := int_of_trod Try.underlying3 s0
    obtain ⟨z1, rfl, w1⟩ := int_of_trod Try.underlying22 s1
    obtain ⟨z2, rfl, w2⟩ := int_of_trod Try.underlying22 s2
    obtain ⟨ak, ha, hok⟩ := asks_of_trod s3
    obtain ⟨lo, hl, hfit⟩ := lost_of_trod s4
    simp [Value.cells] at e0 e1 e2 e3 e4
    subst e0 e1 e2 e3 e4
    obtain ⟨se, rfl, g1⟩ := nat_u32 w1
    obtain ⟨me, rfl, g2⟩ := nat_u32 w2
    exact ⟨⟨z0, se, me, ak, lo⟩, ⟨_, _, rfl, ha, hl⟩, ⟨g1, g2, hok, hfit⟩⟩
end Go.Proofs.Ytonkecfgopbclaa
