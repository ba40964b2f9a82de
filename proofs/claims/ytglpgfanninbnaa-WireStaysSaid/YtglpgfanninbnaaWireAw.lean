/- The walk of layer 3's awake. -/
import Derived.Test.YtglpgfanninbnaaWireW
import Derived.Test.YtglpgfanninbnaaWireR
import Derived.Test.YtglpgfanninbnaaBSame
namespace Go.Proofs.Ytglpgfanninbnaa
open Go.RowKit

/-- a literal list of bytes, just made -/
theorem BS.lit (w : World) (l : List UInt8) (t : TypeId) (hm : l.length ≤ maxLen) : BS (w.alloc (.cells (c8 l).toArray t)) (.slice (some ⟨w.heap.size, 0, none⟩) l.length l.length) l :=
  BS.made w _ l t hm (fun i hi => by simp [c8, List.getElem?_eq_getElem hi])
/-- a writer just made -/
theorem wr_new (w : World) : Wr w.heap.size (w.alloc (.cells #[.slice none 0 0] 28)) w.heap.size none [] :=
  ⟨Nat.le_refl _, by simp, _, rfl, heap_alloc_new _ _, World.ownsRow_nil _ _ _ _⟩
set_option maxHeartbeats 1000000 in
theorem awake3_any (w : World) : Calls Try.prog 6 #[] w fun e w' => e = .returned (.bool true) ∧ Below w.heap.size w w' := by
  refine calls_q fun Q HQ => ?_
  go_enter Try.func6, Try.ntmps6
  go_wp2_with fail
  refine (wthree_any w.heap.size w.heap.size none [] 258 _ (wr_new w) ⟨by decide, by decide⟩ (by simp)).mono ?_
  rintro e w1 ⟨rfl, ob, hw, hf, _⟩
  rw [show [] ++ bytesI (258 : Int).toNat 3 = [0, 1, 2] by decide] at hw
  have HB1 := Lib.hid (((Below.refl _ _).alloc (Nat.le_refl _) _).trans (hf.below (B := w.heap.size) (by simp) (fun k hk => by rcases hk with rfl | h; exact Nat.le_refl _; cases h)))
  have HW1 := Lib.hid hw
  clear hf hw
  go_wp2_with fail
  have hw2 := HW1.out.fr0 (Fr.alloc w1 (.cells #[.int .u8 7] 5))
  have HB2 := Lib.hid (HB1.out.alloc HB1.out.size (.cells #[.int .u8 7] 5))
  refine (wraw_any _ _ _ _ _ [7] _ hw2 (BS.lit w1 [7] 5 (by decide)) (by simp)).mono ?_
  rintro e w3 ⟨rfl, ob3, hw3, hf3, _⟩
  have HB3 := Lib.hid (HB2.out.trans (hf3.below HB2.out.size (fun k hk => (hw2.lt k hk).1)))
  have HW3 := Lib.hid hw3
  clear hw2 hw3 hf3
  go_wp2_with fail
  refine (wbytes_any _ _ _ _ _ HW3.out (by simp)).mono ?_
  rintro e w4 ⟨u, rfl, ho, hb⟩
  have HB4 := Lib.hid (HB3.out.trans (hb.mono HB3.out.size))
  have HU4 := Lib.hid (own_bs ho).x
  clear ho hb
  go_wp2_with fail
  refine (new_any _ _ _ HU4.out.1 (by simp)).mono ?_
  rintro e w5 ⟨rb, rfl, hr, hb, _⟩
  have HB5 := Lib.hid (HB4.out.trans (hb.mono HB4.out.size))
  have HU5 := Lib.hid (HU4.out.fr (Fr.of hb) (fun _ _ _ h => h))
  have HS5 := Lib.hid hb.size
  have HR5 := Lib.hid hr
  clear hr hb
  go_wp2_with fail
  have hc := rthree_any _ _ _ _ _ HR5.out
  rw [show rdN 3 ([0, 1, 2] ++ [7]) = 258 by decide, show rawR 3 ([0, 1, 2] ++ [7]) = [7] by decide, show rawE 3 ([0, 1, 2] ++ [7]) 0 = 0 by decide] at hc
  refine hc.mono ?_
  rintro e w6 ⟨rfl, hr, hf⟩
  have HB6 := Lib.hid (HB5.out.trans (hf.below HB5.out.size (fun k (hk : k = rb) => by have := HR5.out.lt; have := HB4.out.size; omega)))
  have HU6 := Lib.hid (HU5.out.fr hf (fun k _ hk (h : k = rb) => by have := HR5.out.lt; omega))
  have HR6 := Lib.hid hr
  clear hr hf hc
  go_wp2_with fail
  refine (rleft_any _ _ _ _ _ HR6.out).mono ?_
  rintro e w7 ⟨rfl, rfl⟩
  go_wp2_with fail
  have hc := rraw_any _ _ 1 _ _ _ HR6.out (by decide)
  rw [RawPost.eq] at hc
  rw [show rawL 1 [7] = [7] by decide, show rawR 1 [7] = [] by decide, show rawE 1 [7] 0 = 0 by decide] at hc
  refine hc.mono ?_
  rintro e w8 ⟨v, rfl, hv, hr, hf⟩
  have HB8 := Lib.hid (HB6.out.trans (hf.below HB6.out.size (fun k (hk : k = rb) => by have := HR6.out.lt; have := HB4.out.size; omega)))
  have HU8 := Lib.hid (HU6.out.fr hf (fun k _ hk (h : k = rb) => by have := HR6.out.lt; omega))
  have HR8 := Lib.hid hr
  have HV8 := Lib.hid hv
  clear hr hf hc hv
  go_wp2_with fail
  have hc := rend_any _ _ _ _ _ HR8.out
  rw [show endE [] 0 = 0 by decide] at hc
  refine hc.mono ?_
  rintro e w9 ⟨rfl, rfl⟩
  clear hc
  go_wp2_with fail
  have hc := rshort_any _ _ _ _ _ HR8.out
  rw [show rdN 2 [] = 0 by decide, show rawR 2 [] = [] by decide, show rawE 2 [] 0 = 3 by decide] at hc
  refine hc.mono ?_
  rintro e w10 ⟨rfl, hr, hf⟩
  have HB10 := Lib.hid (HB8.out.trans (hf.below HB8.out.size (fun k (hk : k = rb) => by have := HR8.out.lt; have := HB4.out.size; omega)))
  have HU10 := Lib.hid (HU8.out.fr hf (fun k _ hk (h : k = rb) => by have := HR8.out.lt; omega))
  have HV10 := Lib.hid (HV8.out.fr hf (fun k _ hk (h : k = rb) => by omega))
  have HR10 := Lib.hid hr
  clear hr hf hc
  go_wp2_with fail
  have ha := Fr.alloc w10 (.cells #[.int .u8 0, .int .u8 1, .int .u8 2, .int .u8 7] 5)
  have HB11 := Lib.hid (HB10.out.alloc HB10.out.size (.cells #[.int .u8 0, .int .u8 1, .int .u8 2, .int .u8 7] 5))
  have HV11 := Lib.hid (HV10.out.fr ha (fun _ _ _ h => h))
  have HR11 := Lib.hid (HR10.out.fr0 ha)
  have hc := rsame_any _ _ _ _ _ (HU10.out.fr ha (fun _ _ _ h => h)).1 (BS.lit w10 [0, 1, 2, 7] 5 (by decide))
  rw [show ([0, 1, 2] ++ [7] == ([0, 1, 2, 7] : List UInt8)) = true by decide] at hc
  refine hc.mono ?_
  rintro e w12 ⟨rfl, n12, rfl⟩
  clear ha hc
  go_wp2_with fail
  have hsz : ((w10.alloc (.cells #[.int .u8 0, .int .u8 1, .int .u8 2, .int .u8 7] 5)).drewN n12).heap.size = w10.heap.size + 1 := World.size_alloc _ _
  have HBn := Lib.hid (below_drewN HB11.out n12)
  have HVn := Lib.hid (HV11.out.fr (Fr.drewN _ n12) (fun _ _ _ h => h))
  have HRn := Lib.hid (HR11.out.fr0 (Fr.drewN _ n12))
  generalize ((w10.alloc (.cells #[.int .u8 0, .int .u8 1, .int .u8 2, .int .u8 7] 5)).drewN n12) = wx at *
  have ha := Fr.alloc wx (.cells #[.int .u8 7] 5)
  have hl := BS.lit wx [7] 5 (by decide)
  rw [hsz] at hl
  have HB13 := Lib.hid (HBn.out.alloc HBn.out.size (.cells #[.int .u8 7] 5))
  have HR13 := Lib.hid (HRn.out.fr0 ha)
  have hc := rsame_any _ _ _ _ _ (HVn.out.fr ha (fun _ _ _ h => h)).1 hl
  rw [show ([7] == ([7] : List UInt8)) = true by decide] at hc
  refine hc.mono ?_
  rintro e w14 ⟨rfl, n14, rfl⟩
  clear ha hc hl hsz
  go_wp2_with fail
  have hc := rend_any _ _ _ _ _ (HR13.out.fr0 (Fr.drewN _ n14))
  rw [show endE [] 3 = 3 by decide] at hc
  refine hc.mono ?_
  rintro e w15 ⟨rfl, rfl⟩
  clear hc
  go_wp2_with fail
  exact HQ.out _ _ ⟨rfl, below_drewN HB13.out n14⟩
end Go.Proofs.Ytglpgfanninbnaa
