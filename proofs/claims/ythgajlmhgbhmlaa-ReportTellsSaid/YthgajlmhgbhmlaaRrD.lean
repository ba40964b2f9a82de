/- The walk of the document's Read. -/
import Derived.Test.YthgajlmhgbhmlaaRrS
import Derived.Deep.DeepCutAuto
namespace Go.Proofs.Ythgajlmhgbhmlaa
open Go.RowKit

set_option maxRecDepth 20000 in
set_option linter.unusedSimpArgs false in
set_option maxHeartbeats 4000000 in
theorem rrread_any (n y : Nat) (A : Option Addr) (c : Nat) (B : List UInt8) (w : World) (hv : BS w (.slice A B.length c) B) (hn : n < 256) (hy : y < 256) (hl : B.length ≤ 1000) :
    Calls Try.prog 11 #[.agg #[.int .u8 (n : Nat), .int .u8 (y : Nat), .slice A B.length c]] w (RdPostR w (n, y, B)) := by
  have HV := Lib.hid hv
  have HL := Lib.hid hl
  clear hv hl
  refine calls_q fun Q HQ => ?_
  unfold RdPostR rval at HQ
  have hbx := heap_alloc_new w (.cells #[.int .u8 (n : Nat), .int .u8 (y : Nat), .slice A B.length c] 35 (0, 0))
  have hb1 := below_alloc (w := w) (.cells #[.int .u8 (n : Nat), .int .u8 (y : Nat), .slice A B.length c] 35 (0, 0))
  have hrx := heap_alloc_new (w.alloc (.cells #[.int .u8 (n : Nat), .int .u8 (y : Nat), .slice A B.length c] 35 (0, 0))) zeroD8
  have hbx2 := (Fr.alloc (w.alloc (.cells #[.int .u8 (n : Nat), .int .u8 (y : Nat), .slice A B.length c] 35 (0, 0))) zeroD8).heap hbx (fun h => h)
  have hb2 := hb1.alloc hb1.size zeroD8
  rw [World.size_alloc] at hrx
  have HX := Lib.hid hbx2
  have HRx := Lib.hid hrx
  have HB := Lib.hid hb2
  clear hbx hb1 hrx hbx2 hb2
  go_enter Try.func11, Try.ntmps11
  go_wp2_with fail
  have HS := Lib.hid (show w.heap.size < w.heap.size + 1 ∧ w.heap.size + 1 < ((w.alloc (.cells #[.int .u8 (n : Nat), .int .u8 (y : Nat), .slice A B.length c] 35 (0, 0))).alloc zeroD8).heap.size by simp)
  rw [show (w.alloc (.cells #[.int .u8 (n : Nat), .int .u8 (y : Nat), .slice A B.length c] 35)).alloc (Obj.cells #[.bool false, .int .u32 0, .int .u32 0, .int .u32 0, .int .u32 0, .int .u32 0, .int .u32 0, .slice none 0 0] 41) = (w.alloc (.cells #[.int .u8 (n : Nat), .int .u8 (y : Nat), .slice A B.length c] 35 (0, 0))).alloc zeroD8 from rfl] at *
  generalize hbx : w.heap.size = bx at HX HRx HS ⊢
  have HBx := Lib.hid (show w.heap.size ≤ bx by omega)
  clear hbx
  generalize (w.alloc (.cells #[.int .u8 (n : Nat), .int .u8 (y : Nat), .slice A B.length c] 35 (0, 0))).alloc zeroD8 = wa at *
  obtain ⟨rx, hrx⟩ : ∃ rx, rx = bx + 1 := ⟨_, rfl⟩
  rw [← hrx] at HRx HS ⊢
  clear hrx
  refine (rcright_is n y _ B _ (HV.out.below HB.out) rfl).mono ?_
  rintro r w1 ⟨rfl, hb⟩
  have HX1 := Lib.hid ((Fr.of hb).heap HX.out (fun h => h))
  have HRx1 := Lib.hid ((Fr.of hb).heap HRx.out (fun h => h))
  have HB1 := Lib.hid (HB.out.trans (hb.mono HB.out.size))
  have HS1 := Lib.hid (show bx < rx ∧ rx < w1.heap.size by have := HS.out; have := hb.size; omega)
  clear hb HX HRx HB HS
  by_cases hr : rightC (n, y, B) = true
  · have hd0 : decR (n, y, B) = (if y = 200 then ⟨true, rdN 4 (rawR 0 B), rdN 4 (rawR 4 B), rdN 4 (rawR 8 B), rdN 4 (rawR 12 B), rdN 4 (rawR 16 B), rdN 4 (rawR 20 B), decBs n (rawR 24 B)⟩ else ⟨false, rdN 4 (rawR 0 B), 0, 0, 0, 0, 0, decBs n (rawR 4 B)⟩) := by rw [rawR_0]; rfl
    have hre0 : y = 200 ∨ y = 201 → rdErr (n, y, B) = endE (rawR (wantN (n, y, B)) B) (rawE (wantN (n, y, B)) B 0) := by
      intro hy3
      have hi : isR y = true := by simpa [isR] using hy3
      rw [rdErr, if_pos hr]
      show (if isR y = true then _ else _) = _
      rw [if_pos hi]
    have hre1 : ¬ (y = 200 ∨ y = 201) → rdErr (n, y, B) = 5 := by
      intro hy3
      have hi : isR y = false := by simpa [isR] using hy3
      rw [rdErr, if_pos hr]
      show (if isR y = true then _ else _) = _
      rw [if_neg (by simp [hi])]
    obtain ⟨rd, hrd⟩ : ∃ rd, readR (n, y, B) = rd := ⟨_, rfl⟩
    have hrr : rd = if rdErr (n, y, B) = 0 then decR (n, y, B) else DR.zero := hrd.symm
    obtain ⟨er, her⟩ : ∃ er, rdErr (n, y, B) = er := ⟨_, rfl⟩
    obtain ⟨d, hd⟩ : ∃ d, decR (n, y, B) = d := ⟨_, rfl⟩
    rw [hd] at hd0
    rw [her] at hre0 hre1
    rw [her, hd] at hrr
    rw [hrd, her] at HQ
    rw [hr]
    have HRr := Lib.hid hrr
    clear hrd her hrr hr hd
    by_cases hy3 : y = 200 ∨ y = 201
    · have hre := hre0 hy3
      clear hre0 hre1
      obtain ⟨x0, hx0⟩ : ∃ x, rdN 4 (rawR 0 B) = x := ⟨_, rfl⟩
      obtain ⟨x1, hx1⟩ : ∃ x, rdN 4 (rawR 4 B) = x := ⟨_, rfl⟩
      obtain ⟨x2, hx2⟩ : ∃ x, rdN 4 (rawR 8 B) = x := ⟨_, rfl⟩
      obtain ⟨x3, hx3⟩ : ∃ x, rdN 4 (rawR 12 B) = x := ⟨_, rfl⟩
      obtain ⟨x4, hx4⟩ : ∃ x, rdN 4 (rawR 16 B) = x := ⟨_, rfl⟩
      obtain ⟨x5, hx5⟩ : ∃ x, rdN 4 (rawR 20 B) = x := ⟨_, rfl⟩
      rw [hx0, hx1, hx2, hx3, hx4, hx5] at hd0
      have Hx0 := Lib.hid hx0
      have Hx1 := Lib.hid hx1
      have Hx2 := Lib.hid hx2
      have Hx3 := Lib.hid hx3
      have Hx4 := Lib.hid hx4
      have Hx5 := Lib.hid hx5
      clear hx0 hx1 hx2 hx3 hx4 hx5
      rcases hy3 with rfl | rfl
      case' inl =>
        rw [if_pos rfl] at hd0
        have HDec := Lib.hid hd0
        have HRe := Lib.hid (show er = endE (rawR (24 + 24 * n) B) (rawE (24 + 24 * n) B 0) from hre)
        clear hd0 hre
        obtain ⟨k0, k1, k2, z0, z1, z2⟩ := cells3 HX1.out
        go_upto_region 6 with fail
        have ha := Fr.alloc w1 (.cells #[.slice A B.length c, .int .i64 ((0 : Nat) : Int), .int .i64 0] 80 (0, 0))
        have HX2 := Lib.hid (ha.heap HX1.out (fun h => h))
        have HRx2 := Lib.hid (ha.heap HRx1.out (fun h => h))
        have HB2 := Lib.hid (HB1.out.alloc HB1.out.size (.cells #[.slice A B.length c, .int .i64 ((0 : Nat) : Int), .int .i64 0] 80 (0, 0)))
        have HD2 := Lib.hid (rd0 (heap_alloc_new w1 (.cells #[.slice A B.length c, .int .i64 ((0 : Nat) : Int), .int .i64 0] 80 (0, 0))) ((HV.out.below HB1.out).x.fr ha (fun _ _ _ h => h)))
        have HBx2 := HBx
        have HS2 := HS1
        clear ha HX1 HRx1 HB1 HS1 HBx k0 k1 k2 z0 z1 z2
        rw [show w1.alloc (Obj.cells #[.slice A B.length c, .int .i64 0, .int .i64 0] 80) = w1.alloc (.cells #[.slice A B.length c, .int .i64 ((0 : Nat) : Int), .int .i64 0] 80 (0, 0)) from rfl]
        generalize w1.alloc (.cells #[.slice A B.length c, .int .i64 ((0 : Nat) : Int), .int .i64 0] 80 (0, 0)) = w2 at *
        generalize w1.heap.size = rb at *
        obtain ⟨k0, k1, k2, z0, z1, z2⟩ := cells3 HX2.out
        go_upto_region 7 with fail
        have hpr : PD w bx rx rb w2.heap.size bx (.slice A B.length c) B (.cells #[.int .u8 (n : Nat), .int .u8 (200 : Nat), .slice A B.length c] 35 (0, 0)) (.cells #[.bool true, .int .u32 ((0 : Nat) : Nat), .int .u32 ((0 : Nat) : Nat), .int .u32 ((0 : Nat) : Nat), .int .u32 ((0 : Nat) : Nat), .int .u32 ((0 : Nat) : Nat), .int .u32 ((0 : Nat) : Nat), .slice none 0 0] 41 (0, 0)) (.cells #[.int .u8 (n : Nat), .int .u8 (200 : Nat), .slice A B.length c] 35 (0, 0)) 0 (.slice none 0 0) [] (w2.alloc (.cells #[.bool true, .int .u32 ((0 : Nat) : Nat), .int .u32 ((0 : Nat) : Nat), .int .u32 ((0 : Nat) : Nat), .int .u32 ((0 : Nat) : Nat), .int .u32 ((0 : Nat) : Nat), .int .u32 ((0 : Nat) : Nat), .slice none 0 0] 41 (0, 0))) := by
          have hb := Fr.alloc w2 (.cells #[.bool true, .int .u32 ((0 : Nat) : Nat), .int .u32 ((0 : Nat) : Nat), .int .u32 ((0 : Nat) : Nat), .int .u32 ((0 : Nat) : Nat), .int .u32 ((0 : Nat) : Nat), .int .u32 ((0 : Nat) : Nat), .slice none 0 0] 41 (0, 0))
          have hbx1 := HBx2.out
          have hs1 := HS2.out
          refine ⟨⟨0, ?_⟩, hb.heap HX2.out (fun h => h), hb.heap HRx2.out (fun h => h), heap_alloc_new w2 _, hb.heap HX2.out (fun h => h), World.ownsRow_nil _ _ _ _, by simp [Value.ownBlock], HB2.out.alloc HB2.out.size _, hbx1, hs1.1, hs1.2, obj_lt HD2.out.box, .inl rfl⟩
          rw [rawR_0, show rawE 0 B 0 = 0 by simp [rawE]]
          exact HD2.out.fr0 hb
        have HP := Lib.hid hpr
        clear hpr HX2 HRx2 HB2 HS2 HBx2 HV HD2 k0 k1 k2 z0 z1 z2
        rw [show w2.alloc (Obj.cells #[.bool true, .int .u32 0, .int .u32 0, .int .u32 0, .int .u32 0, .int .u32 0, .int .u32 0, .slice none 0 0] 41) = w2.alloc (.cells #[.bool true, .int .u32 ((0 : Nat) : Nat), .int .u32 ((0 : Nat) : Nat), .int .u32 ((0 : Nat) : Nat), .int .u32 ((0 : Nat) : Nat), .int .u32 ((0 : Nat) : Nat), .int .u32 ((0 : Nat) : Nat), .slice none 0 0] 41 (0, 0)) from rfl]
        generalize w2.alloc (.cells #[.bool true, .int .u32 ((0 : Nat) : Nat), .int .u32 ((0 : Nat) : Nat), .int .u32 ((0 : Nat) : Nat), .int .u32 ((0 : Nat) : Nat), .int .u32 ((0 : Nat) : Nat), .int .u32 ((0 : Nat) : Nat), .slice none 0 0] 41 (0, 0)) = w4 at *
        generalize w2.heap.size = pb at *
        go_wp2_with fail
        refine (HP.out.num HL.out Hx0.out).mono ?_
        rintro r wc0 ⟨rfl, hp⟩
        try simp only [Nat.reduceAdd] at hp
        have HC := Lib.hid hp
        clear hp HP
        obtain ⟨q0, q1, q2, q3, q4, q5, q6, q7⟩ := frz7 HC.out.p
        obtain ⟨p0, p1, p2, p3, p4, p5, p6, p7⟩ := cells8 HC.out.p
        go_upto_region 9 with fail
        have h := HC.out.set 1 (.int .u32 (x0 : Nat))
        rw [show (#[Value.bool true, .int .u32 ((0 : Nat) : Nat), .int .u32 ((0 : Nat) : Nat), .int .u32 ((0 : Nat) : Nat), .int .u32 ((0 : Nat) : Nat), .int .u32 ((0 : Nat) : Nat), .int .u32 ((0 : Nat) : Nat), .slice none 0 0].setIfInBounds 1 (.int .u32 (x0 : Nat))) = #[.bool true, .int .u32 (x0 : Nat), .int .u32 ((0 : Nat) : Nat), .int .u32 ((0 : Nat) : Nat), .int .u32 ((0 : Nat) : Nat), .int .u32 ((0 : Nat) : Nat), .int .u32 ((0 : Nat) : Nat), .slice none 0 0] from rfl] at h
        have HP0 := Lib.hid h
        generalize wc0.setCell ⟨pb, 1, none⟩ (.int .u32 (x0 : Nat)) = wd0 at *
        clear HC h q0 q1 q2 q3 q4 q5 q6 q7 p0 p1 p2 p3 p4 p5 p6 p7
        go_wp2_with fail
        refine (HP0.out.num HL.out Hx1.out).mono ?_
        rintro r wc1 ⟨rfl, hp⟩
        try simp only [Nat.reduceAdd] at hp
        have HC := Lib.hid hp
        clear hp HP0
        obtain ⟨q0, q1, q2, q3, q4, q5, q6, q7⟩ := frz7 HC.out.p
        obtain ⟨p0, p1, p2, p3, p4, p5, p6, p7⟩ := cells8 HC.out.p
        go_upto_region 10 with fail
        have h := HC.out.set 2 (.int .u32 (x1 : Nat))
        rw [show (#[Value.bool true, .int .u32 (x0 : Nat), .int .u32 ((0 : Nat) : Nat), .int .u32 ((0 : Nat) : Nat), .int .u32 ((0 : Nat) : Nat), .int .u32 ((0 : Nat) : Nat), .int .u32 ((0 : Nat) : Nat), .slice none 0 0].setIfInBounds 2 (.int .u32 (x1 : Nat))) = #[.bool true, .int .u32 (x0 : Nat), .int .u32 (x1 : Nat), .int .u32 ((0 : Nat) : Nat), .int .u32 ((0 : Nat) : Nat), .int .u32 ((0 : Nat) : Nat), .int .u32 ((0 : Nat) : Nat), .slice none 0 0] from rfl] at h
        have HP1 := Lib.hid h
        generalize wc1.setCell ⟨pb, 2, none⟩ (.int .u32 (x1 : Nat)) = wd1 at *
        clear HC h q0 q1 q2 q3 q4 q5 q6 q7 p0 p1 p2 p3 p4 p5 p6 p7
        go_wp2_with fail
        refine (HP1.out.num HL.out Hx2.out).mono ?_
        rintro r wc2 ⟨rfl, hp⟩
        try simp only [Nat.reduceAdd] at hp
        have HC := Lib.hid hp
        clear hp HP1
        obtain ⟨q0, q1, q2, q3, q4, q5, q6, q7⟩ := frz7 HC.out.p
        obtain ⟨p0, p1, p2, p3, p4, p5, p6, p7⟩ := cells8 HC.out.p
        go_upto_region 11 with fail
        have h := HC.out.set 3 (.int .u32 (x2 : Nat))
        rw [show (#[Value.bool true, .int .u32 (x0 : Nat), .int .u32 (x1 : Nat), .int .u32 ((0 : Nat) : Nat), .int .u32 ((0 : Nat) : Nat), .int .u32 ((0 : Nat) : Nat), .int .u32 ((0 : Nat) : Nat), .slice none 0 0].setIfInBounds 3 (.int .u32 (x2 : Nat))) = #[.bool true, .int .u32 (x0 : Nat), .int .u32 (x1 : Nat), .int .u32 (x2 : Nat), .int .u32 ((0 : Nat) : Nat), .int .u32 ((0 : Nat) : Nat), .int .u32 ((0 : Nat) : Nat), .slice none 0 0] from rfl] at h
        have HP2 := Lib.hid h
        generalize wc2.setCell ⟨pb, 3, none⟩ (.int .u32 (x2 : Nat)) = wd2 at *
        clear HC h q0 q1 q2 q3 q4 q5 q6 q7 p0 p1 p2 p3 p4 p5 p6 p7
        go_wp2_with fail
        refine (HP2.out.num HL.out Hx3.out).mono ?_
        rintro r wc3 ⟨rfl, hp⟩
        try simp only [Nat.reduceAdd] at hp
        have HC := Lib.hid hp
        clear hp HP2
        obtain ⟨q0, q1, q2, q3, q4, q5, q6, q7⟩ := frz7 HC.out.p
        obtain ⟨p0, p1, p2, p3, p4, p5, p6, p7⟩ := cells8 HC.out.p
        go_upto_region 12 with fail
        have h := HC.out.set 4 (.int .u32 (x3 : Nat))
        rw [show (#[Value.bool true, .int .u32 (x0 : Nat), .int .u32 (x1 : Nat), .int .u32 (x2 : Nat), .int .u32 ((0 : Nat) : Nat), .int .u32 ((0 : Nat) : Nat), .int .u32 ((0 : Nat) : Nat), .slice none 0 0].setIfInBounds 4 (.int .u32 (x3 : Nat))) = #[.bool true, .int .u32 (x0 : Nat), .int .u32 (x1 : Nat), .int .u32 (x2 : Nat), .int .u32 (x3 : Nat), .int .u32 ((0 : Nat) : Nat), .int .u32 ((0 : Nat) : Nat), .slice none 0 0] from rfl] at h
        have HP3 := Lib.hid h
        generalize wc3.setCell ⟨pb, 4, none⟩ (.int .u32 (x3 : Nat)) = wd3 at *
        clear HC h q0 q1 q2 q3 q4 q5 q6 q7 p0 p1 p2 p3 p4 p5 p6 p7
        go_wp2_with fail
        refine (HP3.out.num HL.out Hx4.out).mono ?_
        rintro r wc4 ⟨rfl, hp⟩
        try simp only [Nat.reduceAdd] at hp
        have HC := Lib.hid hp
        clear hp HP3
        obtain ⟨q0, q1, q2, q3, q4, q5, q6, q7⟩ := frz7 HC.out.p
        obtain ⟨p0, p1, p2, p3, p4, p5, p6, p7⟩ := cells8 HC.out.p
        go_upto_region 13 with fail
        have h := HC.out.set 5 (.int .u32 (x4 : Nat))
        rw [show (#[Value.bool true, .int .u32 (x0 : Nat), .int .u32 (x1 : Nat), .int .u32 (x2 : Nat), .int .u32 (x3 : Nat), .int .u32 ((0 : Nat) : Nat), .int .u32 ((0 : Nat) : Nat), .slice none 0 0].setIfInBounds 5 (.int .u32 (x4 : Nat))) = #[.bool true, .int .u32 (x0 : Nat), .int .u32 (x1 : Nat), .int .u32 (x2 : Nat), .int .u32 (x3 : Nat), .int .u32 (x4 : Nat), .int .u32 ((0 : Nat) : Nat), .slice none 0 0] from rfl] at h
        have HP4 := Lib.hid h
        generalize wc4.setCell ⟨pb, 5, none⟩ (.int .u32 (x4 : Nat)) = wd4 at *
        clear HC h q0 q1 q2 q3 q4 q5 q6 q7 p0 p1 p2 p3 p4 p5 p6 p7
        go_wp2_with fail
        refine (HP4.out.num HL.out Hx5.out).mono ?_
        rintro r wc5 ⟨rfl, hp⟩
        try simp only [Nat.reduceAdd] at hp
        have HC := Lib.hid hp
        clear hp HP4
        obtain ⟨q0, q1, q2, q3, q4, q5, q6, q7⟩ := frz7 HC.out.p
        obtain ⟨p0, p1, p2, p3, p4, p5, p6, p7⟩ := cells8 HC.out.p
        go_upto_region 14 with fail
        have h := HC.out.set 6 (.int .u32 (x5 : Nat))
        rw [show (#[Value.bool true, .int .u32 (x0 : Nat), .int .u32 (x1 : Nat), .int .u32 (x2 : Nat), .int .u32 (x3 : Nat), .int .u32 (x4 : Nat), .int .u32 ((0 : Nat) : Nat), .slice none 0 0].setIfInBounds 6 (.int .u32 (x5 : Nat))) = #[.bool true, .int .u32 (x0 : Nat), .int .u32 (x1 : Nat), .int .u32 (x2 : Nat), .int .u32 (x3 : Nat), .int .u32 (x4 : Nat), .int .u32 (x5 : Nat), .slice none 0 0] from rfl] at h
        have HP5 := Lib.hid h
        generalize wc5.setCell ⟨pb, 6, none⟩ (.int .u32 (x5 : Nat)) = wd5 at *
        clear HC h q0 q1 q2 q3 q4 q5 q6 q7 p0 p1 p2 p3 p4 p5 p6 p7
        have pack : ∃ ah yy : Nat, Hid (PD w bx rx rb pb bx (.slice A B.length c) B (.cells #[.int .u8 (n : Nat), .int .u8 (yy : Nat), .slice A B.length c] 35 (0, 0)) (objD d (.slice none 0 0)) (.cells #[.int .u8 (n : Nat), .int .u8 (yy : Nat), .slice A B.length c] 35 (0, 0)) ah (.slice none 0 0) [] wd5) ∧ Hid (er = endE (rawR (ah + 24 * n) B) (rawE (ah + 24 * n) B 0)) ∧ Hid (d.bl = decBs n (rawR ah B)) :=
          ⟨24, 200, Lib.hid (by rw [HDec.out]; exact HP5.out), HRe, Lib.hid (by rw [HDec.out])⟩
        obtain ⟨ah, yy, H7, HRa, HBl⟩ := pack
        clear HP5 HRe HDec Hx0 Hx1 Hx2 Hx3 Hx4 Hx5
        obtain ⟨w7, hw7⟩ : ∃ w7, wd5 = w7 := ⟨_, rfl⟩
        rw [hw7] at H7 ⊢
        clear hw7
        obtain ⟨k0, k1, k2, z0, z1, z2⟩ := cells3 H7.out.ck
      case' inr =>
        rw [if_neg (by decide)] at hd0
        have HDec := Lib.hid hd0
        have HRe := Lib.hid (show er = endE (rawR (4 + 24 * n) B) (rawE (4 + 24 * n) B 0) from hre)
        clear hd0 hre
        obtain ⟨k0, k1, k2, z0, z1, z2⟩ := cells3 HX1.out
        go_upto_region 6 with fail
        have ha := Fr.alloc w1 (.cells #[.slice A B.length c, .int .i64 ((0 : Nat) : Int), .int .i64 0] 80 (0, 0))
        have HX2 := Lib.hid (ha.heap HX1.out (fun h => h))
        have HRx2 := Lib.hid (ha.heap HRx1.out (fun h => h))
        have HB2 := Lib.hid (HB1.out.alloc HB1.out.size (.cells #[.slice A B.length c, .int .i64 ((0 : Nat) : Int), .int .i64 0] 80 (0, 0)))
        have HD2 := Lib.hid (rd0 (heap_alloc_new w1 (.cells #[.slice A B.length c, .int .i64 ((0 : Nat) : Int), .int .i64 0] 80 (0, 0))) ((HV.out.below HB1.out).x.fr ha (fun _ _ _ h => h)))
        have HBx2 := HBx
        have HS2 := HS1
        clear ha HX1 HRx1 HB1 HS1 HBx k0 k1 k2 z0 z1 z2
        rw [show w1.alloc (Obj.cells #[.slice A B.length c, .int .i64 0, .int .i64 0] 80) = w1.alloc (.cells #[.slice A B.length c, .int .i64 ((0 : Nat) : Int), .int .i64 0] 80 (0, 0)) from rfl]
        generalize w1.alloc (.cells #[.slice A B.length c, .int .i64 ((0 : Nat) : Int), .int .i64 0] 80 (0, 0)) = w2 at *
        generalize w1.heap.size = rb at *
        obtain ⟨k0, k1, k2, z0, z1, z2⟩ := cells3 HX2.out
        go_upto_region 7 with fail
        have hpr : PD w bx rx rb w2.heap.size bx (.slice A B.length c) B (.cells #[.int .u8 (n : Nat), .int .u8 (201 : Nat), .slice A B.length c] 35 (0, 0)) (.cells #[.bool false, .int .u32 ((0 : Nat) : Nat), .int .u32 ((0 : Nat) : Nat), .int .u32 ((0 : Nat) : Nat), .int .u32 ((0 : Nat) : Nat), .int .u32 ((0 : Nat) : Nat), .int .u32 ((0 : Nat) : Nat), .slice none 0 0] 41 (0, 0)) (.cells #[.int .u8 (n : Nat), .int .u8 (201 : Nat), .slice A B.length c] 35 (0, 0)) 0 (.slice none 0 0) [] (w2.alloc (.cells #[.bool false, .int .u32 ((0 : Nat) : Nat), .int .u32 ((0 : Nat) : Nat), .int .u32 ((0 : Nat) : Nat), .int .u32 ((0 : Nat) : Nat), .int .u32 ((0 : Nat) : Nat), .int .u32 ((0 : Nat) : Nat), .slice none 0 0] 41 (0, 0))) := by
          have hb := Fr.alloc w2 (.cells #[.bool false, .int .u32 ((0 : Nat) : Nat), .int .u32 ((0 : Nat) : Nat), .int .u32 ((0 : Nat) : Nat), .int .u32 ((0 : Nat) : Nat), .int .u32 ((0 : Nat) : Nat), .int .u32 ((0 : Nat) : Nat), .slice none 0 0] 41 (0, 0))
          have hbx1 := HBx2.out
          have hs1 := HS2.out
          refine ⟨⟨0, ?_⟩, hb.heap HX2.out (fun h => h), hb.heap HRx2.out (fun h => h), heap_alloc_new w2 _, hb.heap HX2.out (fun h => h), World.ownsRow_nil _ _ _ _, by simp [Value.ownBlock], HB2.out.alloc HB2.out.size _, hbx1, hs1.1, hs1.2, obj_lt HD2.out.box, .inl rfl⟩
          rw [rawR_0, show rawE 0 B 0 = 0 by simp [rawE]]
          exact HD2.out.fr0 hb
        have HP := Lib.hid hpr
        clear hpr HX2 HRx2 HB2 HS2 HBx2 HV HD2 k0 k1 k2 z0 z1 z2
        rw [show w2.alloc (Obj.cells #[.bool false, .int .u32 0, .int .u32 0, .int .u32 0, .int .u32 0, .int .u32 0, .int .u32 0, .slice none 0 0] 41) = w2.alloc (.cells #[.bool false, .int .u32 ((0 : Nat) : Nat), .int .u32 ((0 : Nat) : Nat), .int .u32 ((0 : Nat) : Nat), .int .u32 ((0 : Nat) : Nat), .int .u32 ((0 : Nat) : Nat), .int .u32 ((0 : Nat) : Nat), .slice none 0 0] 41 (0, 0)) from rfl]
        generalize w2.alloc (.cells #[.bool false, .int .u32 ((0 : Nat) : Nat), .int .u32 ((0 : Nat) : Nat), .int .u32 ((0 : Nat) : Nat), .int .u32 ((0 : Nat) : Nat), .int .u32 ((0 : Nat) : Nat), .int .u32 ((0 : Nat) : Nat), .slice none 0 0] 41 (0, 0)) = w4 at *
        generalize w2.heap.size = pb at *
        go_wp2_with fail
        refine (HP.out.num HL.out Hx0.out).mono ?_
        rintro r wc0 ⟨rfl, hp⟩
        try simp only [Nat.reduceAdd] at hp
        have HC := Lib.hid hp
        clear hp HP
        obtain ⟨q0, q1, q2, q3, q4, q5, q6, q7⟩ := frz7 HC.out.p
        obtain ⟨p0, p1, p2, p3, p4, p5, p6, p7⟩ := cells8 HC.out.p
        go_upto_region 14 with fail
        have h := HC.out.set 1 (.int .u32 (x0 : Nat))
        rw [show (#[Value.bool false, .int .u32 ((0 : Nat) : Nat), .int .u32 ((0 : Nat) : Nat), .int .u32 ((0 : Nat) : Nat), .int .u32 ((0 : Nat) : Nat), .int .u32 ((0 : Nat) : Nat), .int .u32 ((0 : Nat) : Nat), .slice none 0 0].setIfInBounds 1 (.int .u32 (x0 : Nat))) = #[.bool false, .int .u32 (x0 : Nat), .int .u32 ((0 : Nat) : Nat), .int .u32 ((0 : Nat) : Nat), .int .u32 ((0 : Nat) : Nat), .int .u32 ((0 : Nat) : Nat), .int .u32 ((0 : Nat) : Nat), .slice none 0 0] from rfl] at h
        have HP0 := Lib.hid h
        generalize wc0.setCell ⟨pb, 1, none⟩ (.int .u32 (x0 : Nat)) = wd0 at *
        clear HC h q0 q1 q2 q3 q4 q5 q6 q7 p0 p1 p2 p3 p4 p5 p6 p7
        have pack : ∃ ah yy : Nat, Hid (PD w bx rx rb pb bx (.slice A B.length c) B (.cells #[.int .u8 (n : Nat), .int .u8 (yy : Nat), .slice A B.length c] 35 (0, 0)) (objD d (.slice none 0 0)) (.cells #[.int .u8 (n : Nat), .int .u8 (yy : Nat), .slice A B.length c] 35 (0, 0)) ah (.slice none 0 0) [] wd0) ∧ Hid (er = endE (rawR (ah + 24 * n) B) (rawE (ah + 24 * n) B 0)) ∧ Hid (d.bl = decBs n (rawR ah B)) :=
          ⟨4, 201, Lib.hid (by rw [HDec.out]; exact HP0.out), HRe, Lib.hid (by rw [HDec.out])⟩
        obtain ⟨ah, yy, H7, HRa, HBl⟩ := pack
        clear HP0 HRe HDec Hx0 Hx1 Hx2 Hx3 Hx4 Hx5
        obtain ⟨w7, hw7⟩ : ∃ w7, wd0 = w7 := ⟨_, rfl⟩
        rw [hw7] at H7 ⊢
        clear hw7
        obtain ⟨k0, k1, k2, z0, z1, z2⟩ := cells3 H7.out.ck
      all_goals
        go_wp2_with fail
        clear k0 k1 k2 z0 z1 z2
        go_loopw [6] (fun i wr => ∃ (j : Nat) (sv : Value) (bb : Nat) (ob : Obj), j ≤ n ∧ i = .int .i64 j ∧ PD w bx rx rb pb bb (.slice A B.length c) B (.cells #[.int .u8 (n : Nat), .int .u8 (yy : Nat), .slice A B.length c] 35 (0, 0)) (objD d sv) ob (ah + 24 * j) sv (decBs j (rawR ah B)) wr) (fun i _ => n - (intOf i).toNat)
        case atStart => exact ⟨0, .slice none 0 0, bx, _, Nat.zero_le _, rfl, H7.out⟩
        case round =>
          obtain ⟨j, sv, bb0, ob, hj, rfl, hs⟩ := hrel
          obtain ⟨A5, c5, rfl⟩ := own_slice hs.own
          have hjl := decBs_len j (rawR ah B)
          rw [hjl] at hs
          have HSt := Lib.hid hs
          clear hs H7
          obtain ⟨k0, k1, k2, z0, z1, z2⟩ := cells3 HSt.out.ck
          by_cases hlt : j < n
          · have h1 : (j : Int) < (n : Int) := by omega
            obtain ⟨kk, hkk⟩ : ∃ kk, ah + 24 * j = kk := ⟨_, rfl⟩
            have hrm := rawR_more ah j B
            rw [hkk] at HSt hrm
            obtain ⟨s, hs⟩ : ∃ x, rdN 4 (rawR kk B) = x := ⟨_, rfl⟩
            have ls := rdN_lt 4 (rawR kk B)
            rw [hs] at ls
            have Hs := Lib.hid hs
            obtain ⟨p, hp⟩ : ∃ x, rdN 1 (rawR (kk + 4) B) = x := ⟨_, rfl⟩
            have lp := rdN_lt 1 (rawR (kk + 4) B)
            rw [hp] at lp
            have Hp := Lib.hid hp
            obtain ⟨m, hm⟩ : ∃ x, rdN 3 (rawR (kk + 5) B) = x := ⟨_, rfl⟩
            have lm := rdN_lt 3 (rawR (kk + 5) B)
            rw [hm] at lm
            have Hm := Lib.hid hm
            obtain ⟨hi, hhi⟩ : ∃ x, rdN 4 (rawR (kk + 8) B) = x := ⟨_, rfl⟩
            have lhi := rdN_lt 4 (rawR (kk + 8) B)
            rw [hhi] at lhi
            have Hhi := Lib.hid hhi
            obtain ⟨jj, hjj⟩ : ∃ x, rdN 4 (rawR (kk + 12) B) = x := ⟨_, rfl⟩
            have ljj := rdN_lt 4 (rawR (kk + 12) B)
            rw [hjj] at ljj
            have Hjj := Lib.hid hjj
            obtain ⟨la, hla⟩ : ∃ x, rdN 4 (rawR (kk + 16) B) = x := ⟨_, rfl⟩
            have lla := rdN_lt 4 (rawR (kk + 16) B)
            rw [hla] at lla
            have Hla := Lib.hid hla
            obtain ⟨dd, hdd⟩ : ∃ x, rdN 4 (rawR (kk + 20) B) = x := ⟨_, rfl⟩
            have ldd := rdN_lt 4 (rawR (kk + 20) B)
            rw [hdd] at ldd
            have Hdd := Lib.hid hdd
            have hq24 : ∃ q : Int, signedN m 24 = q := ⟨_, rfl⟩
            obtain ⟨q, hq⟩ := hq24
            have hdec : decB (rawR kk B) = ⟨s, p, q, hi, jj, la, dd⟩ := by
              rw [decB, rawR_add kk 4 B (by decide), rawR_add kk 5 B (by decide), rawR_add kk 8 B (by decide), rawR_add kk 12 B (by decide), rawR_add kk 16 B (by decide), rawR_add kk 20 B (by decide), hs, hp, hm, hhi, hjj, hla, hdd, hq]
            rw [signed24 m (by simpa using lm)] at hq
            have HDb := Lib.hid hdec
            have HRm := Lib.hid hrm
            have HKk := Lib.hid hkk
            have lp : p < 256 := by simpa using lp
            have lm : m < 16777216 := by simpa using lm
            have Hq := Lib.hid hq
            have HQb := Lib.hid (show -8388608 ≤ q ∧ q ≤ 8388607 by rw [← hq]; split <;> omega)
            have HLp := Lib.hid lp
            have HLm := Lib.hid lm
            clear hrm hkk hq hdec hs hp hm hhi hjj hla hdd ls lp lm lhi ljj lla ldd
            have hbx := HSt.out.box #[.int .u32 ((0 : Nat) : Int), .int .u8 ((0 : Nat) : Int), .int .i32 0, .int .u32 ((0 : Nat) : Int), .int .u32 ((0 : Nat) : Int), .int .u32 ((0 : Nat) : Int), .int .u32 ((0 : Nat) : Int)] 68
            have HBB := Lib.hid (show pb < wr.heap.size from obj_lt HSt.out.p)
            have HN := Lib.hid hbx
            clear hbx HSt
            go_upto_region 18 with fail
            rw [show wr.alloc (Obj.cells #[.int .u32 0, .int .u8 0, .int .i32 0, .int .u32 0, .int .u32 0, .int .u32 0, .int .u32 0] 68) = wr.alloc (.cells #[.int .u32 ((0 : Nat) : Int), .int .u8 ((0 : Nat) : Int), .int .i32 0, .int .u32 ((0 : Nat) : Int), .int .u32 ((0 : Nat) : Int), .int .u32 ((0 : Nat) : Int), .int .u32 ((0 : Nat) : Int)] 68 (0, 0)) from rfl]
            generalize wr.alloc (.cells #[.int .u32 ((0 : Nat) : Int), .int .u8 ((0 : Nat) : Int), .int .i32 0, .int .u32 ((0 : Nat) : Int), .int .u32 ((0 : Nat) : Int), .int .u32 ((0 : Nat) : Int), .int .u32 ((0 : Nat) : Int)] 68 (0, 0)) = w10 at *
            generalize wr.heap.size = bb at *
            clear k0 k1 k2 z0 z1 z2
            go_wp2_with fail
            refine (HN.out.num HL.out Hs.out).mono ?_
            rintro r wa0 ⟨rfl, hp⟩
            try simp only [Nat.add_assoc, Nat.reduceAdd] at hp
            have HC := Lib.hid hp
            clear hp HN
            obtain ⟨q0, q1, q2, q3, q4, q5, q6, q7⟩ := frz7 HC.out.b
            have p0 := obj_cell HC.out.b 0
            simp only [List.getElem?_toArray, List.getElem?_cons_succ, List.getElem?_cons_zero] at p0
            go_upto_region 19 with fail
            have h := HC.out.setb HBB.out 0 (.int .u32 (s : Nat))
            rw [show (#[Value.int .u32 ((0 : Nat) : Int), .int .u8 ((0 : Nat) : Int), .int .i32 0, .int .u32 ((0 : Nat) : Int), .int .u32 ((0 : Nat) : Int), .int .u32 ((0 : Nat) : Int), .int .u32 ((0 : Nat) : Int)].setIfInBounds 0 (.int .u32 (s : Nat))) = #[.int .u32 (s : Nat), .int .u8 ((0 : Nat) : Int), .int .i32 0, .int .u32 ((0 : Nat) : Int), .int .u32 ((0 : Nat) : Int), .int .u32 ((0 : Nat) : Int), .int .u32 ((0 : Nat) : Int)] from rfl] at h
            have HN0 := Lib.hid h
            generalize wa0.setCell ⟨bb, 0, none⟩ (.int .u32 (s : Nat)) = wb0 at *
            clear HC h q0 q1 q2 q3 q4 q5 q6 q7 p0
            go_wp2_with fail
            refine (HN0.out.number HL.out 1 (by decide) (by decide) Hp.out).mono ?_
            rintro r wa1 ⟨rfl, hp⟩
            try simp only [Nat.add_assoc, Nat.reduceAdd] at hp
            have HC := Lib.hid hp
            clear hp HN0
            obtain ⟨q0, q1, q2, q3, q4, q5, q6, q7⟩ := frz7 HC.out.b
            have p1 := obj_cell HC.out.b 1
            simp only [List.getElem?_toArray, List.getElem?_cons_succ, List.getElem?_cons_zero] at p1
            have hp8 : IntKind.u8.wrap (p : Int) = (p : Int) := by rw [wrap_u8]; have := HLp.out; omega
            go_upto_region 20 with fail
            have h := HC.out.setb HBB.out 1 (.int .u8 (p : Nat))
            rw [show (#[Value.int .u32 (s : Nat), .int .u8 ((0 : Nat) : Int), .int .i32 0, .int .u32 ((0 : Nat) : Int), .int .u32 ((0 : Nat) : Int), .int .u32 ((0 : Nat) : Int), .int .u32 ((0 : Nat) : Int)].setIfInBounds 1 (.int .u8 (p : Nat))) = #[.int .u32 (s : Nat), .int .u8 (p : Nat), .int .i32 0, .int .u32 ((0 : Nat) : Int), .int .u32 ((0 : Nat) : Int), .int .u32 ((0 : Nat) : Int), .int .u32 ((0 : Nat) : Int)] from rfl] at h
            have HN1 := Lib.hid h
            generalize wa1.setCell ⟨bb, 1, none⟩ (.int .u8 (p : Nat)) = wb1 at *
            clear HC h q0 q1 q2 q3 q4 q5 q6 q7 p1
            go_wp2_with fail
            refine (HN1.out.number HL.out 3 (by decide) (by decide) Hm.out).mono ?_
            rintro r wa2 ⟨rfl, hp⟩
            simp only [Nat.add_assoc, Nat.reduceAdd] at hp
            have HN2 := Lib.hid hp
            clear hp HN1 hp8
            have hm64 : IntKind.i64.wrap (m : Int) = (m : Int) := by rw [wrap_i64']; have := HLm.out; split <;> omega
            go_upto_if 74 with fail
            go_cut [8] (fun t wx => t = .int .i64 q ∧ wx = wa2)
            case first =>
              have hq := Hq.out
              have hlm := HLm.out
              obtain ⟨M, hM⟩ : ∃ M : Int, (m : Int) = M := ⟨_, rfl⟩
              have hcase : (8388608 ≤ M ∧ IntKind.i64.wrap (M - 16777216) = q) ∨ (¬ 8388608 ≤ M ∧ M = q) := by
                by_cases h8 : m < 8388608
                · rw [if_pos h8] at hq
                  exact .inr ⟨by omega, by omega⟩
                · rw [if_neg h8] at hq
                  exact .inl ⟨by omega, by rw [wrap_i64']; split <;> omega⟩
              clear hq hlm hm64
              rw [hM]
              clear hM
              rcases hcase with ⟨h8, hw1⟩ | ⟨h8, rfl⟩
              · go_wp2_with fail
                go_meet
                exact ⟨rfl, rfl⟩
              · go_wp2_with fail
                go_meet
                exact ⟨rfl, rfl⟩
            case rest =>
              obtain ⟨hq8, hwc⟩ := hcut
              subst hq8
              rw [hwc]
              clear hwc
              have hq32 : IntKind.i32.wrap q = q := by simp [IntKind.wrap, IntKind.bits, IntKind.signed]; have := HQb.out; omega
              obtain ⟨q0, q1, q2, q3, q4, q5, q6, q7⟩ := frz7 HN2.out.b
              have p2 := obj_cell HN2.out.b 2
              simp only [List.getElem?_toArray, List.getElem?_cons_succ, List.getElem?_cons_zero] at p2
              go_upto_region 24 with fail
              have h := HN2.out.setb HBB.out 2 (.int .i32 q)
              rw [show (#[Value.int .u32 (s : Nat), .int .u8 (p : Nat), .int .i32 0, .int .u32 ((0 : Nat) : Int), .int .u32 ((0 : Nat) : Int), .int .u32 ((0 : Nat) : Int), .int .u32 ((0 : Nat) : Int)].setIfInBounds 2 (.int .i32 q)) = #[.int .u32 (s : Nat), .int .u8 (p : Nat), .int .i32 q, .int .u32 ((0 : Nat) : Int), .int .u32 ((0 : Nat) : Int), .int .u32 ((0 : Nat) : Int), .int .u32 ((0 : Nat) : Int)] from rfl] at h
              have HN3 := Lib.hid h
              generalize wa2.setCell ⟨bb, 2, none⟩ (.int .i32 q) = wb2 at *
              clear HN2 h q0 q1 q2 q3 q4 q5 q6 q7 p2 hq32 hm64
              go_wp2_with fail
              refine (HN3.out.num HL.out Hhi.out).mono ?_
              rintro r wa3 ⟨rfl, hp⟩
              try simp only [Nat.add_assoc, Nat.reduceAdd] at hp
              have HC := Lib.hid hp
              clear hp HN3
              obtain ⟨q0, q1, q2, q3, q4, q5, q6, q7⟩ := frz7 HC.out.b
              have p3 := obj_cell HC.out.b 3
              simp only [List.getElem?_toArray, List.getElem?_cons_succ, List.getElem?_cons_zero] at p3
              go_upto_region 25 with fail
              have h := HC.out.setb HBB.out 3 (.int .u32 (hi : Nat))
              rw [show (#[Value.int .u32 (s : Nat), .int .u8 (p : Nat), .int .i32 q, .int .u32 ((0 : Nat) : Int), .int .u32 ((0 : Nat) : Int), .int .u32 ((0 : Nat) : Int), .int .u32 ((0 : Nat) : Int)].setIfInBounds 3 (.int .u32 (hi : Nat))) = #[.int .u32 (s : Nat), .int .u8 (p : Nat), .int .i32 q, .int .u32 (hi : Nat), .int .u32 ((0 : Nat) : Int), .int .u32 ((0 : Nat) : Int), .int .u32 ((0 : Nat) : Int)] from rfl] at h
              have HN4 := Lib.hid h
              generalize wa3.setCell ⟨bb, 3, none⟩ (.int .u32 (hi : Nat)) = wb3 at *
              clear HC h q0 q1 q2 q3 q4 q5 q6 q7 p3
              go_wp2_with fail
              refine (HN4.out.num HL.out Hjj.out).mono ?_
              rintro r wa4 ⟨rfl, hp⟩
              try simp only [Nat.add_assoc, Nat.reduceAdd] at hp
              have HC := Lib.hid hp
              clear hp HN4
              obtain ⟨q0, q1, q2, q3, q4, q5, q6, q7⟩ := frz7 HC.out.b
              have p4 := obj_cell HC.out.b 4
              simp only [List.getElem?_toArray, List.getElem?_cons_succ, List.getElem?_cons_zero] at p4
              go_upto_region 26 with fail
              have h := HC.out.setb HBB.out 4 (.int .u32 (jj : Nat))
              rw [show (#[Value.int .u32 (s : Nat), .int .u8 (p : Nat), .int .i32 q, .int .u32 (hi : Nat), .int .u32 ((0 : Nat) : Int), .int .u32 ((0 : Nat) : Int), .int .u32 ((0 : Nat) : Int)].setIfInBounds 4 (.int .u32 (jj : Nat))) = #[.int .u32 (s : Nat), .int .u8 (p : Nat), .int .i32 q, .int .u32 (hi : Nat), .int .u32 (jj : Nat), .int .u32 ((0 : Nat) : Int), .int .u32 ((0 : Nat) : Int)] from rfl] at h
              have HN5 := Lib.hid h
              generalize wa4.setCell ⟨bb, 4, none⟩ (.int .u32 (jj : Nat)) = wb4 at *
              clear HC h q0 q1 q2 q3 q4 q5 q6 q7 p4
              go_wp2_with fail
              refine (HN5.out.num HL.out Hla.out).mono ?_
              rintro r wa5 ⟨rfl, hp⟩
              try simp only [Nat.add_assoc, Nat.reduceAdd] at hp
              have HC := Lib.hid hp
              clear hp HN5
              obtain ⟨q0, q1, q2, q3, q4, q5, q6, q7⟩ := frz7 HC.out.b
              have p5 := obj_cell HC.out.b 5
              simp only [List.getElem?_toArray, List.getElem?_cons_succ, List.getElem?_cons_zero] at p5
              go_upto_region 27 with fail
              have h := HC.out.setb HBB.out 5 (.int .u32 (la : Nat))
              rw [show (#[Value.int .u32 (s : Nat), .int .u8 (p : Nat), .int .i32 q, .int .u32 (hi : Nat), .int .u32 (jj : Nat), .int .u32 ((0 : Nat) : Int), .int .u32 ((0 : Nat) : Int)].setIfInBounds 5 (.int .u32 (la : Nat))) = #[.int .u32 (s : Nat), .int .u8 (p : Nat), .int .i32 q, .int .u32 (hi : Nat), .int .u32 (jj : Nat), .int .u32 (la : Nat), .int .u32 ((0 : Nat) : Int)] from rfl] at h
              have HN6 := Lib.hid h
              generalize wa5.setCell ⟨bb, 5, none⟩ (.int .u32 (la : Nat)) = wb5 at *
              clear HC h q0 q1 q2 q3 q4 q5 q6 q7 p5
              go_wp2_with fail
              refine (HN6.out.num HL.out Hdd.out).mono ?_
              rintro r wa6 ⟨rfl, hp⟩
              try simp only [Nat.add_assoc, Nat.reduceAdd] at hp
              have HC := Lib.hid hp
              clear hp HN6
              obtain ⟨q0, q1, q2, q3, q4, q5, q6, q7⟩ := frz7 HC.out.b
              have p6 := obj_cell HC.out.b 6
              simp only [List.getElem?_toArray, List.getElem?_cons_succ, List.getElem?_cons_zero] at p6
              go_upto_region 28 with fail
              have h := HC.out.setb HBB.out 6 (.int .u32 (dd : Nat))
              rw [show (#[Value.int .u32 (s : Nat), .int .u8 (p : Nat), .int .i32 q, .int .u32 (hi : Nat), .int .u32 (jj : Nat), .int .u32 (la : Nat), .int .u32 ((0 : Nat) : Int)].setIfInBounds 6 (.int .u32 (dd : Nat))) = #[.int .u32 (s : Nat), .int .u8 (p : Nat), .int .i32 q, .int .u32 (hi : Nat), .int .u32 (jj : Nat), .int .u32 (la : Nat), .int .u32 (dd : Nat)] from rfl] at h
              have HN7 := Lib.hid h
              generalize wa6.setCell ⟨bb, 6, none⟩ (.int .u32 (dd : Nat)) = wb6 at *
              clear HC h q0 q1 q2 q3 q4 q5 q6 q7 p6
              obtain ⟨_, _, _, _, _, _, _, p7⟩ := cells8 HN7.out.p
              obtain ⟨_, _, _, _, _, _, _, q7⟩ := frz7 HN7.out.p
              have hbc := obj_cell HN7.out.b
              have b0 := hbc 0
              have b1 := hbc 1
              have b2 := hbc 2
              have b3 := hbc 3
              have b4 := hbc 4
              have b5 := hbc 5
              have b6 := hbc 6
              clear hbc
              simp only [List.getElem?_toArray, List.getElem?_cons_succ, List.getElem?_cons_zero] at b0 b1 b2 b3 b4 b5 b6
              have HA := Lib.hid (HN7.out.fr0 (Fr.alloc wb6 (.cells (DB.row ⟨s, p, q, hi, jj, la, dd⟩).toArray 68)))
              have HO := Lib.hid (show (wb6.alloc (.cells (DB.row ⟨s, p, q, hi, jj, la, dd⟩).toArray 68)).ownsRow (pb + 1) 68 7 (.slice A5 j c5) j (cellsB (decBs j (rawR ah B))) from by have h := HA.out.own; rw [hjl] at h; exact h)
              have HAb := Lib.hid (show pb + 1 ≤ (wb6.alloc (.cells (DB.row ⟨s, p, q, hi, jj, la, dd⟩).toArray 68)).heap.size by rw [World.size_alloc]; have := obj_lt HN7.out.p; omega)
              go_wp2_with (at_builtin; refine wpl_appk rfl _ _ 39 rfl (pb + 1) 68 (.agg #[.int .u32 0, .int .u8 0, .int .i32 0, .int .u32 0, .int .u32 0, .int .u32 0, .int .u32 0]) 7 28 Try.underlying39 (by kernel_rfl) rfl (by decide) _ _ _ rfl HO.out _ 1 1 (DB.row ⟨s, p, q, hi, jj, la, dd⟩) rfl rfl (new_cells wb6 (DB.row ⟨s, p, q, hi, jj, la, dd⟩) _) (rows_one _) ?g1 ?g2 HAb.out ?g3)
              case g1 => unfold maxLen; omega
              case g2 => omega
              case g3 =>
                intro v' w7a hown hg hblk
                obtain ⟨A7, c7, rfl⟩ := own_slice hown
                have HP7 := Lib.hid (HA.out.app (by rw [hjl]; exact hown) hg (by simpa using hblk))
                have k57 := (cells8 HP7.out.p).2.2.2.2.2.2.2
                have z57 := (frz7 HP7.out.p).2.2.2.2.2.2.2
                have hn7 := HP7.out.set 7 (.slice A7 (j + 1) c7)
                rw [← HDb.out, ← HRm.out, ← decBs_snoc, ← HKk.out, show ah + 24 * j + 24 = ah + 24 * (j + 1) by omega] at hn7
                have HZ7 := Lib.hid hn7
                clear hn7 hown hg hblk HA HO HAb HN7 p7 q7 b0 b1 b2 b3 b4 b5 b6
                go_wp2_with fail
                go_roundw
                case rel => exact ⟨j + 1, _, bb, _, by omega, by go_num, HZ7.out⟩
                case measure => simp [intOf]; omega
          · have : j = n := by omega
            subst this
            have HEq := Lib.hid (show endE (rawR (ah + 24 * j) B) (rawE (ah + 24 * j) B 0) = er from HRa.out.symm)
            by_cases he : er = 0
            · have hr0 := HRr.out
              rw [if_pos he] at hr0
              subst he
              subst hr0
              go_wp2_with fail
              refine (HSt.out.theEnd HL.out HEq.out).mono ?_
              rintro r w8 ⟨rfl, hp⟩
              have HS8 := Lib.hid hp
              clear hp HSt k0 k1 k2 z0 z1 z2
              obtain ⟨p0, p1, p2, p3, p4, p5, p6, p7⟩ := cells8 HS8.out.p
              obtain ⟨m0, m1, m2, m3, m4, m5, m6, m7⟩ := cells8 HS8.out.res
              obtain ⟨q0, q1, q2, q3, q4, q5, q6, q7⟩ := frz7 HS8.out.res
              go_wp2_with fail
              generalize hW : World.setCell _ _ _ = wf
              obtain ⟨hx, hfx⟩ := objs8 HS8.out.res _ _ _ _ _ _ _ _ wf hW.symm
              clear hW p0 p1 p2 p3 p4 p5 p6 p7 m0 m1 m2 m3 m4 m5 m6 m7 q0 q1 q2 q3 q4 q5 q6 q7
              obtain ⟨m0, m1, m2, m3, m4, m5, m6, m7⟩ := cells8 hx
              have o0 := HS8.out.o0
              have o1 := HS8.out.o1
              have o2 := HS8.out.o2
              have o3 := HS8.out.o3
              refine bodyPost_ret (v := .tuple #[.agg #[.bool rd.sd, .int .u32 (rd.so : Nat), .int .u32 (rd.i0 : Nat), .int .u32 (rd.i1 : Nat), .int .u32 (rd.i2 : Nat), .int .u32 (rd.i3 : Nat), .int .u32 (rd.i4 : Nat), .slice A5 j c5], .int .i64 0]) (by simp [results, Try.results11, go_sem, m0, m1, m2, m3, m4, m5, m6, m7]; try rfl) rfl ?_
              refine HQ.out _ _ ⟨.slice A5 j c5, rfl, ?_, HS8.out.below.trans (hfx.below HS8.out.below.size (fun k (hk : k = rx) => by omega))⟩
              rw [HBl.out]
              exact BlS.frx hjl (by have h := HS8.out.own; rw [hjl] at h; exact h) (fun b hb => (decBs_ok _ _ b hb).1) hfx (fun k hk (hx : k = rx) => by omega)
            · have hr0 := HRr.out
              rw [if_neg he] at hr0
              subst hr0
              have hne : (er != 0) = true := by simp [he]
              clear he HRr HBl
              go_wp2_with fail
              refine (HSt.out.theEnd HL.out HEq.out).mono ?_
              rintro r w8 ⟨rfl, hp⟩
              have HS8 := Lib.hid hp
              clear hp HSt k0 k1 k2 z0 z1 z2
              go_wp2_with fail
              refine (HS8.out.theEnd HL.out HEq.out).mono ?_
              rintro r w9 ⟨rfl, hp⟩
              have HS9 := Lib.hid hp
              clear hp HS8
              obtain ⟨m0, m1, m2, m3, m4, m5, m6, m7⟩ := cells8 HS9.out.res
              obtain ⟨q0, q1, q2, q3, q4, q5, q6, q7⟩ := frz7 HS9.out.res
              go_wp2_with fail
              generalize hW : World.setCell _ _ _ = wf
              obtain ⟨hx, hfx⟩ := objs8 HS9.out.res _ _ _ _ _ _ _ _ wf hW.symm
              clear hW m0 m1 m2 m3 m4 m5 m6 m7 q0 q1 q2 q3 q4 q5 q6 q7
              obtain ⟨m0, m1, m2, m3, m4, m5, m6, m7⟩ := cells8 hx
              refine bodyPost_ret (v := .tuple #[.agg #[.bool false, .int .u32 0, .int .u32 0, .int .u32 0, .int .u32 0, .int .u32 0, .int .u32 0, .slice none 0 0], .int .i64 er]) (by simp [results, Try.results11, go_sem, m0, m1, m2, m3, m4, m5, m6, m7]; try rfl) rfl ?_
              have o0 := HS9.out.o0
              have o1 := HS9.out.o1
              exact HQ.out _ _ ⟨.slice none 0 0, rfl, BlS.nil _, HS9.out.below.trans (hfx.below HS9.out.below.size (fun k (hk : k = rx) => by omega))⟩
    · have he5 := hre1 hy3
      subst he5
      have hr0 := HRr.out
      rw [if_neg (by decide)] at hr0
      subst hr0
      have hy1 : ((y : Int) == 200) = false := by simp; omega
      have hy2 : ((y : Int) == 201) = false := by simp; omega
      have hy4 : ((y : Int) != 200) = true := by simp; omega
      have hy5 : ((y : Int) != 201) = true := by simp; omega
      clear hre0 hre1 hd0 HRr hy3
      obtain ⟨k0, k1, k2, z0, z1, z2⟩ := cells3 HX1.out
      obtain ⟨m0, m1, m2, m3, m4, m5, m6, m7⟩ := cells8 HRx1.out
      obtain ⟨q0, q1, q2, q3, q4, q5, q6, q7⟩ := frz7 HRx1.out
      go_wp2_with fail
      generalize hW : World.setCell _ _ _ = wf
      obtain ⟨hx, hfx⟩ := objs8 HRx1.out _ _ _ _ _ _ _ _ wf hW.symm
      clear hW m0 m1 m2 m3 m4 m5 m6 m7 q0 q1 q2 q3 q4 q5 q6 q7
      obtain ⟨m0, m1, m2, m3, m4, m5, m6, m7⟩ := cells8 hx
      refine bodyPost_ret (v := .tuple #[.agg #[.bool false, .int .u32 0, .int .u32 0, .int .u32 0, .int .u32 0, .int .u32 0, .int .u32 0, .slice none 0 0], .int .i64 5]) (by simp [results, Try.results11, go_sem, m0, m1, m2, m3, m4, m5, m6, m7]; try rfl) rfl ?_
      exact HQ.out _ _ ⟨.slice none 0 0, rfl, BlS.nil _, HB1.out.trans (hfx.below HB1.out.size (fun k (hk : k = rx) => by have := HS1.out; have := HBx.out; omega))⟩
  · have hr' : rightC (n, y, B) = false := by simpa using hr
    have her : rdErr (n, y, B) = 1 := by rw [rdErr, if_neg hr]
    have hrr : readR (n, y, B) = DR.zero := by rw [readR, if_neg (by rw [her]; decide)]
    rw [her, hrr] at HQ
    rw [hr']
    clear hr hr' her hrr
    obtain ⟨m0, m1, m2, m3, m4, m5, m6, m7⟩ := cells8 HRx1.out
    obtain ⟨q0, q1, q2, q3, q4, q5, q6, q7⟩ := frz7 HRx1.out
    go_wp2_with fail
    generalize hW : World.setCell _ _ _ = wf
    obtain ⟨hx, hfx⟩ := objs8 HRx1.out _ _ _ _ _ _ _ _ wf hW.symm
    clear hW m0 m1 m2 m3 m4 m5 m6 m7 q0 q1 q2 q3 q4 q5 q6 q7
    obtain ⟨m0, m1, m2, m3, m4, m5, m6, m7⟩ := cells8 hx
    refine bodyPost_ret (v := .tuple #[.agg #[.bool false, .int .u32 0, .int .u32 0, .int .u32 0, .int .u32 0, .int .u32 0, .int .u32 0, .slice none 0 0], .int .i64 1]) (by simp [results, Try.results11, go_sem, m0, m1, m2, m3, m4, m5, m6, m7]; try rfl) rfl ?_
    exact HQ.out _ _ ⟨.slice none 0 0, rfl, BlS.nil _, HB1.out.trans (hfx.below HB1.out.size (fun k (hk : k = rx) => by have := HS1.out; have := HBx.out; omega))⟩
end Go.Proofs.Ythgajlmhgbhmlaa
