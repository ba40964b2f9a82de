/- The walk of probe.Bytes. -/
import Derived.Test.YthomlikmjgeccaaPbM
import Derived.Deep.DeepCutAuto
import Derived.Deep.CutBlock
namespace Go.Proofs.Ythomlikmjgeccaa
open Go.RowKit

/-- a description's box -/
abbrev DD.obj (d : DD) : Obj := .cells d.cs 23 (0, 0)
/-- a writer, what it wrote, beside an object that stays; nothing that was there is changed -/
structure PW (w0 : World) (bx : Nat) (o : Obj) (B pb : Nat) (l : List UInt8) (w : World) : Prop where
  wr : ∃ ob, Wr B w pb ob l
  box : w.heap[bx]? = some o
  bxB : bx < B
  below : Below w0.heap.size w0 w
  lo : w0.heap.size ≤ B
theorem PW.post {w0 w w' : World} {bx : Nat} {o : Obj} {B pb : Nat} {ob : Option Nat} {l l' : List UInt8} (h : PW w0 bx o B pb l w) (hw : Wr B w pb ob l) (hp : WPost B w pb ob l' w') : PW w0 bx o B pb l' w' := by
  obtain ⟨ob', hw', hf, _⟩ := hp
  have hlt := hw.lt
  have h1 := h.lo
  have h2 := h.bxB
  exact ⟨⟨ob', hw'⟩, hf.heap h.box (fun hk => by have := (hlt _ hk).1; omega), h.bxB, h.below.trans (hf.below h.below.size (fun k hk => by have := (hlt _ hk).1; omega)), h.lo⟩
theorem PW.after {w0 w w' : World} {bx : Nat} {o : Obj} {B pb : Nat} {l : List UInt8} (h : PW w0 bx o B pb l w) (hb : Below w.heap.size w w') : PW w0 bx o B pb l w' := by
  obtain ⟨ob, hw⟩ := h.wr
  exact ⟨⟨ob, hw.fr0 (Fr.of hb)⟩, (Fr.of hb).heap h.box (fun h => h), h.bxB, h.below.trans (hb.mono h.below.size), h.lo⟩
theorem pw_byte {w0 w : World} {bx : Nat} {o : Obj} {B pb : Nat} {l : List UInt8} (h : PW w0 bx o B pb l w) (n : Nat) (hn : n < 256) (hm : l.length ≤ 100) :
    Calls Try.prog 12 #[.pointer (some ⟨pb, 0, none⟩), .int .u8 (n : Nat)] w fun e w' => e = .returned (.tuple #[]) ∧ PW w0 bx o B pb (l ++ bytesL n 1) w' := by
  obtain ⟨ob, hw⟩ := h.wr
  refine (wbyte_any B pb ob l n w hw ⟨by omega, by omega⟩ (by omega)).mono ?_
  rintro e w' ⟨rfl, hp⟩
  rw [Int.toNat_natCast] at hp
  exact ⟨rfl, h.post hw hp⟩
theorem pw_short {w0 w : World} {bx : Nat} {o : Obj} {B pb : Nat} {l : List UInt8} (h : PW w0 bx o B pb l w) (n : Nat) (hn : n < 65536) (hm : l.length ≤ 100) :
    Calls Try.prog 14 #[.pointer (some ⟨pb, 0, none⟩), .int .u16 (n : Nat)] w fun e w' => e = .returned (.tuple #[]) ∧ PW w0 bx o B pb (l ++ bytesL n 2) w' := by
  obtain ⟨ob, hw⟩ := h.wr
  refine (wshort_any B pb ob l n w hw ⟨by omega, by omega⟩ (by omega)).mono ?_
  rintro e w' ⟨rfl, hp⟩
  rw [Int.toNat_natCast] at hp
  exact ⟨rfl, h.post hw hp⟩
/-- what Bytes answers -/
def PbBytesPost (w : World) (d : DD) (e : Ending) (w' : World) : Prop :=
  ∃ v, Below w.heap.size w w' ∧ ((rightD d = false ∧ e = .returned (.tuple #[.slice none 0 0, .int .i64 1])) ∨ (rightD d = true ∧ e = .returned (.tuple #[v, .int .i64 0]) ∧ BSx (fun k => w.heap.size ≤ k) w' v (encD d)))
theorem nine_cells {w : World} {b : Nat} {x0 x1 x2 x3 x4 x5 x6 x7 x8 : Value} {t : TypeId} (h : w.heap[b]? = some (.cells #[x0, x1, x2, x3, x4, x5, x6, x7, x8] t (0, 0))) :
    w.cell? ⟨b, 0, none⟩ = some x0 ∧ w.cell? ⟨b, 1, none⟩ = some x1 ∧ w.cell? ⟨b, 2, none⟩ = some x2 ∧ w.cell? ⟨b, 3, none⟩ = some x3 ∧ w.cell? ⟨b, 4, none⟩ = some x4 ∧
    w.cell? ⟨b, 5, none⟩ = some x5 ∧ w.cell? ⟨b, 6, none⟩ = some x6 ∧ w.cell? ⟨b, 7, none⟩ = some x7 ∧ w.cell? ⟨b, 8, none⟩ = some x8 := by
  have k := obj_cell h
  exact ⟨k 0, k 1, k 2, k 3, k 4, k 5, k 6, k 7, k 8⟩
set_option maxHeartbeats 2000000 in
theorem pbytes_any (d : DD) (w : World) : Calls Try.prog 6 #[d.val] w (PbBytesPost w d) := by
  have hb0 := below_alloc (w := w) (.cells d.cs 23)
  have hx := heap_alloc_new w (.cells d.cs 23)
  have hr := pright_any d (w.alloc (.cells d.cs 23))
  have HR := Lib.hid hr
  refine calls_q fun Q HQ => ?_
  cases hd : rightD d
  · rw [hd] at HR
    have HB := Lib.hid hb0
    have HD := Lib.hid hd
    clear hx hr hb0 hd
    obtain ⟨lo, st, pt, pic, wi, ba, ti, sy, ke⟩ := d
    simp only [DD.val, DD.cs] at *
    go_enter Try.func6, Try.ntmps6
    go_wp2_with fail
    refine HR.out.mono ?_
    rintro e w1 ⟨rfl, hb⟩
    have HB1 := Lib.hid hb
    clear hb
    go_wp2_with fail
    exact HQ.out _ _ ⟨.bool true, HB.out.trans (HB1.out.mono HB.out.size), .inl ⟨HD.out, rfl⟩⟩
  · rw [hd] at HR
    have HD := Lib.hid hd
    have hp := right_p hd
    have HP := Lib.hid hp
    have p0 := hp.pic0; have p1 := hp.pic1; have p2 := hp.pic2; have p3 := hp.wi; have p4 := hp.ba0; have p5 := hp.ba1
    clear hr hd hp
    have SEC := Lib.hid (psecond_any d)
    have FIR := Lib.hid (pfirst_any d HP.out)
    have LAS := Lib.hid (plast_any d HP.out)
    have l1 := f1_lt HP.out; have l2 := f2_lt d; have l3 := f3_lt HP.out
    have hany : decide (0 < f2 d) = anyD d := rfl
    have HF := Lib.hid (fun (v : Value) (w' : World) (h1 : Below w.heap.size w w') (h2 : BSx (fun k => w.heap.size ≤ k) w' v (encD d)) => (show PbBytesPost w d (.returned (.tuple #[v, .int .i64 0])) w' from ⟨v, h1, .inr ⟨HD.out, rfl, h2⟩⟩))
    rw [show encD d = ((((bytesL (f1 d) 1 ++ encS d) ++ encPic d) ++ encB d) ++ encL d) from rfl] at HF
    have hS := Lib.hid (show encS d = if anyD d then bytesL (f2 d) 1 else [] from rfl)
    have hP := Lib.hid (show encPic d = if d.wi then bytesL (32768 + d.pic.toNat) 2 else if told d.pic then bytesL d.pic.toNat 1 else [] from rfl)
    have hB := Lib.hid (show encB d = if told d.ba then bytesL d.ba.toNat 1 else [] from rfl)
    have hL := Lib.hid (show encL d = if told d.ti || told d.ke then bytesL (f3 d) 1 else [] from rfl)
    clear HD HP
    generalize PbBytesPost w d = QP at HQ HF
    generalize f1 d = s1 at *
    generalize f2 d = s2 at *
    generalize f3 d = s3 at *
    generalize anyD d = more at *
    have nS : (encS d).length ≤ 1 := by rw [hS.out]; split <;> simp [bytesL_len]
    have nP : (encPic d).length ≤ 2 := by rw [hP.out]; split <;> (try split) <;> simp [bytesL_len]
    have nB : (encB d).length ≤ 1 := by rw [hB.out]; split <;> simp [bytesL_len]
    generalize encS d = sS at *
    generalize encPic d = sP at *
    generalize encB d = sB at *
    generalize encL d = sL at *
    have hwr8a := wrap8 l1
    have hw8 := fun n : Nat => wrap8 (n := n)
    obtain ⟨lo, st, pt, pic, wi, ba, ti, sy, ke⟩ := d
    simp only [DD.val, DD.cs] at *
    have HX := Lib.hid hx
    have HB0 := Lib.hid hb0
    clear hx hb0 hw8
    go_enter Try.func6, Try.ntmps6
    go_wp2_with fail
    refine HR.out.mono ?_
    rintro e w1 ⟨rfl, hb⟩
    have hx1 := (Fr.of hb).heap HX.out (fun h => h)
    have hb1 := HB0.out.trans (hb.mono HB0.out.size)
    have hlt1 := obj_lt hx1
    have hpw : PW w w.heap.size (.cells #[.bool lo, .bool st, .int .u8 (pt : Nat), .int .i64 pic, .bool wi, .int .i64 ba, .int .i64 ti, .bool sy, .int .i64 ke] 23 (0, 0)) w1.heap.size w1.heap.size [] (w1.alloc (.cells #[.slice none 0 0] 36)) :=
      ⟨⟨_, wr_new w1⟩, (Fr.alloc w1 _).heap hx1 (fun h => h), hlt1, hb1.trans (below_alloc _ |>.mono hb1.size), hb1.size⟩
    clear HR HX HB0 hb hx1 hb1 hlt1
    have HW := Lib.hid hpw
    obtain ⟨y0, y1, y2, y3, y4, y5, y6, y7, y8⟩ := nine_cells hpw.box
    clear hpw
    go_upto_region 4 with fail
    generalize w1.alloc _ = w2 at *
    generalize w1.heap.size = pb at *
    go_wp2_with fail
    refine (SEC.out _).mono ?_
    rintro e w3 ⟨rfl, hb⟩
    have h := HW.out.after hb
    clear hb
    clear HW y0 y1 y2 y3 y4 y5 y6 y7 y8
    have HW := Lib.hid h
    obtain ⟨y0, y1, y2, y3, y4, y5, y6, y7, y8⟩ := nine_cells h.box
    clear h
    go_wp2_with fail
    refine (FIR.out _).mono ?_
    rintro e w4 ⟨rfl, hb⟩
    have h := HW.out.after hb
    clear hb
    clear HW y0 y1 y2 y3 y4 y5 y6 y7 y8
    have HW := Lib.hid h
    obtain ⟨y0, y1, y2, y3, y4, y5, y6, y7, y8⟩ := nine_cells h.box
    clear h
    go_wp2_with fail
    refine (pw_byte HW.out s1 l1 (by simp)).mono ?_
    rintro e w5 ⟨rfl, h⟩
    clear HW y0 y1 y2 y3 y4 y5 y6 y7 y8
    have HW := Lib.hid h
    obtain ⟨y0, y1, y2, y3, y4, y5, y6, y7, y8⟩ := nine_cells h.box
    clear h
    go_upto_if 17 with fail
    go_cut [] (fun wx => PW w w.heap.size (.cells #[.bool lo, .bool st, .int .u8 (pt : Nat), .int .i64 pic, .bool wi, .int .i64 ba, .int .i64 ti, .bool sy, .int .i64 ke] 23 (0, 0)) pb pb (bytesL s1 1 ++ sS) wx)
    case first =>
      cases more
      · go_wp2_with fail
        go_meet
        case rel =>
          have h := HW.out
          have e := hS.out
          simp only [Bool.false_eq_true, if_false] at e
          rw [e, List.append_nil]
          exact h
      · go_wp2_with fail
        refine (pw_byte HW.out s2 l2 (by simp [bytesL_len])).mono ?_
        rintro e w6 ⟨rfl, h⟩
        have H6 := Lib.hid h
        clear h
        go_wp2_with fail
        go_meet
        case rel =>
          have e := hS.out
          simp only [if_true] at e
          rw [e]
          exact H6.out
    case rest =>
      clear HW y0 y1 y2 y3 y4 y5 y6 y7 y8
      have HW := Lib.hid hcut
      obtain ⟨y0, y1, y2, y3, y4, y5, y6, y7, y8⟩ := nine_cells hcut.box
      clear hcut
      go_upto_block 0 with fail
      go_cut [] (fun wx => PW w w.heap.size (.cells #[.bool lo, .bool st, .int .u8 (pt : Nat), .int .i64 pic, .bool wi, .int .i64 ba, .int .i64 ti, .bool sy, .int .i64 ke] 23 (0, 0)) pb pb ((bytesL s1 1 ++ sS) ++ sP) wx)
      case first =>
        cases wi
        · cases ht : told pic
          · have hne : (pic != -1) = false := ht
            go_wp2_with fail
            go_meet
            case rel =>
              have e := hP.out
              simp only [ht, Bool.false_eq_true, if_false] at e
              rw [e, List.append_nil]
              exact HW.out
          · have hne : (pic != -1) = true := ht
            have hn := told_n ht p0
            have h7 := p2 rfl
            have hw8 : IntKind.u8.wrap pic = (pic.toNat : Nat) := by rw [wrap_u8]; omega
            have hlt : pic.toNat < 256 := by omega
            clear hn
            generalize pic.toNat = x at *
            go_wp2_with fail
            refine (pw_byte HW.out x hlt (by simp [bytesL_len]; omega)).mono ?_
            rintro e w6 ⟨rfl, h⟩
            have H6 := Lib.hid h
            clear h
            go_wp2_with fail
            go_meet
            case rel =>
              have e := hP.out
              simp only [ht, Bool.false_eq_true, if_false, if_true] at e
              rw [e]
              exact H6.out
        · have hne := p3 rfl
          have k1 : IntKind.i64.wrap (32768 + pic) = 32768 + pic := by simp [IntKind.wrap, IntKind.bits, IntKind.signed]; omega
          have k2 : IntKind.u16.wrap (32768 + pic) = (32768 + pic.toNat : Nat) := by rw [wrap_u16]; omega
          have hlt : 32768 + pic.toNat < 65536 := by omega
          clear p0 p1 p2 p3 hne
          generalize 32768 + pic.toNat = x at *
          go_wp2_with fail
          refine (pw_short HW.out x hlt (by simp [bytesL_len]; omega)).mono ?_
          rintro e w6 ⟨rfl, h⟩
          have H6 := Lib.hid h
          clear h
          go_wp2_with fail
          go_meet
          case rel =>
            have e := hP.out
            simp only [if_true] at e
            rw [e]
            exact H6.out
      case rest =>
        clear p0 p1 p2 p3
        clear HW y0 y1 y2 y3 y4 y5 y6 y7 y8
        have HW := Lib.hid hcut
        obtain ⟨y0, y1, y2, y3, y4, y5, y6, y7, y8⟩ := nine_cells hcut.box
        clear hcut
        go_upto_if 38 with fail
        go_cut [] (fun wx => PW w w.heap.size (.cells #[.bool lo, .bool st, .int .u8 (pt : Nat), .int .i64 pic, .bool wi, .int .i64 ba, .int .i64 ti, .bool sy, .int .i64 ke] 23 (0, 0)) pb pb (((bytesL s1 1 ++ sS) ++ sP) ++ sB) wx)
        case first =>
          cases ht : told ba
          · have hne : (ba != -1) = false := ht
            go_wp2_with fail
            go_meet
            case rel =>
              have e := hB.out
              simp only [ht, Bool.false_eq_true, if_false] at e
              rw [e, List.append_nil]
              exact HW.out
          · have hne : (ba != -1) = true := ht
            have hn := told_n ht p4
            have hw8 : IntKind.u8.wrap ba = (ba.toNat : Nat) := by rw [wrap_u8]; omega
            have hlt : ba.toNat < 256 := by omega
            clear hn
            generalize ba.toNat = x at *
            go_wp2_with fail
            refine (pw_byte HW.out x hlt (by simp [bytesL_len]; omega)).mono ?_
            rintro e w6 ⟨rfl, h⟩
            have H6 := Lib.hid h
            clear h
            go_wp2_with fail
            go_meet
            case rel =>
              have e := hB.out
              simp only [ht, if_true] at e
              rw [e]
              exact H6.out
        case rest =>
          clear p4 p5
          clear HW y0 y1 y2 y3 y4 y5 y6 y7 y8
          have HW := Lib.hid hcut
          obtain ⟨y0, y1, y2, y3, y4, y5, y6, y7, y8⟩ := nine_cells hcut.box
          clear hcut
          cases ht : told ti <;> cases hk : told ke
          · have hne1 : (ti != -1) = false := ht
            have hne2 : (ke != -1) = false := hk
            go_wp2_with fail
            have e := hL.out
            simp only [ht, hk, Bool.false_eq_true, if_false, Bool.or_false] at e
            obtain ⟨ob, hwr⟩ := HW.out.wr
            refine (wbytes_any _ _ _ _ _ hwr (by simp [bytesL_len]; omega)).mono ?_
            rintro r w7 ⟨v, rfl, hv, hb⟩
            have hF := HF.out v w7 (HW.out.below.trans (hb.mono HW.out.below.size)) (by rw [e, List.append_nil]; exact (own_bsx hv).mono (fun k _ hk => Nat.le_trans HW.out.below.size hk))
            obtain ⟨A, c, rfl⟩ := own_slice hv
            clear hv hb hwr
            generalize ((((bytesL s1 1 ++ sS) ++ sP) ++ sB)).length = nn at hF ⊢
            have H8 := Lib.hid hF
            clear hF
            go_wp2_with fail
            exact HQ.out _ _ H8.out
          all_goals (
            first
              | (have hne1 : (ti != -1) = false := ht; have hne2 : (ke != -1) = true := hk)
              | (have hne1 : (ti != -1) = true := ht)
            go_wp2_with fail
            refine (LAS.out _).mono ?_
            rintro e w6 ⟨rfl, hb⟩
            have h := HW.out.after hb
            clear HW y0 y1 y2 y3 y4 y5 y6 y7 y8 hb
            have HW := Lib.hid h
            obtain ⟨y0, y1, y2, y3, y4, y5, y6, y7, y8⟩ := nine_cells h.box
            clear h
            go_wp2_with fail
            refine (pw_byte HW.out s3 l3 (by simp [bytesL_len]; omega)).mono ?_
            rintro e w7 ⟨rfl, h⟩
            clear HW y0 y1 y2 y3 y4 y5 y6 y7 y8
            have HW := Lib.hid h
            clear h
            go_wp2_with fail
            have e := hL.out
            simp only [ht, hk, Bool.or_true, Bool.or_false, if_true] at e
            obtain ⟨ob, hwr⟩ := HW.out.wr
            refine (wbytes_any _ _ _ _ _ hwr (by simp [bytesL_len]; omega)).mono ?_
            rintro r w8 ⟨v, rfl, hv, hb⟩
            have hF := HF.out v w8 (HW.out.below.trans (hb.mono HW.out.below.size)) (by rw [e]; exact (own_bsx hv).mono (fun k _ hk => Nat.le_trans HW.out.below.size hk))
            obtain ⟨A, c, rfl⟩ := own_slice hv
            clear hv hb hwr
            generalize ((((bytesL s1 1 ++ sS) ++ sP) ++ sB) ++ bytesL s3 1).length = nn at hF ⊢
            have H8 := Lib.hid hF
            clear hF
            go_wp2_with fail
            exact HQ.out _ _ H8.out)
end Go.Proofs.Ythomlikmjgeccaa
