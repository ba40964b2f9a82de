/- Laid together: Base, Mem, App, Val, Fr, Rows8, RowK, BBytes, Ck. -/
import Derived.Test.YtphofpemblindaaRows
import Derived.WalkKit
import Derived.WalkSpells
import Derived.WalkLawsBesides
import Derived.BigQuiet
import Derived.Deep.QuietTactic
import Derived.Lib.Hide
import Derived.Below
import Derived.Deep.Draws
import Derived.Maps.AppendAt
import Derived.OwnWalk
import Derived.ProofKit
import Derived.OpenShut
import Derived.ChangeOld
import Derived.Deep.Slices
import Derived.Deep.Fields
import Derived.ChangeSame
/- Plain lemmas under all walks: a contract's post kept out of the walk's reach, numbers of 64 bits and their bits. -/
namespace Go.Proofs.Ytphofpemblindaa
open Go.RowKit
theorem calls_q {P : Program} {f : FuncId} {args : Array Value} {w : World} {R : Ending → World → Prop}
    (h : ∀ Q : Ending → World → Prop, Hid (∀ e w', R e w' → Q e w') → Calls P f args w Q) : Calls P f args w R :=
  h R (Lib.hid fun _ _ h => h)
theorem ret_int {k : IntKind} {a b : Int} (h : a = b) : Ending.returned (.int k a) = .returned (.int k b) := by rw [h]
theorem ret_bool {a b : Bool} (h : a = b) : Ending.returned (.bool a) = .returned (.bool b) := by rw [h]
theorem wrap_u64 (n : Int) : IntKind.u64.wrap n = n % 18446744073709551616 := by simp [IntKind.wrap, IntKind.bits, IntKind.signed]
/-- a number of 64 bits, closed to the walk -/
structure U64 (n : Int) : Prop where
  lo : 0 ≤ n
  hi : n < 18446744073709551616
theorem u64_id {n : Int} (h : U64 n) : IntKind.u64.wrap n = n := by
  have := h.lo; have := h.hi
  rw [wrap_u64]; omega
theorem wrap_u8 (n : Int) : IntKind.u8.wrap n = n % 256 := by simp [IntKind.wrap, IntKind.bits, IntKind.signed]
theorem wrap_u16 (n : Int) : IntKind.u16.wrap n = n % 65536 := by simp [IntKind.wrap, IntKind.bits, IntKind.signed]
theorem wrap_u32 (n : Int) : IntKind.u32.wrap n = n % 4294967296 := by simp [IntKind.wrap, IntKind.bits, IntKind.signed]
theorem natpow_cast (s : Nat) : ((2:Int) ^ s) = ((2 ^ s : Nat) : Int) := by simp
theorem pow_le_64 {s : Nat} (h : s ≤ 64) : (2:Nat) ^ s ≤ 18446744073709551616 := by
  have : (2:Nat) ^ s ≤ 2 ^ 64 := Nat.pow_le_pow_right (by decide) h
  omega
theorem pow_le_63 {s : Nat} (h : s ≤ 63) : (2:Nat) ^ s ≤ 9223372036854775808 := by
  have : (2:Nat) ^ s ≤ 2 ^ 63 := Nat.pow_le_pow_right (by decide) h
  omega
theorem bit_hi {n i : Nat} (h : n < 18446744073709551616) (hi : 64 ≤ i) : n.testBit i = false := by
  have : (2:Nat) ^ 64 ≤ 2 ^ i := Nat.pow_le_pow_right (by decide) hi
  exact Nat.testBit_lt_two_pow (by omega)
theorem ofInt_u64 (a : Nat) : (BitVec.ofInt 64 (a : Int)) = BitVec.ofNat 64 a := by rw [BitVec.ofInt_natCast]
theorem tb_u64 (x : BitVec 64) (i : Nat) : x.toNat.testBit i = x.getLsbD i := by simp [BitVec.testBit_toNat]
theorem u64_and_nat (a b : Nat) (ha : a < 18446744073709551616) : bits .and .u64 (a : Int) (b : Int) = ((a &&& b : Nat) : Int) := by
  have hx : a &&& b < 18446744073709551616 := Nat.lt_of_le_of_lt Nat.and_le_left ha
  show IntKind.u64.wrap ((BitVec.ofInt 64 (a : Int) &&& BitVec.ofInt 64 (b : Int)).toNat : Int) = _
  rw [ofInt_u64, ofInt_u64, wrap_u64]
  have e : (BitVec.ofNat 64 a &&& BitVec.ofNat 64 b).toNat = a &&& b := by
    apply Nat.eq_of_testBit_eq; intro i
    rw [tb_u64]
    simp only [BitVec.getLsbD_and, BitVec.getLsbD_ofNat, Nat.testBit_and]
    by_cases hi : i < 64
    · simp [hi]
    · have : a.testBit i = false := bit_hi ha (by omega)
      simp [hi, this]
  rw [e]; omega
theorem u64_or_nat (a b : Nat) (ha : a < 18446744073709551616) (hb : b < 18446744073709551616) : bits .or .u64 (a : Int) (b : Int) = ((a ||| b : Nat) : Int) := by
  have hx : a ||| b < 2 ^ 64 := Nat.or_lt_two_pow (by omega) (by omega)
  show IntKind.u64.wrap ((BitVec.ofInt 64 (a : Int) ||| BitVec.ofInt 64 (b : Int)).toNat : Int) = _
  rw [ofInt_u64, ofInt_u64, wrap_u64, BitVec.toNat_or, BitVec.toNat_ofNat, BitVec.toNat_ofNat, Nat.mod_eq_of_lt (by omega), Nat.mod_eq_of_lt (by omega)]
  omega
/-- and-not of 64 bits -/
def andNotN (a b : Nat) : Nat := (BitVec.ofNat 64 a &&& ~~~ BitVec.ofNat 64 b).toNat
theorem u64_andNot_nat (a b : Nat) : bits .andNot .u64 (a : Int) (b : Int) = ((andNotN a b : Nat) : Int) := by
  show IntKind.u64.wrap ((BitVec.ofInt 64 (a : Int) &&& ~~~ BitVec.ofInt 64 (b : Int)).toNat : Int) = _
  rw [ofInt_u64, ofInt_u64, wrap_u64]
  have := (BitVec.ofNat 64 a &&& ~~~ BitVec.ofNat 64 b).isLt
  show _ = (((BitVec.ofNat 64 a &&& ~~~ BitVec.ofNat 64 b).toNat : Nat) : Int)
  omega
theorem andNotN_lt (a b : Nat) : andNotN a b < 18446744073709551616 := (BitVec.ofNat 64 a &&& ~~~ BitVec.ofNat 64 b).isLt
theorem andNotN_bit (a b i : Nat) : (andNotN a b).testBit i = (decide (i < 64) && a.testBit i && !b.testBit i) := by
  unfold andNotN
  rw [tb_u64]
  simp only [BitVec.getLsbD_and, BitVec.getLsbD_ofNat, BitVec.getLsbD_not]
  by_cases hi : i < 64 <;> simp [hi]
end Go.Proofs.Ytphofpemblindaa
/- Slices of bytes as lists, and what becomes of them when the world grows. -/
namespace Go.Proofs.Ytphofpemblindaa
open Go.RowKit

theorem below_drewN {B : Nat} {a w : World} (h : Below B a w) (n : Nat) : Below B a (w.drewN n) := ⟨h.os, h.tape, h.output, h.size, h.block⟩
/-- the cells from a place on are these bytes -/
def Row8 (w : World) (A : Option Addr) (l : List UInt8) : Prop :=
  0 < l.length → ∃ b o, A = some ⟨b, o, none⟩ ∧ b < w.heap.size ∧ ∀ j (h : j < l.length), w.cell? ⟨b, o + j, none⟩ = some (.int .u8 (l[j].toNat : Nat))
/-- a slice of bytes reads as a list -/
def BS (w : World) (v : Value) (l : List UInt8) : Prop :=
  ∃ A c, v = .slice A l.length c ∧ l.length ≤ c ∧ c ≤ maxLen ∧ Row8 w A l
theorem Row8.below {w w' : World} {A : Option Addr} {l : List UInt8} (h : Row8 w A l) {B : Nat} (hB : w.heap.size ≤ B) (hb : Below B w w') : Row8 w' A l := fun hp => by
  obtain ⟨b, o, rfl, hlt, hc⟩ := h hp
  exact ⟨b, o, rfl, Nat.lt_of_lt_of_le hlt hb.size, fun j hj => (hb.cell (p := ⟨b, o + j, none⟩) (by show b < B; omega)).trans (hc j hj)⟩
theorem BS.below {w w' : World} {v : Value} {l : List UInt8} (h : BS w v l) (hb : Below w.heap.size w w') : BS w' v l := by
  obtain ⟨A, c, rfl, h1, h2, h3⟩ := h
  exact ⟨A, c, rfl, h1, h2, h3.below (Nat.le_refl _) hb⟩
theorem BS.drewN {w : World} {v : Value} {l : List UInt8} (h : BS w v l) (n : Nat) : BS (w.drewN n) v l := h
theorem BS.nil (w : World) : BS w (.slice none 0 0) [] := ⟨none, 0, rfl, Nat.le_refl _, Nat.zero_le _, fun h => absurd h (by simp)⟩
theorem Row8.drop {w : World} {A : Option Addr} {l : List UInt8} (h : Row8 w A l) (k : Nat) : Row8 w (A.map (fun x => x.add k)) (l.drop k) := fun hp => by
  have hlen : (l.drop k).length = l.length - k := by simp
  obtain ⟨b, o, rfl, hlt, hc⟩ := h (by omega)
  refine ⟨b, o + k, ?_, hlt, fun j hj => ?_⟩
  · simp only [Option.map_some, Addr.add]
    by_cases h0 : k = 0
    · simp [h0]
    · simp [h0]
  · rw [List.getElem_drop, Nat.add_assoc]
    exact hc (k + j) (by omega)
theorem BS.len {w : World} {v : Value} {l : List UInt8} (h : BS w v l) : l.length ≤ 9223372036854775807 := by
  obtain ⟨A, c, rfl, h1, h2, h3⟩ := h
  unfold maxLen at h2; omega

theorem run_make1 {P : Program} {t e : TypeId} {z : Value} {bytes : Nat} (ht : P.underlying t = some (.slice e)) (hi : (P.info? e).map (fun i => (i.zero, i.size, i.bytes)) = some (some z, 1, bytes))
    (hz : z.cells = #[z]) (n c : Nat) (hnc : n ≤ c) (hb : bytes * c ≤ 281474976710656) (h63 : c ≤ 9223372036854775807) (w : World) :
    (Instr.makeSlice t (.int .i64 (n : Int)) (.int .i64 (c : Int))).run P w = .ok (.slice (some ⟨w.heap.size, 0, none⟩) n c) (w.alloc (.cells (Array.replicate c z) e)) := by
  obtain ⟨i, hi, hz0, hs, hby⟩ := info_parts hi
  have hb' : (i.bytes : Int) * (c : Int) ≤ 281474976710656 := by
    rw [hby, ← Int.natCast_mul]; omega
  have h := run_make (P := P) w t e i z ht hi hz0 .i64 .i64 n c (by omega) (by omega) hb' (by omega)
  rw [h, hs, hz]
  have e1 : madeCells #[z] (c * 1) = Array.replicate c z := by
    apply Array.ext
    · simp [madeCells]
    · intro k h1 h2
      simp [madeCells]
      have : k % 1 = 0 := Nat.mod_one k
      simp [this]
  simp only [Int.toNat_natCast]
  rw [e1]
/-- a block of bytes just made -/
theorem BS.made (w : World) (cs : Array Value) (l : List UInt8) (t : TypeId) (hm : l.length ≤ maxLen)
    (h : ∀ i (hi : i < l.length), cs[i]? = some (.int .u8 (l[i].toNat : Nat))) : BS (w.alloc (.cells cs t)) (.slice (some ⟨w.heap.size, 0, none⟩) l.length l.length) l := by
  refine ⟨_, _, rfl, Nat.le_refl _, hm, fun hp => ⟨w.heap.size, 0, rfl, by simp, fun j hj => ?_⟩⟩
  rw [cell_of_row _ w.heap.size (0 + j) cs t (0, 0) (heap_alloc_new w _), Nat.zero_add]
  exact h j hj
/-- the number whose bytes these are, the highest first -/
def beN (l : List UInt8) : Nat := l.foldl (fun n x => n * 256 + x.toNat) 0
theorem beN_nil : beN [] = 0 := rfl
theorem beN_snoc (l : List UInt8) (x : UInt8) : beN (l ++ [x]) = beN l * 256 + x.toNat := by simp [beN]
theorem take_snoc8 (l : List UInt8) (k : Nat) (h : k < l.length) : l.take (k + 1) = l.take k ++ [l[k]] := by
  rw [List.take_succ_eq_append_getElem h]
theorem beN_take (l : List UInt8) (k : Nat) (h : k < l.length) : beN (l.take (k + 1)) = beN (l.take k) * 256 + l[k].toNat := by
  rw [take_snoc8 l k h, beN_snoc]
theorem beN_append (a b : List UInt8) : beN (a ++ b) = beN a * 256 ^ b.length + beN b := by
  have h : ∀ (b : List UInt8) (a : List UInt8), beN (a ++ b) = beN a * 256 ^ b.length + beN b := by
    intro b
    induction b with
    | nil => intro a; simp [beN]
    | cons x xs ih =>
      intro a
      have h1 := ih (a ++ [x])
      have h2 := ih [x]
      simp only [List.append_assoc, List.cons_append, List.nil_append] at h1 h2
      rw [h1, h2, beN_snoc, List.length_cons, Nat.pow_succ]
      have h3 : beN [x] = x.toNat := by simp [beN]
      rw [h3, Nat.add_mul, Nat.mul_assoc, Nat.mul_comm 256, Nat.add_assoc]
  exact h b a
theorem beN_lt (l : List UInt8) : beN l < 256 ^ l.length := by
  induction l with
  | nil => decide
  | cons x xs ih =>
    have h := beN_append [x] xs
    simp only [List.cons_append, List.nil_append] at h
    rw [h, List.length_cons, Nat.pow_succ]
    have h3 : beN [x] = x.toNat := by simp [beN]
    have h4 := UInt8.toNat_lt x
    rw [h3]
    have h5 : x.toNat * 256 ^ xs.length ≤ 255 * 256 ^ xs.length := Nat.mul_le_mul_right _ (by omega)
    omega
end Go.Proofs.Ytphofpemblindaa
/- append, onto a row of the call's own, of what any slice holds (nil too): elements of one cell. -/
namespace Go.Proofs.Ytphofpemblindaa
open Go.RowKit

/-- what is appended: so many cells, from a place on -/
def Src (w : World) (A : Option Addr) (m : Nat) (xs : List Value) : Prop :=
  xs.length = m ∧ (0 < m → ∃ ad, A = some ad ∧ ∀ j u, xs[j]? = some u → w.cell? (ad.add j) = some u)
/-- bytes as cells -/
def c8 (l : List UInt8) : List Value := l.map fun b => .int .u8 (b.toNat : Nat)
theorem c8_len (l : List UInt8) : (c8 l).length = l.length := by simp [c8]
theorem c8_app (a b : List UInt8) : c8 (a ++ b) = c8 a ++ c8 b := by simp [c8]
theorem c8_one (l : List UInt8) : ∀ u ∈ c8 l, u.oneCell' = true := by
  intro u hu
  simp only [c8, List.mem_map] at hu
  obtain ⟨b, _, rfl⟩ := hu
  rfl
theorem Row8.src {w : World} {A : Option Addr} {l : List UInt8} (h : Row8 w A l) : Src w A l.length (c8 l) := by
  refine ⟨c8_len l, fun hp => ?_⟩
  obtain ⟨b, o, rfl, _, hc⟩ := h hp
  refine ⟨_, rfl, fun j u hu => ?_⟩
  have hj : j < l.length := by
    rcases Nat.lt_or_ge j l.length with h1 | h1
    · exact h1
    · rw [List.getElem?_eq_none (by rw [c8_len]; exact h1)] at hu; cases hu
  have e : (⟨b, o, none⟩ : Addr).add j = ⟨b, o + j, none⟩ := by
    unfold Addr.add; split
    · next h0 => subst h0; rfl
    · rfl
  rw [e, hc j hj, ← hu]
  simp [c8, List.getElem?_map, List.getElem?_eq_getElem hj]
section
variable {P : Program} {w : World}
theorem run_app (base : Nat) (t ty e : TypeId) (z : Value) (bytes : Nat) (ht : P.underlying t = some (.slice e)) (hi : (P.info? e).map (fun i => (i.zero, i.size, i.bytes)) = some (some z, 1, bytes))
    (hz : z.cells.size = 1) (v : Value) (n : Nat) (xs : List Value) (hown : w.ownsRow base e 1 v n xs) (A : Option Addr) (m c : Nat) (news : List Value) (hs : Src w A m news)
    (h1 : ∀ u ∈ news, u.oneCell' = true) (h63 : n + m ≤ maxLen) (hb : (n + m) * bytes ≤ 140737488355328) (hbase : base ≤ w.heap.size) :
    ∃ v' w', (Builtin.append_ #[t, t] ty #[v, .slice A m c]).run P w = .ok v' w' ∧ w'.ownsRow base e 1 v' (n + m) (xs ++ news) ∧ w.grownBy w' v.ownBlock ∧ (v'.ownBlock = v.ownBlock ∨ v'.ownBlock = some w.heap.size) := by
  obtain ⟨i, hi, hz0, hsz, hby⟩ := info_parts hi
  by_cases hm : m = 0
  · subst hm
    obtain rfl : news = [] := List.eq_nil_of_length_eq_zero hs.1
    cases A with
    | none =>
      refine ⟨v, w, ?_, by simpa using hown, World.grownBy.refl w _, .inl rfl⟩
      rcases hown.2 with ⟨rfl, _⟩ | ⟨g, cap, cur, rfl, _, _, hnc, _⟩
      · simp [Builtin.append_, run_underlying ht, sizeOf, typeInfo, hi, Builtin.lenOf, Builtin.firstCells]
      · simp [Builtin.append_, run_underlying ht, sizeOf, typeInfo, hi, Builtin.lenOf, Builtin.firstCells, hnc, storeCells]
    | some ad =>
      obtain ⟨v', w', hr, ho, hg, _, hk⟩ := run_append_own_at (P := P) w base t ty e i z 1 bytes ht hi hz0 hsz hby hz (by decide) v n xs hown ad 0 c [] (by simp) (by simp) h1 h63 hb hbase
      exact ⟨v', w', hr, ho, hg, hk⟩
  · obtain ⟨ad, rfl, hc⟩ := hs.2 (by omega)
    obtain ⟨v', w', hr, ho, hg, _, hk⟩ := run_append_own_at (P := P) w base t ty e i z 1 bytes ht hi hz0 hsz hby hz (by decide) v n xs hown ad m c news (by rw [hs.1]; omega) hc h1 h63 hb hbase
    exact ⟨v', w', hr, ho, hg, hk⟩
theorem wpl_app {ops : Array Oper} {rest : List Oper} {o : Oper} {a : Act} {Q : Exit → Act → World → Prop} (hgd : o.guard = none) (s x : Operand) (t : TypeId)
    (ho : o.op = .call { callee := .builtin .append, args := #[s, x], argTypes := #[t, t] })
    (base : Nat) (e : TypeId) (z : Value) (bytes : Nat) (ht : P.underlying t = some (.slice e)) (hi : (P.info? e).map (fun i => (i.zero, i.size, i.bytes)) = some (some z, 1, bytes))
    (hz : z.cells.size = 1) (v : Value) (n : Nat) (xs : List Value) (hs : a.eval s = v) (hown : w.ownsRow base e 1 v n xs) (A : Option Addr) (m c : Nat) (news : List Value) (hx : a.eval x = .slice A m c)
    (hsrc : Src w A m news) (h1 : ∀ u ∈ news, u.oneCell' = true) (h63 : n + m ≤ maxLen) (hb : (n + m) * bytes ≤ 140737488355328) (hbase : base ≤ w.heap.size)
    (h : ∀ v' w', w'.ownsRow base e 1 v' (n + m) (xs ++ news) → w.grownBy w' v.ownBlock → (v'.ownBlock = v.ownBlock ∨ v'.ownBlock = some w.heap.size) → wpList P ops Q rest (a.put o.dst v') w') :
    wpList P ops Q (o :: rest) a w := by
  obtain ⟨v', w', hr, h2, h3, h4⟩ := run_app (P := P) base t o.type e z bytes ht hi hz v n xs hown A m c news hsrc h1 h63 hb hbase
  refine wpList_plain hgd fun K hK => ?_
  unfold Oper.wp execOp
  simp only [ho, resolve, invoke, builtin, Sem.run_bind, Sem.run_pure, Result.andThen_ok, List.map_toArray, List.map_cons, List.map_nil, hs, hx, hr]
  exact hK _ _ (h v' w' h2 h3 h4)
end
/-- a row of the call's own, as a slice of bytes -/
theorem own_bs {w : World} {base : Nat} {e : TypeId} {v : Value} {n : Nat} {l : List UInt8} (h : w.ownsRow base e 1 v n (c8 l)) : BS w v l := by
  obtain ⟨hl, h⟩ := h
  rw [c8_len] at hl
  obtain rfl : n = l.length := by omega
  rcases h with ⟨rfl, h0⟩ | ⟨g, cap, cur, rfl, hg, hh, hn, hm, hs, ht⟩
  · have : l = [] := List.eq_nil_of_length_eq_zero h0
    subst this
    exact BS.nil w
  · refine ⟨_, _, rfl, hn, hm, fun hp => ⟨g, 0, rfl, ?_, fun j hj => ?_⟩⟩
    · rcases Nat.lt_or_ge g w.heap.size with h1 | h1
      · exact h1
      · rw [Array.getElem?_eq_none h1] at hh; cases hh
    · rw [cell_of_row w g (0 + j) cur e (0, 0) hh, Nat.zero_add]
      have h1 : (c8 l)[j]? = some (.int .u8 (l[j].toNat : Nat)) := by simp [c8, List.getElem?_map, List.getElem?_eq_getElem hj]
      rw [← ht, Nat.mul_one, List.getElem?_take, if_pos hj] at h1
      simpa using h1
theorem own_new (w : World) (base : Nat) (e : TypeId) (u : Value) (h : base ≤ w.heap.size) : (w.alloc (.cells #[u] e)).ownsRow base e 1 (.slice (some ⟨w.heap.size, 0, none⟩) 1 1) 1 [u] :=
  ⟨rfl, .inr ⟨w.heap.size, 1, #[u], rfl, h, heap_alloc_new w _, Nat.le_refl _, (by unfold maxLen; omega), rfl, rfl⟩⟩
theorem own_empty (w : World) (base : Nat) (e : TypeId) (h : base ≤ w.heap.size) : (w.alloc (.cells #[] e)).ownsRow base e 1 (.slice (some ⟨w.heap.size, 0, none⟩) 0 0) 0 [] :=
  ⟨rfl, .inr ⟨w.heap.size, 0, #[], rfl, h, heap_alloc_new w _, Nat.le_refl _, (by unfold maxLen; omega), rfl, rfl⟩⟩
theorem own_src {w : World} {base : Nat} {e : TypeId} {A : Option Addr} {n c : Nat} {l : List UInt8} (h : w.ownsRow base e 1 (.slice A n c) n (c8 l)) : Row8 w A l ∧ n = l.length := by
  have hl := h.1
  rw [c8_len] at hl
  obtain ⟨A', c', he, _, _, hr⟩ := own_bs h
  injection he with h1 h2 h3
  subst h1
  exact ⟨hr, by omega⟩
theorem src_of {w : World} {A : Option Addr} {l : List UInt8} {m : Nat} (hl : l.length = m) (h : Row8 w A l) : Src w A m (c8 l) := by
  subst hl; exact h.src
theorem own_slice {w : World} {base : Nat} {e : TypeId} {size : Nat} {v : Value} {n : Nat} {xs : List Value} (h : w.ownsRow base e size v n xs) : ∃ A c, v = .slice A n c := by
  rcases h.2 with ⟨rfl, rfl⟩ | ⟨g, cap, cur, rfl, _⟩
  · exact ⟨_, _, rfl⟩
  · exact ⟨_, _, rfl⟩
theorem below_alloc {w : World} (o : Obj) : Below w.heap.size w (w.alloc o) := (Below.refl _ _).alloc (Nat.le_refl _) o
/-- a literal list of bytes, just made -/
theorem BS.lit (w : World) (l : List UInt8) (t : TypeId) (hm : l.length ≤ maxLen) : BS (w.alloc (.cells (c8 l).toArray t)) (.slice (some ⟨w.heap.size, 0, none⟩) l.length l.length) l :=
  BS.made w _ l t hm (fun i hi => by simp [c8, List.getElem?_eq_getElem hi])
end Go.Proofs.Ytphofpemblindaa
/- Slices of one-cell elements as lists of values; slices of numbers that come in. -/
namespace Go.Proofs.Ytphofpemblindaa
open Go.ChangeShapes Go.WideShapes Go.ChangeAt Go.RowKit

/-- the cells from a place on are these values -/
def RowV (w : World) (A : Option Addr) (l : List Value) : Prop :=
  0 < l.length → ∃ b o, A = some ⟨b, o, none⟩ ∧ b < w.heap.size ∧ ∀ j (h : j < l.length), w.cell? ⟨b, o + j, none⟩ = some l[j]
/-- a slice of one-cell elements reads as a list -/
def SV (w : World) (v : Value) (l : List Value) : Prop :=
  ∃ A c, v = .slice A l.length c ∧ l.length ≤ c ∧ c ≤ maxLen ∧ RowV w A l
theorem RowV.below {w w' : World} {A : Option Addr} {l : List Value} (h : RowV w A l) {B : Nat} (hB : w.heap.size ≤ B) (hb : Below B w w') : RowV w' A l := fun hp => by
  obtain ⟨b, o, rfl, hlt, hc⟩ := h hp
  exact ⟨b, o, rfl, Nat.lt_of_lt_of_le hlt hb.size, fun j hj => (hb.cell (p := ⟨b, o + j, none⟩) (by show b < B; omega)).trans (hc j hj)⟩
theorem SV.below {w w' : World} {v : Value} {l : List Value} (h : SV w v l) (hb : Below w.heap.size w w') : SV w' v l := by
  obtain ⟨A, c, rfl, h1, h2, h3⟩ := h
  exact ⟨A, c, rfl, h1, h2, h3.below (Nat.le_refl _) hb⟩
theorem SV.drewN {w : World} {v : Value} {l : List Value} (h : SV w v l) (n : Nat) : SV (w.drewN n) v l := h
theorem SV.nil (w : World) : SV w (.slice none 0 0) [] := ⟨none, 0, rfl, Nat.le_refl _, Nat.zero_le _, fun h => absurd h (by simp)⟩
theorem SV.len {w : World} {v : Value} {l : List Value} (h : SV w v l) : l.length ≤ 9223372036854775807 := by
  obtain ⟨A, c, rfl, h1, h2, h3⟩ := h
  unfold maxLen at h2; omega
/-- numbers of a kind as values -/
def ints (k : IntKind) (zs : List Int) : List Value := zs.map (.int k)
theorem ints_len (k : IntKind) (zs : List Int) : (ints k zs).length = zs.length := by simp [ints]
theorem RowV.add {x : Addr} {j : Nat} (h : x.spot = none) : x.add j = ⟨x.block, x.off + j, none⟩ := by
  obtain ⟨b, o, sp⟩ := x
  obtain rfl : sp = none := h
  unfold Addr.add; split
  · next h0 => subst h0; rfl
  · rfl
theorem open_intsV {H : Type} {enc : TypeId × Value → H} {P : Program} {t e : TypeId} {k : IntKind} {W : World} {base : Nat} {v : Value} {d : DataW H} {p : List MemPlace}
    (ht : P.underlying t = some (.slice e)) (he : P.underlying e = some (.int k)) (hc : P.cellsOf e = 1) (hval : Value.okWide P W .any base t v)
    (h : DataW.Trod enc P W 0 (fun _ => true) true t v d p) : ∃ zs : List Int, SV W v (ints k zs) ∧ ∀ z ∈ zs, (Lit.int k z).wf = true := by
  obtain ⟨A, len, cap, rfl⟩ := okWide_slice ht hval
  obtain ⟨fuel, hf⟩ := h
  rcases open_ints ht he hc hf with ⟨hcs, _⟩ | ⟨x, n, c, zs, hcs, _, hl, hm, hz, _, hcell, hwz⟩
  · simp [Value.cells] at hcs
    obtain ⟨rfl, rfl, rfl⟩ := hcs
    exact ⟨[], SV.nil W, by simp⟩
  · simp [Value.cells] at hcs
    obtain ⟨rfl, rfl, rfl⟩ := hcs
    have hz' : zs.length = cap := by simpa using hz
    refine ⟨zs.take len, ?_, fun z hz => hwz z (List.mem_of_mem_take hz)⟩
    have hll : (ints k (zs.take len)).length = len := by simp [ints]; omega
    refine ⟨some x, cap, by rw [hll], by rw [hll]; exact hl, hm, fun hp => ?_⟩
    rw [hll] at hp
    have h0 := hcell 0 (by omega)
    have hx0 : x.add 0 = x := by simp [Addr.add]
    rw [hx0] at h0
    have hsp : x.spot = none := World.cell?_spot h0
    have hlt : x.block < W.heap.size := by
      rcases Nat.lt_or_ge x.block W.heap.size with h1 | h1
      · exact h1
      · unfold World.cell? at h0; rw [Array.getElem?_eq_none h1] at h0; cases h0
    refine ⟨x.block, x.off, by obtain ⟨b, o, sp⟩ := x; obtain rfl : sp = none := hsp; rfl, hlt, fun j hj => ?_⟩
    rw [hll] at hj
    have hj' := hcell j (by omega)
    rw [RowV.add hsp] at hj'
    rw [hj']
    have hg : zs.getD j 0 = zs[j]'(by omega) := by simp [List.getD, List.getElem?_eq_getElem (show j < zs.length by omega)]
    rw [hg]
    simp [ints, List.getElem_take]
/-- a number of so many -/
structure Fits (m n : Int) : Prop where
  lo : 0 ≤ n
  hi : n < m
theorem fits_u8 {n : Int} (h : (Lit.int .u8 n).wf = true) : Fits 256 n := by
  simp [Lit.wf, IntKind.min, IntKind.max, IntKind.bits, IntKind.signed] at h; exact ⟨by omega, by omega⟩
theorem fits_u16 {n : Int} (h : (Lit.int .u16 n).wf = true) : Fits 65536 n := by
  simp [Lit.wf, IntKind.min, IntKind.max, IntKind.bits, IntKind.signed] at h; exact ⟨by omega, by omega⟩
theorem fits_u32 {n : Int} (h : (Lit.int .u32 n).wf = true) : Fits 4294967296 n := by
  simp [Lit.wf, IntKind.min, IntKind.max, IntKind.bits, IntKind.signed] at h; exact ⟨by omega, by omega⟩
theorem rng_i16 {n : Int} (h : (Lit.int .i16 n).wf = true) : -32768 ≤ n ∧ n ≤ 32767 := by
  simpa [Lit.wf, IntKind.min, IntKind.max, IntKind.bits, IntKind.signed] using h
theorem rng_i64 {n : Int} (h : (Lit.int .i64 n).wf = true) : -9223372036854775808 ≤ n ∧ n ≤ 9223372036854775807 := by
  simpa [Lit.wf, IntKind.min, IntKind.max, IntKind.bits, IntKind.signed] using h
end Go.Proofs.Ytphofpemblindaa
/- What a call may have written: of the blocks that were there, those of a set alone. Slices that lie in some blocks; objects of a few cells. -/
namespace Go.Proofs.Ytphofpemblindaa
open Go.RowKit

/-- of the blocks that were there, those of F alone may have changed -/
structure Fr (F : Nat → Prop) (w w' : World) : Prop where
  os : w'.os = w.os
  tape : w'.tape = w.tape
  output : w'.output = w.output
  size : w.heap.size ≤ w'.heap.size
  block : ∀ k, k < w.heap.size → ¬ F k → w'.heap[k]? = w.heap[k]?
/-- no block -/
def F0 : Nat → Prop := fun _ => False
/-- one block -/
def F1 (b : Nat) : Nat → Prop := fun k => k = b
theorem Fr.refl (F : Nat → Prop) (w : World) : Fr F w w := ⟨rfl, rfl, rfl, Nat.le_refl _, fun _ _ _ => rfl⟩
theorem Fr.trans {F G : Nat → Prop} {a b c : World} (h : Fr F a b) (k : Fr G b c) (hG : ∀ x, G x → F x ∨ a.heap.size ≤ x) : Fr F a c :=
  ⟨k.os.trans h.os, k.tape.trans h.tape, k.output.trans h.output, Nat.le_trans h.size k.size, fun i hi hF =>
    (k.block i (Nat.lt_of_lt_of_le hi h.size) (fun hg => (hG i hg).elim hF (by omega))).trans (h.block i hi hF)⟩
theorem Fr.mono {F G : Nat → Prop} {a b : World} (h : Fr F a b) (hG : ∀ x, F x → G x ∨ a.heap.size ≤ x) : Fr G a b :=
  ⟨h.os, h.tape, h.output, h.size, fun i hi hF => h.block i hi (fun hf => (hG i hf).elim hF (by omega))⟩
theorem Fr.of {w w' : World} (h : Below w.heap.size w w') : Fr F0 w w' := ⟨h.os, h.tape, h.output, h.size, fun k hk _ => h.block k hk⟩
theorem Fr.below {F : Nat → Prop} {w w' : World} (h : Fr F w w') {B : Nat} (hB : B ≤ w.heap.size) (hF : ∀ x, F x → B ≤ x) : Below B w w' :=
  ⟨h.os, h.tape, h.output, h.size, fun k hk => h.block k (by omega) (fun hf => by have := hF k hf; omega)⟩
theorem Fr.below0 {w w' : World} (h : Fr F0 w w') : Below w.heap.size w w' := h.below (Nat.le_refl _) (fun _ h => h.elim)
theorem Fr.grown {w w' : World} {row : Option Nat} (h : w.grownBy w' row) : Fr (fun k => some k = row) w w' := ⟨h.os, h.tape, h.output, h.size, fun k hk hr => h.block k hk hr⟩
theorem Fr.setCell (w : World) (a : Addr) (u : Value) : Fr (F1 a.block) w (w.setCell a u) :=
  ⟨rfl, rfl, rfl, by simp, fun k _ hk => Below.heap_setCell _ _ _ _ hk⟩
theorem Fr.alloc (w : World) (o : Obj) : Fr F0 w (w.alloc o) := Fr.of (below_alloc o)
theorem Fr.drewN (w : World) (n : Nat) : Fr F0 w (w.drewN n) := ⟨rfl, rfl, rfl, Nat.le_refl _, fun _ _ _ => rfl⟩
theorem Fr.drew (w : World) : Fr F0 w w.drew := ⟨rfl, rfl, rfl, Nat.le_refl _, fun _ _ _ => rfl⟩
theorem Fr.heap {F : Nat → Prop} {w w' : World} (h : Fr F w w') {k : Nat} {o : Obj} (hk : w.heap[k]? = some o) (hF : ¬ F k) : w'.heap[k]? = some o :=
  (h.block k (Array.getElem?_eq_some_iff.1 hk).1 hF).trans hk
theorem Fr.own {F : Nat → Prop} {w w' : World} (h : Fr F w w') {base : Nat} {e : TypeId} {size : Nat} {v : Value} {n : Nat} {xs : List Value} (ho : w.ownsRow base e size v n xs) (hF : ∀ k, v.ownBlock = some k → ¬ F k) : w'.ownsRow base e size v n xs := by
  refine ⟨ho.1, ?_⟩
  rcases ho.2 with hn | ⟨g, cap, cur, rfl, hb, hgg, rest⟩
  · exact .inl hn
  · exact .inr ⟨g, cap, cur, rfl, hb, h.heap hgg (hF g rfl), rest⟩
theorem own_base {w : World} {b b' : Nat} {e : TypeId} {size : Nat} {v : Value} {n : Nat} {xs : List Value} (ho : w.ownsRow b e size v n xs) (hb : b' ≤ b) : w.ownsRow b' e size v n xs := by
  refine ⟨ho.1, ?_⟩
  rcases ho.2 with hn | ⟨g, cap, cur, rfl, hg, rest⟩
  · exact .inl hn
  · exact .inr ⟨g, cap, cur, rfl, Nat.le_trans hb hg, rest⟩

/-! ### a slice of bytes whose memory lies in some blocks -/
def BSx (G : Nat → Prop) (w : World) (v : Value) (l : List UInt8) : Prop := BS w v l ∧ (0 < l.length → ∀ k, v.ownBlock = some k → G k)
theorem BSx.bs {G : Nat → Prop} {w : World} {v : Value} {l : List UInt8} (h : BSx G w v l) : BS w v l := h.1
theorem BS.x {w : World} {v : Value} {l : List UInt8} (h : BS w v l) : BSx (fun k => k < w.heap.size) w v l := by
  refine ⟨h, fun hp k hk => ?_⟩
  obtain ⟨A, c, rfl, _, _, hr⟩ := h
  obtain ⟨b, o, rfl, hb, _⟩ := hr hp
  simp only [Value.ownBlock, Option.some.injEq] at hk
  omega
theorem BSx.mono {G G' : Nat → Prop} {w : World} {v : Value} {l : List UInt8} (h : BSx G w v l) (hG : ∀ k, k < w.heap.size → G k → G' k) : BSx G' w v l :=
  ⟨h.1, fun hp k hk => hG k (h.1.x.2 hp k hk) (h.2 hp k hk)⟩
theorem BSx.fr {G F : Nat → Prop} {w w' : World} {v : Value} {l : List UInt8} (h : BSx G w v l) (hf : Fr F w w') (hG : ∀ k, k < w.heap.size → G k → ¬ F k) : BSx G w' v l := by
  refine ⟨?_, h.2⟩
  have hx := h.1.x
  obtain ⟨⟨A, c, rfl, h1, h2, h3⟩, hg⟩ := h
  refine ⟨A, c, rfl, h1, h2, fun hp => ?_⟩
  obtain ⟨b, o, rfl, hlt, hc⟩ := h3 hp
  refine ⟨b, o, rfl, Nat.lt_of_lt_of_le hlt hf.size, fun j hj => ?_⟩
  rw [World.cell?_of_block (w := w) (a := ⟨b, o + j, none⟩) (hf.block b hlt (hG b hlt (hg hp b rfl)))]
  exact hc j hj
theorem BS.fr {F : Nat → Prop} {w w' : World} {v : Value} {l : List UInt8} (h : BS w v l) (hf : Fr F w w') (hG : ∀ k, k < w.heap.size → ¬ F k) : BS w' v l :=
  (h.x.fr hf fun k hk _ => hG k hk).1
theorem BSx.nil (G : Nat → Prop) (w : World) : BSx G w (.slice none 0 0) [] := ⟨BS.nil w, fun h => absurd h (by simp)⟩
/-- a piece of bytes -/
theorem Row8.take {w : World} {A : Option Addr} {l : List UInt8} (h : Row8 w A l) (n : Nat) : Row8 w A (l.take n) := fun hp => by
  have hl : (l.take n).length = min n l.length := by simp
  obtain ⟨b, o, rfl, hb, hc⟩ := h (by omega)
  exact ⟨b, o, rfl, hb, fun j hj => by rw [List.getElem_take]; exact hc j (by omega)⟩
theorem BSx.piece {G : Nat → Prop} {w : World} {A A' : Option Addr} {m c c' i j : Nat} {l : List UInt8} (h : BSx G w (.slice A m c) l) (hij : i ≤ j) (hj : j ≤ l.length) (hA : j - i = 0 ∨ A' = A.map (fun x => x.add i)) (hc : j - i ≤ c') (hm : c' ≤ maxLen) :
    BSx G w (.slice A' (j - i) c') ((l.take j).drop i) := by
  have hl : ((l.take j).drop i).length = j - i := by simp; omega
  obtain ⟨⟨A1, c1, he, _, _, hr⟩, hg⟩ := h
  simp only [Value.slice.injEq] at he
  obtain ⟨rfl, _, _⟩ := he
  by_cases hz : j - i = 0
  · have : (l.take j).drop i = [] := List.eq_nil_of_length_eq_zero (by omega)
    rw [this, hz]
    exact ⟨⟨A', c', rfl, by simp, hm, fun h => absurd h (by simp)⟩, fun h => absurd h (by simp)⟩
  · obtain rfl := hA.resolve_left hz
    refine ⟨⟨_, c', by rw [hl], by rw [hl]; exact hc, hm, (hr.take j).drop i⟩, fun hp k hk => hg (by omega) k ?_⟩
    cases A with
    | none => simp [Value.ownBlock] at hk
    | some a =>
      simp only [Option.map_some, Value.ownBlock, Option.some.injEq] at hk ⊢
      rw [← hk]
      unfold Addr.add; split <;> rfl
theorem own_bsx {w : World} {base : Nat} {e : TypeId} {v : Value} {n : Nat} {l : List UInt8} (h : w.ownsRow base e 1 v n (c8 l)) : BSx (fun k => base ≤ k) w v l :=
  ⟨own_bs h, fun _ k hk => (h.lt k hk).1⟩
theorem own_bsx2 {w : World} {base : Nat} {e : TypeId} {v : Value} {n : Nat} {l : List UInt8} (h : w.ownsRow base e 1 v n (c8 l)) : BSx (fun k => v.ownBlock = some k) w v l :=
  ⟨own_bs h, fun _ _ hk => hk⟩

theorem ownB (A : Option Addr) (n c : Nat) : (Value.slice A n c).ownBlock = A.map (·.block) := by cases A <;> rfl
theorem add_block (a : Addr) (n : Nat) : (a.add n).block = a.block := by unfold Addr.add; split <;> rfl

/-! ### objects of a few cells -/
theorem obj_cell {w : World} {b : Nat} {cs : Array Value} {t : TypeId} (h : w.heap[b]? = some (.cells cs t (0, 0))) (i : Nat) : w.cell? ⟨b, i, none⟩ = cs[i]? := cell_of_row w b i cs t (0, 0) h
theorem obj_frozen {w : World} {b : Nat} {cs : Array Value} {t : TypeId} (h : w.heap[b]? = some (.cells cs t (0, 0))) (i : Nat) : w.frozen? ⟨b, i, none⟩ = false := frozen_of_row w b i cs t h
theorem obj_lt {w : World} {b : Nat} {o : Obj} (h : w.heap[b]? = some o) : b < w.heap.size := (Array.getElem?_eq_some_iff.1 h).1
theorem obj_set {w : World} {b : Nat} {cs : Array Value} {t : TypeId} (h : w.heap[b]? = some (.cells cs t (0, 0))) (i : Nat) (u : Value) :
    (w.setCell ⟨b, i, none⟩ u).heap[b]? = some (.cells (cs.setIfInBounds i u) t (0, 0)) := heap_setCell_same w b i cs t u h
theorem bs_parts {w : World} {v : Value} {l : List UInt8} (h : BS w v l) : ∃ A c, v = .slice A l.length c ∧ l.length ≤ c ∧ c ≤ 9223372036854775807 ∧ Row8 w A l := by
  obtain ⟨A, c, rfl, h1, h2, h3⟩ := h
  exact ⟨A, c, rfl, h1, by unfold maxLen at h2; omega, h3⟩
/-! ### a slice of one-cell elements whose memory lies in some blocks -/
def SVx (G : Nat → Prop) (w : World) (v : Value) (l : List Value) : Prop := SV w v l ∧ (0 < l.length → ∀ k, v.ownBlock = some k → G k)
theorem SV.x {w : World} {v : Value} {l : List Value} (h : SV w v l) : SVx (fun k => k < w.heap.size) w v l := by
  refine ⟨h, fun hp k hk => ?_⟩
  obtain ⟨A, c, rfl, _, _, hr⟩ := h
  obtain ⟨b, o, rfl, hb, _⟩ := hr hp
  simp only [Value.ownBlock, Option.some.injEq] at hk
  omega
theorem SVx.mono {G G' : Nat → Prop} {w : World} {v : Value} {l : List Value} (h : SVx G w v l) (hG : ∀ k, k < w.heap.size → G k → G' k) : SVx G' w v l :=
  ⟨h.1, fun hp k hk => hG k (h.1.x.2 hp k hk) (h.2 hp k hk)⟩
theorem SVx.fr {G F : Nat → Prop} {w w' : World} {v : Value} {l : List Value} (h : SVx G w v l) (hf : Fr F w w') (hG : ∀ k, k < w.heap.size → G k → ¬ F k) : SVx G w' v l := by
  refine ⟨?_, h.2⟩
  obtain ⟨⟨A, c, rfl, h1, h2, h3⟩, hg⟩ := h
  refine ⟨A, c, rfl, h1, h2, fun hp => ?_⟩
  obtain ⟨b, o, rfl, hlt, hc⟩ := h3 hp
  refine ⟨b, o, rfl, Nat.lt_of_lt_of_le hlt hf.size, fun j hj => ?_⟩
  rw [World.cell?_of_block (w := w) (a := ⟨b, o + j, none⟩) (hf.block b hlt (hG b hlt (hg hp b rfl)))]
  exact hc j hj
theorem SVx.nil (G : Nat → Prop) (w : World) : SVx G w (.slice none 0 0) [] := ⟨SV.nil w, fun h => absurd h (by simp)⟩
theorem own_sv {w : World} {base : Nat} {e : TypeId} {v : Value} {n : Nat} {xs : List Value} (h : w.ownsRow base e 1 v n xs) : SV w v xs := by
  obtain ⟨hl, h⟩ := h
  obtain rfl : n = xs.length := by omega
  rcases h with ⟨rfl, h0⟩ | ⟨g, cap, cur, rfl, hg, hh, hn, hm, hs, ht⟩
  · have : xs = [] := List.eq_nil_of_length_eq_zero h0
    subst this
    exact SV.nil w
  · refine ⟨_, _, rfl, hn, hm, fun hp => ⟨g, 0, rfl, ?_, fun j hj => ?_⟩⟩
    · rcases Nat.lt_or_ge g w.heap.size with h1 | h1
      · exact h1
      · rw [Array.getElem?_eq_none h1] at hh; cases hh
    · rw [cell_of_row w g (0 + j) cur e (0, 0) hh, Nat.zero_add]
      have h1 : (cur.toList.take (xs.length * 1))[j]? = some xs[j] := by rw [ht]; exact List.getElem?_eq_getElem hj
      rw [Nat.mul_one, List.getElem?_take, if_pos hj] at h1
      simpa using h1
theorem own_svx {w : World} {base : Nat} {e : TypeId} {v : Value} {n : Nat} {xs : List Value} (h : w.ownsRow base e 1 v n xs) : SVx (fun k => base ≤ k) w v xs :=
  ⟨own_sv h, fun _ k hk => (h.lt k hk).1⟩
end Go.Proofs.Ytphofpemblindaa
/- Slices of structs that come in, as lists of rows of cells; their fields one by one. -/
namespace Go.Proofs.Ytphofpemblindaa
open Go.ChangeShapes Go.WideShapes Go.ChangeAt Go.RowKit Go.Deep

/-- a slice of elements of k cells reads as these rows -/
def RowsV (k : Nat) (w : World) (v : Value) (rs : List (List Value)) : Prop :=
  ∃ A c, v = .slice A rs.length c ∧ rs.length ≤ c ∧ c ≤ maxLen ∧
    (0 < rs.length → ∃ b o, A = some ⟨b, o, none⟩ ∧ b < w.heap.size ∧ ∀ i (h : i < rs.length) j u, rs[i][j]? = some u → w.cell? ⟨b, o + i * k + j, none⟩ = some u)
theorem RowsV.fr {k : Nat} {w w' : World} {v : Value} {rs : List (List Value)} (h : RowsV k w v rs) {F : Nat → Prop} (hf : Fr F w w') (hF : ∀ b, b < w.heap.size → ¬ F b) : RowsV k w' v rs := by
  obtain ⟨A, c, rfl, h1, h2, h3⟩ := h
  refine ⟨A, c, rfl, h1, h2, fun hp => ?_⟩
  obtain ⟨b, o, rfl, hb, hc⟩ := h3 hp
  refine ⟨b, o, rfl, Nat.lt_of_lt_of_le hb hf.size, fun i hi j u hu => ?_⟩
  rw [World.cell?_of_block (w := w) (a := ⟨b, o + i * k + j, none⟩) (hf.block b hb (hF b hb))]
  exact hc i hi j u hu
section
variable {H : Type} {enc : TypeId × Value → H} {P : Program} {w : World} {base : Nat} {spare : Nat → Bool} {held : Bool}
theorem rows_of_trod {k : Nat} {t e : TypeId} {v : Value} {fuel : Nat} {x : DataW H × List MemPlace} (ht : P.underlying t = some (.slice e)) (hk : P.cellsOf e = k) (hk0 : 0 < k)
    (h : DataW.trod enc P w base spare held fuel t [v] = some x) : ∃ rs, RowsV k w v rs ∧ ∀ r ∈ rs, ∃ n y, DataW.trod enc P w base spare held n e r = some y := by
  rcases open_slice ht h with ⟨hcs, _⟩ | ⟨a, len, cap, m, n, D, Pl, hcs, hb, hl, hm, hmm, _, hx⟩
  · obtain rfl : v = .slice none 0 0 := by simpa using hcs
    exact ⟨[], ⟨none, 0, rfl, Nat.le_refl _, Nat.zero_le _, fun h => absurd h (by simp)⟩, by simp⟩
  · obtain rfl : v = .slice (some a) len cap := by simpa using hcs
    have hlm : len ≤ m := by rw [hmm]; split <;> omega
    obtain ⟨R, hR⟩ := choose_lt (n := len) (p := fun i cs => w.cells? base (a.add (i * P.cellsOf e)) (P.cellsOf e) = some cs ∧ DataW.trod enc P w base spare held n e cs = some (D i, Pl i)) (fun i hi => hx i (by omega))
    have hrl : ((List.range len).map R).length = len := by simp
    refine ⟨(List.range len).map R, ⟨some a, cap, by rw [hrl], by rw [hrl]; exact hl, hm, fun hp => ?_⟩, fun r hr => ?_⟩
    · rw [hrl] at hp
      have hcell : ∀ i, i < len → ∀ j u, (R i)[j]? = some u → w.cell? ((a.add (i * k)).add j) = some u := fun i hi j u hu => by
        obtain ⟨_, hcl, hat⟩ := World.cells?_some (hR i hi).1
        rw [hk] at hat hcl
        have hjl : j < k := by rw [← hcl]; exact (List.getElem?_eq_some_iff.1 hu).1
        rw [hat j hjl, hu]
      have h0 : ∃ u, (R 0)[0]? = some u := by
        obtain ⟨_, hcl, _⟩ := World.cells?_some (hR 0 hp).1
        exact ⟨_, List.getElem?_eq_getElem (by rw [hcl, hk]; exact hk0)⟩
      obtain ⟨u0, hu0⟩ := h0
      have hc0 := hcell 0 hp 0 u0 hu0
      have hsp : a.spot = none := by
        have := World.cell?_spot hc0
        rw [add_add] at this
        simpa [Addr.add] using this
      have hlt : a.block < w.heap.size := by
        have := World.block_lt_of_cell? w _ hc0
        rwa [add_block, add_block] at this
      refine ⟨a.block, a.off, by obtain ⟨b, o, sp⟩ := a; obtain rfl : sp = none := hsp; rfl, hlt, fun i hi j u hu => ?_⟩
      rw [hrl] at hi
      have := hcell i hi j u (by simpa using hu)
      rw [add_add, RowV.add hsp, ← Nat.add_assoc] at this
      exact this
    · obtain ⟨i, hi, rfl⟩ := List.mem_map.1 hr
      exact ⟨n, _, (hR i (List.mem_range.1 hi)).2⟩
theorem fields_of_trod {e : TypeId} {fs : Array Field} {fuel : Nat} {r : List Value} {x : DataW H × List MemPlace} (he : P.underlying e = some (.struct fs)) (hone : oneCellFields P fs = true) (hC : P.cellsOf e = fs.size)
    (h : DataW.trod enc P w base spare held fuel e r = some x) :
    r.length = fs.size ∧ ∀ (j : Nat) (f : Field), fs[j]? = some f → ∃ v n y, r[j]? = some v ∧ DataW.trod enc P w base spare held n f.type [v] = some y := by
  obtain ⟨xs, n, _, _, hl, hxl, hf⟩ := DataW.trod_struct he h
  rw [hC] at hl
  refine ⟨hl, fun j f hj => ?_⟩
  obtain ⟨ho, hk⟩ := hone_of hone j f hj
  have hjl : j < fs.size := (Array.getElem?_eq_some_iff.1 hj).1
  have h1 := hf j f hj
  rw [ho, hk, List.drop_eq_getElem_cons (by omega), List.getElem?_eq_getElem (by omega)] at h1
  exact ⟨r[j]'(by omega), n, _, List.getElem?_eq_getElem (by omega), h1⟩
theorem int_of_trod {t : TypeId} {k : IntKind} {v : Value} {fuel : Nat} {x : DataW H × List MemPlace} (ht : P.underlying t = some (.int k)) (h : DataW.trod enc P w base spare held fuel t [v] = some x) :
    ∃ n, v = .int k n ∧ (Lit.int k n).wf = true := by
  obtain ⟨n, hc, _, hw⟩ := DataW.trod_int ht h
  exact ⟨n, by simpa using hc, hw⟩
theorem bool_of_trod {t : TypeId} {v : Value} {fuel : Nat} {x : DataW H × List MemPlace} (ht : P.underlying t = some .bool) (h : DataW.trod enc P w base spare held fuel t [v] = some x) :
    ∃ b, v = .bool b := by
  obtain ⟨b, hc, _⟩ := DataW.trod_bool ht h
  exact ⟨b, by simpa using hc⟩
theorem bs_of_trod {t e : TypeId} {v : Value} {fuel : Nat} {x : DataW H × List MemPlace} (ht : P.underlying t = some (.slice e)) (he : P.underlying e = some (.int .u8)) (hc : P.cellsOf e = 1)
    (h : DataW.trod enc P w base spare held fuel t [v] = some x) : ∃ l, BS w v l := by
  obtain ⟨rs, ⟨A, c, rfl, hl, hm, hr⟩, hall⟩ := rows_of_trod ht hc (by decide) h
  have hone : ∀ r ∈ rs, ∃ z : Nat, z < 256 ∧ r = [.int .u8 (z : Nat)] := fun r hr => by
    obtain ⟨n, y, hy⟩ := hall r hr
    obtain ⟨z, hz, _, hw⟩ := DataW.trod_int he hy
    simp [Lit.wf, IntKind.min, IntKind.max, IntKind.bits, IntKind.signed] at hw
    exact ⟨z.toNat, by omega, by rw [hz]; congr 2; omega⟩
  let g : List Value → UInt8 := fun r => match r with | [.int _ z] => UInt8.ofNat z.toNat | _ => 0
  have hgl : (rs.map g).length = rs.length := by simp
  refine ⟨rs.map g, A, c, by rw [hgl], by rw [hgl]; exact hl, hm, fun hp => ?_⟩
  rw [hgl] at hp
  obtain ⟨b, o, rfl, hb, hcell⟩ := hr hp
  refine ⟨b, o, rfl, hb, fun j hj => ?_⟩
  rw [hgl] at hj
  obtain ⟨z, hz, hrj⟩ := hone _ (List.getElem_mem hj)
  have := hcell j hj 0 (.int .u8 z) (by rw [hrj]; rfl)
  rw [Nat.mul_one, Nat.add_zero] at this
  rw [this, List.getElem_map, hrj]
  show _ = some (Value.int .u8 ((UInt8.ofNat ((z : Int).toNat)).toNat : Nat))
  rw [UInt8.toNat_ofNat', Int.toNat_natCast, Nat.mod_eq_of_lt hz]
end
end Go.Proofs.Ytphofpemblindaa
/- Rows of elements of k cells that are the call's own: appended to, read as a slice of rows. -/
namespace Go.Proofs.Ytphofpemblindaa
open Go.RowKit Go.Deep

theorem flat_get {k : Nat} : ∀ (rs : List (List Value)) (i j : Nat) (u : Value), (∀ r ∈ rs, r.length = k) → (h : i < rs.length) → rs[i][j]? = some u → rs.flatten[i * k + j]? = some u
  | [], i, _, _, _, h, _ => absurd h (by simp)
  | r :: rs, 0, j, u, hk, _, hu => by
    simp only [List.getElem_cons_zero] at hu
    have : j < r.length := (List.getElem?_eq_some_iff.1 hu).1
    rw [List.flatten_cons, Nat.zero_mul, Nat.zero_add, List.getElem?_append_left this, hu]
  | r :: rs, i + 1, j, u, hk, h, hu => by
    simp only [List.getElem_cons_succ] at hu
    have hr := hk r (List.mem_cons_self ..)
    have ih := flat_get rs i j u (fun r hr => hk r (List.mem_cons_of_mem _ hr)) (by simpa using h) hu
    rw [List.flatten_cons, List.getElem?_append_right (by rw [hr, Nat.add_mul]; omega), hr, ← ih, Nat.add_mul]
    congr 1; omega
theorem own_rows {k : Nat} {w : World} {base : Nat} {e : TypeId} {v : Value} {n : Nat} {rs : List (List Value)} (hn : rs.length = n) (hk : ∀ r ∈ rs, r.length = k) (h : w.ownsRow base e k v n rs.flatten) : RowsV k w v rs := by
  subst hn
  rcases h.2 with ⟨rfl, h0⟩ | ⟨g, cap, cur, rfl, hg, hh, hn, hm, hs, ht⟩
  · exact ⟨none, 0, by rw [h0], by omega, Nat.zero_le _, fun h => by omega⟩
  · refine ⟨_, _, rfl, hn, hm, fun hp => ⟨g, 0, rfl, (Array.getElem?_eq_some_iff.1 hh).1, fun i hi j u hu => ?_⟩⟩
    have h1 := flat_get rs i j u hk hi hu
    rw [cell_of_row w g _ cur e (0, 0) hh]
    rw [← ht, List.getElem?_take] at h1
    split at h1
    · rw [← h1]; simp
    · cases h1
section
variable {P : Program} {w : World}
/-- append onto a row of the call's own, of elements that are there -/
theorem wpl_appk {ops : Array Oper} {rest : List Oper} {o : Oper} {a : Act} {Q : Exit → Act → World → Prop} (hgd : o.guard = none) (s x : Operand) (t : TypeId)
    (ho : o.op = .call { callee := .builtin .append, args := #[s, x], argTypes := #[t, t] })
    (base : Nat) (e : TypeId) (z : Value) (size bytes : Nat) (ht : P.underlying t = some (.slice e)) (hi : (P.info? e).map (fun i => (i.zero, i.size, i.bytes)) = some (some z, size, bytes))
    (hz : z.cells.size = size) (hsz : 0 < size) (v : Value) (n : Nat) (xs : List Value) (hs : a.eval s = v) (hown : w.ownsRow base e size v n xs) (ad : Addr) (m c : Nat) (news : List Value) (hx : a.eval x = .slice (some ad) m c)
    (hl : news.length = m * size) (hsrc : ∀ j u, news[j]? = some u → w.cell? (ad.add j) = some u) (h1 : ∀ u ∈ news, u.oneCell' = true) (h63 : n + m ≤ maxLen) (hb : (n + m) * bytes ≤ 140737488355328) (hbase : base ≤ w.heap.size)
    (h : ∀ v' w', w'.ownsRow base e size v' (n + m) (xs ++ news) → w.grownBy w' v.ownBlock → (v'.ownBlock = v.ownBlock ∨ v'.ownBlock = some w.heap.size) → wpList P ops Q rest (a.put o.dst v') w') :
    wpList P ops Q (o :: rest) a w := by
  obtain ⟨i, hi, hz0, hsz', hby⟩ := info_parts hi
  obtain ⟨v', w', hr, h2, h3, _, h4⟩ := run_append_own_at (P := P) w base t o.type e i z size bytes ht hi hz0 hsz' hby hz hsz v n xs hown ad m c news hl hsrc h1 h63 hb hbase
  refine wpList_plain hgd fun K hK => ?_
  unfold Oper.wp execOp
  simp only [ho, resolve, invoke, builtin, Sem.run_bind, Sem.run_pure, Result.andThen_ok, List.map_toArray, List.map_cons, List.map_nil, hs, hx, hr]
  exact hK _ _ (h v' w' h2 h3 h4)
end
theorem new_cells (w : World) (cs : List Value) (t : TypeId) : ∀ j u, cs[j]? = some u → (w.alloc (.cells cs.toArray t)).cell? ((⟨w.heap.size, 0, none⟩ : Addr).add j) = some u := by
  intro j u hu
  have : (⟨w.heap.size, 0, none⟩ : Addr).add j = ⟨w.heap.size, j, none⟩ := by rw [RowV.add rfl]; simp
  rw [this, cell_of_row _ w.heap.size j cs.toArray t (0, 0) (heap_alloc_new w _)]
  simpa using hu
theorem own_newk (w : World) (base : Nat) (e : TypeId) (k : Nat) (h : base ≤ w.heap.size) : (w.alloc (.cells #[] e)).ownsRow base e k (.slice (some ⟨w.heap.size, 0, none⟩) 0 0) 0 [] :=
  ⟨by simp, .inr ⟨w.heap.size, 0, #[], rfl, h, heap_alloc_new w _, Nat.le_refl _, (by unfold maxLen; omega), by simp, by simp⟩⟩
/-- what an append leaves of all else -/
theorem Fr.app {w w' : World} {v : Value} (h : w.grownBy w' v.ownBlock) : Fr (fun k => some k = v.ownBlock) w w' := Fr.grown h
theorem own_bs_src {w : World} {A : Option Addr} {c : Nat} {l : List UInt8} (h : BS w (.slice A l.length c) l) : Src w A l.length (c8 l) := by
  obtain ⟨A', c', he, _, _, hr⟩ := h
  simp only [Value.slice.injEq] at he
  rw [he.1]; exact hr.src
theorem src_1 (w : World) (u : Value) (t : TypeId) : Src (w.alloc (.cells #[u] t)) (some ⟨w.heap.size, 0, none⟩) 1 [u] :=
  ⟨rfl, fun _ => ⟨_, rfl, new_cells w [u] t⟩⟩
def slen : Value → Nat
  | .slice _ n _ => n
  | _ => 0
theorem own_lit (w : World) (base : Nat) (e : TypeId) (k n : Nat) (cs : List Value) (hn : cs.length = n * k) (h : base ≤ w.heap.size) (hm : n ≤ maxLen) : (w.alloc (.cells cs.toArray e)).ownsRow base e k (.slice (some ⟨w.heap.size, 0, none⟩) n n) n cs :=
  ⟨hn, .inr ⟨w.heap.size, n, cs.toArray, rfl, h, heap_alloc_new w _, Nat.le_refl _, hm, by simpa using hn, by simp [← hn]⟩⟩
end Go.Proofs.Ytphofpemblindaa
/- The walk of bits.Bytes. -/
namespace Go.Proofs.Ytphofpemblindaa
open Go.RowKit
/-- the lowest bytes of a number, the highest first -/
def bytesL (x n : Nat) : List UInt8 := (List.range n).map fun i => UInt8.ofNat (x / 256 ^ (n - 1 - i))
theorem bytesL_len (x n : Nat) : (bytesL x n).length = n := by simp [bytesL]
theorem bytesL_get (x n i : Nat) (h : i < (bytesL x n).length) : ((bytesL x n)[i].toNat : Nat) = x / 256 ^ (n - 1 - i) % 256 := by
  simp [bytesL, UInt8.toNat_ofNat']
def bytesI (x : Nat) (s : Int) : List UInt8 := if 0 ≤ s ∧ s ≤ 8 then bytesL x s.toNat else []

theorem conv_u8 (x : Int) : IntKind.u8.wrap x = x % 256 := by simp [IntKind.wrap, IntKind.bits, IntKind.signed]
set_option maxHeartbeats 400000 in
theorem bytes_any (x s : Int) (w : World) (hx : U64 x) :
    Calls Try.prog 84 #[.int .u64 x, .int .i64 s] w fun e w' => ∃ v, e = .returned v ∧ BS w' v (bytesI x.toNat s) ∧ Below w.heap.size w w' := by
  obtain ⟨x, rfl⟩ := Int.eq_ofNat_of_zero_le hx.lo
  rw [Int.toNat_natCast]
  refine calls_q fun Q HQ => ?_
  by_cases h0 : 0 ≤ s
  · by_cases h8 : s ≤ 8
    · obtain ⟨n, rfl⟩ := Int.eq_ofNat_of_zero_le h0
      have hmk := run_make1 (P := Try.prog) Try.underlying23 (z := .int .u8 0) (bytes := 1) (by kernel_rfl) rfl n n (Nat.le_refl _) (by omega) (by omega)
      go_enter Try.func84, Try.ntmps84
      go_wp2
      clear hmk
      go_loopw [16] (fun i wr => ∃ (j : Nat) (cs : Array Value), j ≤ n ∧ i = .int .i64 j ∧ cs.size = n ∧ (∀ i, i < n → cs[i]? = some (.int .u8 (if n - j ≤ i then x / 256 ^ (n - 1 - i) % 256 else 0 : Nat))) ∧ wr = w.alloc (.cells cs 5)) (fun i _ => n - (intOf i).toNat)
      case atStart => exact ⟨0, _, Nat.zero_le _, rfl, by simp, fun i hi => by rw [if_neg (by omega)]; simp [hi], rfl⟩
      case round =>
        obtain ⟨j, cs, hj, rfl, hs, hcs, rfl⟩ := hrel
        by_cases hlt : j < n
        · have hone := hcs (n - 1 - j) (by omega)
          go_wp2
          clear hone
          go_roundw
          case rel =>
            refine ⟨j + 1, _, by omega, by go_num, by simp [hs], fun i hi => ?_, rfl⟩
            by_cases e : n - 1 - j = i
            · subst e
              rw [Array.getElem?_setIfInBounds_self, if_pos (by omega), if_pos (by omega), show n - 1 - (n - 1 - j) = j by omega, show (256 : Nat) = 2 ^ 8 by decide, ← Nat.pow_mul]
              simp
            · rw [Array.getElem?_setIfInBounds_ne e, hcs i hi]
              by_cases h1 : n - j ≤ i
              · rw [if_pos h1, if_pos (by omega)]
              · rw [if_neg h1, if_neg (by omega)]
          case measure => simp [intOf]; omega
        · obtain rfl : j = n := by omega
          go_wp2
          have hl := bytesL_len x j
          refine HQ.out _ _ ⟨_, rfl, ?_, (Below.refl _ _).alloc (Nat.le_refl _) _⟩
          have hb := BS.made w cs (bytesL x j) 5 (by rw [hl]; unfold maxLen; omega) (fun i hi => by rw [bytesL_get, hcs i (by omega), if_pos (by omega)])
          rw [hl] at hb
          rw [bytesI, if_pos (by omega)]
          exact hb
    · go_enter Try.func84, Try.ntmps84
      go_wp2
      exact HQ.out _ _ ⟨_, rfl, by rw [bytesI, if_neg (by omega)]; exact BS.nil _, Below.refl _ _⟩
  · go_enter Try.func84, Try.ntmps84
    go_wp2
    exact HQ.out _ _ ⟨_, rfl, by rw [bytesI, if_neg (by omega)]; exact BS.nil _, Below.refl _ _⟩

end Go.Proofs.Ytphofpemblindaa
/- Chunks: their bytes; a slice of them that comes in. -/
namespace Go.Proofs.Ytphofpemblindaa
open Go.ChangeShapes Go.WideShapes Go.ChangeAt Go.RowKit Go.Deep

/-! ### the document's bytes -/
abbrev DC := Nat × Nat × List UInt8
def rightC (d : DC) : Bool := decide (d.1 ≤ 31) && decide (d.2.2.length % 4 = 0) && decide (4 + d.2.2.length ≤ 200)
def headC (n t u : Nat) : List UInt8 := bytesI (128 + n) 1 ++ bytesI t 1 ++ bytesI u 2
def encC (d : DC) : List UInt8 := headC d.1 d.2.1 (d.2.2.length / 4) ++ d.2.2
def encs (ds : List DC) : List UInt8 := (ds.map encC).flatten
def joE (ds : List DC) : Int := if ds.all rightC = true then (if (encs ds).length ≤ 200 then 0 else 4) else 1
def joB (ds : List DC) : List UInt8 := if joE ds = 0 then encs ds else []
theorem right_iffC {d : DC} : rightC d = true ↔ d.1 ≤ 31 ∧ d.2.2.length % 4 = 0 ∧ 4 + d.2.2.length ≤ 200 := by
  simp only [rightC, Bool.and_eq_true, decide_eq_true_eq, and_assoc]
theorem bytesI1 (x : Nat) : bytesI x 1 = [UInt8.ofNat x] := by
  rw [bytesI, if_pos (by omega)]; simp [bytesL, List.range_succ]
theorem bytesI2 (x : Nat) : bytesI x 2 = [UInt8.ofNat (x / 256), UInt8.ofNat x] := by
  rw [bytesI, if_pos (by omega)]; simp [bytesL, List.range_succ]
theorem headC_eq (n t u : Nat) : headC n t u = [UInt8.ofNat (128 + n), UInt8.ofNat t, UInt8.ofNat (u / 256), UInt8.ofNat u] := by
  rw [headC, bytesI1, bytesI1, bytesI2]; rfl
theorem headC_len (n t u : Nat) : (headC n t u).length = 4 := by rw [headC_eq]; rfl
theorem encC_len (d : DC) : (encC d).length = 4 + d.2.2.length := by rw [encC, List.length_append, headC_len]
theorem encs_nil : encs [] = [] := rfl
theorem encs_cons (d : DC) (ds : List DC) : encs (d :: ds) = encC d ++ encs ds := rfl
theorem encs_snoc (ds : List DC) (d : DC) : encs (ds ++ [d]) = encs ds ++ encC d := by simp [encs]
theorem encs_app (a b : List DC) : encs (a ++ b) = encs a ++ encs b := by simp [encs]
theorem encs_le (l : List DC) (h : l.all rightC = true) : (encs l).length ≤ 200 * l.length := by
  induction l with
  | nil => simp [encs]
  | cons d l ih =>
    simp only [List.all_cons, Bool.and_eq_true, right_iffC] at h
    have := ih h.2
    rw [encs_cons, List.length_append, encC_len, List.length_cons]; omega
theorem jo_not {l : List DC} (h : l.all rightC = false) : joE l = 1 ∧ joB l = [] := by
  have h1 : joE l = 1 := by rw [joE, if_neg (by rw [h]; decide)]
  exact ⟨h1, by rw [joB, if_neg (by rw [h1]; decide)]⟩
theorem jo_long {l : List DC} (h : l.all rightC = true) (h2 : 200 < (encs l).length) : joE l = 4 ∧ joB l = [] := by
  have h1 : joE l = 4 := by rw [joE, if_pos h, if_neg (by omega)]
  exact ⟨h1, by rw [joB, if_neg (by rw [h1]; decide)]⟩
theorem jo_ok {l : List DC} (h : l.all rightC = true) (h2 : (encs l).length ≤ 200) : joE l = 0 ∧ joB l = encs l := by
  have h1 : joE l = 0 := by rw [joE, if_pos h, if_pos h2]
  exact ⟨h1, by rw [joB, if_pos h1]⟩
theorem jo_cases (l : List DC) : (joE l ≠ 0 ∧ joB l = []) ∨ (joE l = 0 ∧ joB l = encs l ∧ l.all rightC = true ∧ (encs l).length ≤ 200) := by
  by_cases h : l.all rightC = true
  · by_cases h2 : (encs l).length ≤ 200
    · exact .inr ⟨(jo_ok h h2).1, (jo_ok h h2).2, h, h2⟩
    · have := jo_long h (by omega)
      exact .inl ⟨by rw [this.1]; decide, this.2⟩
  · have := jo_not (by simpa using h)
    exact .inl ⟨by rw [this.1]; decide, this.2⟩
/-- a chunk's first four bytes tell its Count, its Type (below 256) and how long its Body is -/
theorem headC_inj {n t u n' t' u' : Nat} (h : headC n t u = headC n' t' u') (hn : n ≤ 31) (hn' : n' ≤ 31) (ht : t < 256) (ht' : t' < 256) (hu : u < 256) (hu' : u' < 256) : n = n' ∧ t = t' ∧ u = u' := by
  rw [headC_eq, headC_eq] at h
  simp only [List.cons.injEq, and_true] at h
  obtain ⟨h1, h2, _, h4⟩ := h
  have h1 := congrArg UInt8.toNat h1
  have h2 := congrArg UInt8.toNat h2
  have h4 := congrArg UInt8.toNat h4
  rw [UInt8.toNat_ofNat', UInt8.toNat_ofNat'] at h1 h2 h4
  omega
def okC (d : DC) : Prop := d.2.1 < 256
theorem encs_inj : ∀ (ds es : List DC), ds.all rightC = true → es.all rightC = true → (∀ d ∈ ds, okC d) → (∀ d ∈ es, okC d) → encs ds = encs es → ds = es
  | [], [], _, _, _, _, _ => rfl
  | [], e :: es, _, _, _, _, h => by
    have := congrArg List.length h
    rw [encs_cons, List.length_append, encC_len, encs_nil, List.length_nil] at this; omega
  | d :: ds, [], _, _, _, _, h => by
    have := congrArg List.length h
    rw [encs_cons, List.length_append, encC_len, encs_nil, List.length_nil] at this; omega
  | (n, t, b) :: ds, (n', t', b') :: es, hd, he, kd, ke, h => by
    simp only [List.all_cons, Bool.and_eq_true, right_iffC] at hd he
    have k1 : t < 256 := kd _ (List.mem_cons_self ..)
    have k2 : t' < 256 := ke _ (List.mem_cons_self ..)
    rw [encs_cons, encs_cons, encC, encC, List.append_assoc, List.append_assoc] at h
    obtain ⟨h1, h2⟩ := List.append_inj h (by rw [headC_len, headC_len])
    obtain ⟨rfl, rfl, h3⟩ := headC_inj h1 hd.1.1 he.1.1 k1 k2 (by have := hd.1.2.2; simp only at this ⊢; omega) (by have := he.1.2.2; simp only at this ⊢; omega)
    obtain ⟨rfl, h5⟩ := List.append_inj h2 (by have h6 := hd.1.2.1; have h7 := he.1.2.1; simp only at h3 h6 h7 ⊢; omega)
    rw [encs_inj ds es hd.2 he.2 (fun d h => kd d (List.mem_cons_of_mem _ h)) (fun d h => ke d (List.mem_cons_of_mem _ h)) h5]

/-! ### chunks that come in -/
structure Ck where
  n : Nat
  y : Nat
  v : Value
  b : List UInt8
def Ck.d (t : Ck) : DC := (t.n, t.y, t.b)
def Ck.row (t : Ck) : List Value := [.int .u8 (t.n : Nat), .int .u8 (t.y : Nat), t.v]
structure Ck.Ok (w : World) (t : Ck) : Prop where
  n : t.n < 256
  y : t.y < 256
  b : BS w t.v t.b
def CkS (w : World) (v : Value) (ts : List Ck) : Prop := RowsV 3 w v (ts.map Ck.row) ∧ ∀ t ∈ ts, t.Ok w
theorem CkS.fr {w w' : World} {v : Value} {ts : List Ck} (h : CkS w v ts) {F : Nat → Prop} (hf : Fr F w w') (hF : ∀ b, b < w.heap.size → ¬ F b) : CkS w' v ts :=
  ⟨h.1.fr hf hF, fun t ht => ⟨(h.2 t ht).n, (h.2 t ht).y, (h.2 t ht).b.fr hf hF⟩⟩
theorem CkS.below {w w' : World} {v : Value} {ts : List Ck} (h : CkS w v ts) (hb : Below w.heap.size w w') : CkS w' v ts := h.fr (Fr.of hb) (fun _ _ h => h)
/-- the cells of one of them -/
theorem CkS.at {w : World} {b o : Nat} {n c : Nat} {ts : List Ck} (h : CkS w (.slice (some ⟨b, o, none⟩) n c) ts) (i : Nat) (hi : i < ts.length) :
    w.cell? ⟨b, o + i * 3, none⟩ = some (.int .u8 (ts[i].n : Nat)) ∧ w.cell? ⟨b, o + i * 3 + 1, none⟩ = some (.int .u8 (ts[i].y : Nat)) ∧ w.cell? ⟨b, o + i * 3 + 2, none⟩ = some ts[i].v := by
  obtain ⟨⟨A, c', he, _, _, hr⟩, _⟩ := h
  simp only [Value.slice.injEq] at he
  obtain ⟨b', o', hA, _, hc⟩ := hr (by simp; omega)
  rw [hA] at he
  simp only [Option.some.injEq, Addr.mk.injEq, and_true] at he
  obtain ⟨⟨rfl, rfl⟩, _⟩ := he
  have := fun j u hu => hc i (by simpa using hi) j u (by simpa using hu)
  exact ⟨this 0 _ rfl, this 1 _ rfl, this 2 _ rfl⟩
theorem CkS.parts {w : World} {v : Value} {ts : List Ck} (h : CkS w v ts) : ∃ A c, v = .slice A ts.length c ∧ ts.length ≤ c ∧ c ≤ 9223372036854775807 ∧ (0 < ts.length → ∃ b o, A = some ⟨b, o, none⟩ ∧ b < w.heap.size) := by
  obtain ⟨⟨A, c, rfl, h1, h2, h3⟩, _⟩ := h
  have hl : (ts.map Ck.row).length = ts.length := List.length_map ..
  refine ⟨A, c, by rw [hl], by omega, by unfold maxLen at h2; omega, fun hp => ?_⟩
  obtain ⟨b, o, rfl, hb, _⟩ := h3 (by omega)
  exact ⟨b, o, rfl, hb⟩
theorem Ck.rows3 (ts : List Ck) : ∀ r ∈ ts.map Ck.row, r.length = 3 := by
  intro r hr
  obtain ⟨t, _, rfl⟩ := List.mem_map.1 hr
  rfl
def cellsC (ts : List Ck) : List Value := (ts.map Ck.row).flatten
theorem cellsC_snoc (ts : List Ck) (t : Ck) : cellsC ts ++ t.row = cellsC (ts ++ [t]) := by simp [cellsC]
theorem own_chunks {w : World} {base : Nat} {e : TypeId} {v : Value} {n : Nat} {ts : List Ck} (hn : ts.length = n) (h : w.ownsRow base e 3 v n (cellsC ts)) (hk : ∀ t ∈ ts, t.Ok w) : CkS w v ts :=
  ⟨own_rows (by simpa using hn) (Ck.rows3 ts) h, hk⟩
def ds (ts : List Ck) : List DC := ts.map Ck.d
theorem ds_len (ts : List Ck) : (ds ts).length = ts.length := by simp [ds]
theorem ds_snoc (ts : List Ck) (j : Nat) (h : j < ts.length) : ds (ts.take (j + 1)) = ds (ts.take j) ++ [ts[j].d] := by
  rw [List.take_succ_eq_append_getElem h, ds, ds, List.map_append]; rfl
theorem encs_step (ts : List Ck) (j : Nat) (h : j < ts.length) : encs (ds (ts.take (j + 1))) = encs (ds (ts.take j)) ++ encC ts[j].d := by rw [ds_snoc ts j h, encs_snoc]
theorem all_step (ts : List Ck) (j : Nat) (h : j < ts.length) (ha : (ds (ts.take j)).all rightC = true) (hr : rightC ts[j].d = true) : (ds (ts.take (j + 1))).all rightC = true := by
  rw [ds_snoc ts j h, List.all_append, ha]; simp [hr]
theorem all_not (ts : List Ck) (j : Nat) (h : j < ts.length) (hr : rightC ts[j].d = false) : (ds ts).all rightC = false := by
  rw [List.all_eq_false]
  exact ⟨ts[j].d, List.mem_map.2 ⟨_, List.getElem_mem h, rfl⟩, by simp [hr]⟩
theorem encs_take (ts : List Ck) (j : Nat) : (encs (ds (ts.take j))).length ≤ (encs (ds ts)).length := by
  have : ds ts = ds (ts.take j) ++ ds (ts.drop j) := by rw [ds, ds, ds, ← List.map_append, List.take_append_drop]
  rw [this, encs_app, List.length_append]; omega
theorem CkS.okd {w : World} {v : Value} {ts : List Ck} (h : CkS w v ts) : ∀ d ∈ ds ts, okC d := by
  intro d hd
  obtain ⟨t, ht, rfl⟩ := List.mem_map.1 hd
  exact (h.2 t ht).y
/-- few chunks, of few bytes -/
def fewC (ts : List Ck) : Bool := decide (ts.length ≤ 60) && ts.all fun t => decide (t.b.length ≤ 400)
theorem few_iff {ts : List Ck} : fewC ts = true ↔ ts.length ≤ 60 ∧ ∀ t ∈ ts, t.b.length ≤ 400 := by
  simp [fewC]
end Go.Proofs.Ytphofpemblindaa
