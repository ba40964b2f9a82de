/- Plain lemmas under all walks: a contract's post kept out of the walk's reach, numbers of 64 bits and their bits. -/
import Derived.Test.YteoegmfhfejdkaaRows
import Derived.WalkKit
import Derived.WalkSpells
import Derived.WalkLawsBesides
import Derived.BigQuiet
import Derived.Deep.QuietTactic
import Derived.Lib.Hide
namespace Go.Proofs.Yteoegmfhfejdkaa
open Go.RowKit
theorem calls_q {P : Program} {f : FuncId} {args : Array Value} {w : World} {R : Ending → World → Prop}
    (h : ∀ Q : Ending → World → Prop, Hid (∀ e w', R e w' → Q e w') → Calls P f args w Q) : Calls P f args w R :=
  h R (Lib.hid fun _ _ h => h)
theorem ret_int {k : IntKind} {a b : Int} (h : a = b) : Ending.returned (.int k a) = .returned (.int k b) := by rw [h]
theorem ret_bool {a b : Bool} (h : a = b) : Ending.returned (.bool a) = .returned (.bool b) := by rw [h]
theorem wrap_u64 (n : Int) : IntKind.u64.wrap n = n % 18446744073709551616 := by simp [IntKind.wrap, IntKind.bits, IntKind.signed]
/-- a number of 64 bits, closed to the walk -/
structure U64 (n : Int) : Prop where
  lo : 0 ≤ n
  hi : n < 18446744073709551616
theorem u64_id {n : Int} (h : U64 n) : IntKind.u64.wrap n = n := by
  have := h.lo; have := h.hi
  rw [wrap_u64]; omega
theorem wrap_u8 (n : Int) : IntKind.u8.wrap n = n % 256 := by simp [IntKind.wrap, IntKind.bits, IntKind.signed]
theorem wrap_u16 (n : Int) : IntKind.u16.wrap n = n % 65536 := by simp [IntKind.wrap, IntKind.bits, IntKind.signed]
theorem wrap_u32 (n : Int) : IntKind.u32.wrap n = n % 4294967296 := by simp [IntKind.wrap, IntKind.bits, IntKind.signed]
theorem natpow_cast (s : Nat) : ((2:Int) ^ s) = ((2 ^ s : Nat) : Int) := by simp
theorem pow_le_64 {s : Nat} (h : s ≤ 64) : (2:Nat) ^ s ≤ 18446744073709551616 := by
  have : (2:Nat) ^ s ≤ 2 ^ 64 := Nat.pow_le_pow_right (by decide) h
  omega
theorem pow_le_63 {s : Nat} (h : s ≤ 63) : (2:Nat) ^ s ≤ 9223372036854775808 := by
  have : (2:Nat) ^ s ≤ 2 ^ 63 := Nat.pow_le_pow_right (by decide) h
  omega
theorem bit_hi {n i : Nat} (h : n < 18446744073709551616) (hi : 64 ≤ i) : n.testBit i = false := by
  have : (2:Nat) ^ 64 ≤ 2 ^ i := Nat.pow_le_pow_right (by decide) hi
  exact Nat.testBit_lt_two_pow (by omega)
theorem ofInt_u64 (a : Nat) : (BitVec.ofInt 64 (a : Int)) = BitVec.ofNat 64 a := by rw [BitVec.ofInt_natCast]
theorem tb_u64 (x : BitVec 64) (i : Nat) : x.toNat.testBit i = x.getLsbD i := by simp [BitVec.testBit_toNat]
theorem u64_and_nat (a b : Nat) (ha : a < 18446744073709551616) : bits .and .u64 (a : Int) (b : Int) = ((a &&& b : Nat) : Int) := by
  have hx : a &&& b < 18446744073709551616 := Nat.lt_of_le_of_lt Nat.and_le_left ha
  show IntKind.u64.wrap ((BitVec.ofInt 64 (a : Int) &&& BitVec.ofInt 64 (b : Int)).toNat : Int) = _
  rw [ofInt_u64, ofInt_u64, wrap_u64]
  have e : (BitVec.ofNat 64 a &&& BitVec.ofNat 64 b).toNat = a &&& b := by
    apply Nat.eq_of_testBit_eq; intro i
    rw [tb_u64]
    simp only [BitVec.getLsbD_and, BitVec.getLsbD_ofNat, Nat.testBit_and]
    by_cases hi : i < 64
    · simp [hi]
    · have : a.testBit i = false := bit_hi ha (by omega)
      simp [hi, this]
  rw [e]; omega
theorem u64_or_nat (a b : Nat) (ha : a < 18446744073709551616) (hb : b < 18446744073709551616) : bits .or .u64 (a : Int) (b : Int) = ((a ||| b : Nat) : Int) := by
  have hx : a ||| b < 2 ^ 64 := Nat.or_lt_two_pow (by omega) (by omega)
  show IntKind.u64.wrap ((BitVec.ofInt 64 (a : Int) ||| BitVec.ofInt 64 (b : Int)).toNat : Int) = _
  rw [ofInt_u64, ofInt_u64, wrap_u64, BitVec.toNat_or, BitVec.toNat_ofNat, BitVec.toNat_ofNat, Nat.mod_eq_of_lt (by omega), Nat.mod_eq_of_lt (by omega)]
  omega
/-- and-not of 64 bits -/
def andNotN (a b : Nat) : Nat := (BitVec.ofNat 64 a &&& ~~~ BitVec.ofNat 64 b).toNat
theorem u64_andNot_nat (a b : Nat) : bits .andNot .u64 (a : Int) (b : Int) = ((andNotN a b : Nat) : Int) := by
  show IntKind.u64.wrap ((BitVec.ofInt 64 (a : Int) &&& ~~~ BitVec.ofInt 64 (b : Int)).toNat : Int) = _
  rw [ofInt_u64, ofInt_u64, wrap_u64]
  have := (BitVec.ofNat 64 a &&& ~~~ BitVec.ofNat 64 b).isLt
  show _ = (((BitVec.ofNat 64 a &&& ~~~ BitVec.ofNat 64 b).toNat : Nat) : Int)
  omega
theorem andNotN_lt (a b : Nat) : andNotN a b < 18446744073709551616 := (BitVec.ofNat 64 a &&& ~~~ BitVec.ofNat 64 b).isLt
theorem andNotN_bit (a b i : Nat) : (andNotN a b).testBit i = (decide (i < 64) && a.testBit i && !b.testBit i) := by
  unfold andNotN
  rw [tb_u64]
  simp only [BitVec.getLsbD_and, BitVec.getLsbD_ofNat, BitVec.getLsbD_not]
  by_cases hi : i < 64 <;> simp [hi]
end Go.Proofs.Yteoegmfhfejdkaa
