/- The walk of Num of wire's Writer. -/
import Derived.Test.YtonkecfgopbclaaWireW
namespace Go.Proofs.Ytonkecfgopbclaa
open Go.RowKit
set_option maxHeartbeats 400000 in
theorem wnum_any (B pb : Nat) (ob : Option Nat) (l : List UInt8) (n : Int) (w : World) (hw : Wr B w pb ob l) (hn : Fits 4294967296 n) (hm : l.length ≤ 140737488300000) :
    Calls Try.prog 24 #[.pointer (some ⟨pb, 0, none⟩), .int .u32 n] w fun e w' => e = .returned (.tuple #[]) ∧ WPost B w pb ob (l ++ bytesI n.toNat 4) w' := by
  have hu := u64_of hn (by decide)
  have hw1 := u64_id hu
  refine calls_q fun Q HQ => ?_
  go_enter Try.func24, Try.ntmps24
  go_wp2_with fail
  refine (wnumber_any B pb ob l n 4 w hw hu hm).mono ?_
  rintro e w2 ⟨rfl, hp⟩
  have HP := Lib.hid hp
  clear hp
  go_wp2_with fail
  go_end0
  exact HQ.out _ _ ⟨rfl, HP.out⟩
end Go.Proofs.Ytonkecfgopbclaa
