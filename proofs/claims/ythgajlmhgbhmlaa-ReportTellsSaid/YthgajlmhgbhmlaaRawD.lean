/- Reading on behind bytes that were taken. -/
import Derived.Test.YthgajlmhgbhmlaaWireR
namespace Go.Proofs.Ythgajlmhgbhmlaa
open Go.RowKit
theorem rawE_drop {l : List UInt8} {k n : Nat} {e : Int} (h : k + n ≤ l.length) : rawE n (l.drop k) e = e := by rw [rawE, if_pos (by simp; omega)]
end Go.Proofs.Ythgajlmhgbhmlaa
