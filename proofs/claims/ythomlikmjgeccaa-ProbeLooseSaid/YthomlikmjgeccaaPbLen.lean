/- How many bytes reading leaves. -/
import Derived.Test.YthomlikmjgeccaaPb
namespace Go.Proofs.Ythomlikmjgeccaa
open Go.RowKit

theorem rawR_le (n : Nat) (l : List UInt8) : (rawR n l).length ≤ l.length := by
  unfold rawR; split <;> simp
theorem next_le (s : RS) : s.next.l.length ≤ s.l.length := rawR_le 1 s.l
theorem pic_le (b : Bool) (s : RS) : (rdPic b s).l.length ≤ s.l.length := by
  unfold rdPic rdPicB
  split
  · split
    · exact Nat.le_trans (next_le _) (next_le s)
    · exact next_le s
  · exact Nat.le_refl _
theorem ba_le (b : Bool) (s : RS) : (rdBa b s).l.length ≤ s.l.length := by
  unfold rdBa
  split
  · exact next_le s
  · exact Nat.le_refl _
theorem numsT_le (a b : Bool) (s : RS) : (numsT a b s).l.length ≤ s.l.length := by
  unfold numsT rdLast
  split
  · exact next_le s
  · exact Nat.le_refl _
theorem numsB_le (a b c d : Bool) (s : RS) : (numsB a b c d s).l.length ≤ s.l.length :=
  Nat.le_trans (numsT_le _ _ _) (Nat.le_trans (ba_le _ _) (pic_le _ _))
theorem numsS_le (s : RS) : (numsS s).l.length ≤ s.next.l.length := numsB_le _ _ _ _ _
theorem readF_le (b7 lo st : Bool) (pt : Nat) (l : List UInt8) (e : Int) : (readF b7 lo st pt l e).l.length ≤ l.length := by
  unfold readF
  split
  · exact Nat.le_trans (numsS_le _) (next_le _)
  · exact Nat.le_refl _
theorem readS_le (l : List UInt8) : (readS l).l.length ≤ l.length := Nat.le_trans (readF_le _ _ _ _ _ _) (rawR_le 1 l)
end Go.Proofs.Ythomlikmjgeccaa
