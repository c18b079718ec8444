/-
  Texts of numbers, one behind the other.
-/
import Derived.Test.YtcoiincgclglbaaArrs
import Derived.Lib.Bytes
namespace Go.Proofs.Ytcoiincgclglbaa
open Go.RowKit

theorem strOfNums_cat (a b : List Nat) : strOfNums (up (a ++ b)) = strOfNums (up a) ++ strOfNums (up b) := by
  rw [up_append]
  unfold strOfNums
  apply ByteArray.ext
  simp

end Go.Proofs.Ytcoiincgclglbaa
