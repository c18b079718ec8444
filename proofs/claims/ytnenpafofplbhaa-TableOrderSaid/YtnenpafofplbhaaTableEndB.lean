/-
  The law TableOrder, and what it asks, of the landed code.
-/
import Derived.Test.YtnenpafofplbhaaTableOrder
import Derived.Test.YtnenpafofplbhaaTableTop
namespace Go.Proofs.Ytnenpafofplbhaa
end Go.Proofs.Ytnenpafofplbhaa
