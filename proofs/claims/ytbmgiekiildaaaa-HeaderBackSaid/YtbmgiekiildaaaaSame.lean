/-
  The document's own SameInts.
-/
import Derived.Test.YtbmgiekiildaaaaWords
import Derived.Test.YtbmgiekiildaaaaChecked
import Derived.Tactics
import Derived.Tactics2
import Derived.LoopTactic
import Derived.OpenShut
import Derived.WalkLawsBesides
import Derived.BigQuiet
namespace Go.Proofs.Ytbmgiekiildaaaa
open Go.RowKit

theorem ints_none (w : World) (B : Nat) (A : Option Addr) : Ints w B .i64 A [] := fun i hi => absurd hi (Nat.not_lt_zero i)
end Go.Proofs.Ytbmgiekiildaaaa
