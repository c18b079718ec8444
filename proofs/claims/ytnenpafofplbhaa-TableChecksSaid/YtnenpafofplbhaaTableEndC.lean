/-
  The law TableChecks, and what it asks, of the landed code.
-/
import Derived.Test.YtnenpafofplbhaaTableChecks
import Derived.Test.YtnenpafofplbhaaRecArg
import Derived.Test.YtnenpafofplbhaaTableArg
import Derived.Test.YtnenpafofplbhaaTableTop
namespace Go.Proofs.Ytnenpafofplbhaa
end Go.Proofs.Ytnenpafofplbhaa
