/-
  The laws of the layer table that stand, and what they ask, of the landed code.
-/
import Derived.Test.YtnenpafofplbhaaTableNews
import Derived.Test.YtnenpafofplbhaaTableTakes
import Derived.Test.YtnenpafofplbhaaTableStays
import Derived.Test.YtnenpafofplbhaaTableBack
import Derived.Test.YtnenpafofplbhaaRecArg
import Derived.Test.YtnenpafofplbhaaTableArg
import Derived.Test.YtnenpafofplbhaaTableTop
namespace Go.Proofs.Ytnenpafofplbhaa
end Go.Proofs.Ytnenpafofplbhaa
