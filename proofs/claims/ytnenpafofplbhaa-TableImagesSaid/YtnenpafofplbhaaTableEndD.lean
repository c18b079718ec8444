/-
  The law TableImages, and what it asks, of the landed code.
-/
import Derived.Test.YtnenpafofplbhaaTableImages
import Derived.Test.YtnenpafofplbhaaRecArg
import Derived.Test.YtnenpafofplbhaaTableArg
import Derived.Test.YtnenpafofplbhaaTableTop
namespace Go.Proofs.Ytnenpafofplbhaa
end Go.Proofs.Ytnenpafofplbhaa
