/-
  The laws of the layer line, and what they ask, of the landed code.
-/
import Derived.Test.YtbfchclfonicmaaLineLaw2
import Derived.Test.YtbfchclfonicmaaLineBack
import Derived.Test.YtbfchclfonicmaaLineApart
import Derived.Test.YtbfchclfonicmaaLineTurned
import Derived.Test.YtbfchclfonicmaaLineCuts
import Derived.Test.YtbfchclfonicmaaLineArg
import Derived.Test.YtbfchclfonicmaaRows4
import Derived.Test.YtbfchclfonicmaaIntRow
import Derived.Test.YtbfchclfonicmaaLineTop
namespace Go.Proofs.Ytbfchclfonicmaa
end Go.Proofs.Ytbfchclfonicmaa
