/-
  The program's weigh is as it is asked to be, and the laws' walks, together.
-/
import Derived.Test.YtcbimgdgodeppaaWeighC6
import Derived.Test.YtcbimgdgodeppaaWeighTurns
import Derived.Test.YtcbimgdgodeppaaWeighNone
import Derived.Test.YtcbimgdgodeppaaWeighAll
import Derived.Test.YtcbimgdgodeppaaWeighScales
import Derived.Test.YtcbimgdgodeppaaWeighOne
import Derived.Test.YtcbimgdgodeppaaRow
namespace Go.Proofs.Ytcbimgdgodeppaa

/-- Whatever the world, the layer weigh is as it is asked to be. -/
theorem weigh_top : ∀ w : World, WeighSpec w := weigh_spec

end Go.Proofs.Ytcbimgdgodeppaa
