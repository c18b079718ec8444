/-
  All that is asked of the layer rate, of the landed code.
-/
import Derived.Test.YtcliampjgbmeaaaRateC1
import Derived.Test.YtcliampjgbmeaaaRateC5
import Derived.Test.YtcliampjgbmeaaaRateLaws
import Derived.Test.YtcliampjgbmeaaaRateIdle
import Derived.Test.YtcliampjgbmeaaaRateOne
import Derived.Test.YtcliampjgbmeaaaRateWaits
import Derived.Test.YtcliampjgbmeaaaRateBounds
import Derived.Test.YtcliampjgbmeaaaRateFloat
import Derived.Test.YtcliampjgbmeaaaBucket
import Derived.Test.YtcliampjgbmeaaaRow
namespace Go.Proofs.Ytcliampjgbmeaaa
open Go.RowKit

theorem rate_spec (w : World) : RateSpec w where
  fixed := fun f W _ hf => (fixed_any f W hf).mono (fun _ _ h => ⟨h.1, h.2 ▸ Below.refl _ _⟩)
  float := fun n W _ _ => (float_any n W).mono (fun _ _ h => ⟨h.1, h.2 ▸ Below.refl _ _⟩)
  new := fun r b a W _ _ _ _ => new_any r b a W
  fill := fun k m W _ _ _ => fill_any k m W
  take := fun k n m W _ _ _ _ => take_any k n m W
  ready := fun k n m W _ _ _ _ => ready_any k n m W

end Go.Proofs.Ytcliampjgbmeaaa
