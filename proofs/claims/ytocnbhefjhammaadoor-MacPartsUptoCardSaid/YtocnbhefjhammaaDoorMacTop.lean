/-
  Layer 4: its laws as walks, and what is asked of its calls, together.
-/
import Derived.Test.YtocnbhefjhammaaDoorMacDerC
import Derived.Test.YtocnbhefjhammaaDoorMacLong
import Derived.Test.YtocnbhefjhammaaDoorMacLaws
import Derived.Test.YtocnbhefjhammaaDoorShaTable
