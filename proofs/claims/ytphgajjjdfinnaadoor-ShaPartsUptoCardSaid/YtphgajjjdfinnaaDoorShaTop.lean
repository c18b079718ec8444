/-
  Layer 3: its laws as walks, and what is asked of its calls, together.
-/
import Derived.Test.YtphgajjjdfinnaaDoorShaTable
import Derived.Test.YtphgajjjdfinnaaDoorShaParts
