/-
  The layer aes: its laws, and its code.
-/
import Derived.Test.YtgmmmnoakflinaaAesCode
import Derived.Test.YtgmmmnoakflinaaAesLaws
import Derived.Test.YtgmmmnoakflinaaAesMore
import Derived.Test.YtgmmmnoakflinaaAesBlocks
