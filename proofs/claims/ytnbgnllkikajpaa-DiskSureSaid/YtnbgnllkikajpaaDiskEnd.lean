/-
  All that the frames of stage 14 want.
-/
import Derived.Test.YtnbgnllkikajpaaActs14
import Derived.Test.YtnbgnllkikajpaaDiskKeeps
import Derived.Test.YtnbgnllkikajpaaDiskLimits
import Derived.Test.YtnbgnllkikajpaaRow
import Derived.Test.YtnbgnllkikajpaaDiskPlays
import Derived.Test.YtnbgnllkikajpaaDiskSure
import Derived.Test.YtnbgnllkikajpaaDiskOwn
import Derived.Test.YtnbgnllkikajpaaDiskTop
namespace Go.Proofs.Ytnbgnllkikajpaa
end Go.Proofs.Ytnbgnllkikajpaa
