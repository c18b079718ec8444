/-
  A cipher's cells with its images alone.
-/
import Derived.Test.YtgmmmnoakflinaaAesC9
namespace Go.Proofs.Ytgmmmnoakflinaa
open Go.RowKit

theorem built_zero : Try.prog.built 45 [(0, .agg (BA (sbox ++ ibox)))] = some (BA ((sbox ++ ibox) ++ zeros 176)) := by kernel_rfl

end Go.Proofs.Ytgmmmnoakflinaa
