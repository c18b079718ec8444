/-
  A cipher's cells with its images alone.
-/
import Derived.Test.YtcoiincgclglbaaAesC9
namespace Go.Proofs.Ytcoiincgclglbaa
open Go.RowKit

theorem built_zero : Try.prog.built 60 [(0, .agg (BA (sbox ++ ibox)))] = some (BA ((sbox ++ ibox) ++ zeros 176)) := by kernel_rfl

end Go.Proofs.Ytcoiincgclglbaa
