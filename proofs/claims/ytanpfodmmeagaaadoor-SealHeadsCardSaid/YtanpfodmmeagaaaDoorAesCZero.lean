/-
  A cipher's cells with its images alone.
-/
import Derived.Test.YtanpfodmmeagaaaDoorAesC6G
namespace Go.Proofs.YtanpfodmmeagaaaDoor
open Go.RowKit

theorem built_zero : Tryd.prog.built 83 [(0, .agg (BA (sbox ++ ibox)))] = some (BA ((sbox ++ ibox) ++ zeros 176)) := by kernel_rfl

end Go.Proofs.YtanpfodmmeagaaaDoor
