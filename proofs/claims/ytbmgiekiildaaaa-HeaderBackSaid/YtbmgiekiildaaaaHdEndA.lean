/-
  What the frames of HeaderEncodes, HeaderDecodes and HeaderBack import.
-/
import Derived.Test.YtbmgiekiildaaaaHdLaw2
import Derived.Test.YtbmgiekiildaaaaHead
import Derived.Test.YtbmgiekiildaaaaRow
namespace Go.Proofs.Ytbmgiekiildaaaa
open Go.RowKit
theorem hd_bounds {n : Int} (h : (Lit.int .u8 n).wf = true) : 0 ≤ n ∧ n ≤ 255 := bounds_u8 h
end Go.Proofs.Ytbmgiekiildaaaa
