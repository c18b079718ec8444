/-
  What a row lists of the package's two variables, as the walks want it; a world in which they hold it.
-/
import Derived.Test.YtocnbhefjhammaaDoorShaCode
import Derived.Test.YtocnbhefjhammaaDoorRows
import Derived.Lib.LaidTab
import Derived.Stop.LaidErr
namespace Go.Proofs.YtocnbhefjhammaaDoor
open Go.RowKit

theorem laid_of {W : World} (h : laidMetH Tryd.prog [("stowage/sha.first", Rows.laid_stowage_sha_first), ("stowage/sha.roots", Rows.laid_stowage_sha_roots)] W) : Laid W := by
  have h1 : laidMet Tryd.prog [("stowage/sha.first", Rows.laid_stowage_sha_first), ("stowage/sha.roots", Rows.laid_stowage_sha_roots)] W := h
  have g1 : Tryd.prog.globalNamed "stowage/sha.first" = some 1 := by kernel_rfl
  have g2 : Tryd.prog.globalNamed "stowage/sha.roots" = some 0 := by kernel_rfl
  have t1 : Lib.TabIs Tryd.prog W "stowage/sha.first" .u32 (up shaH.list) :=
    Lib.tabIs_of_head (n := 8) (t := 59) (e := 51) (rest := [("stowage/sha.roots", Rows.laid_stowage_sha_roots)]) g1 (by kernel_rfl) Tryd.underlying59 Tryd.underlying51 (by kernel_rfl) (by kernel_rfl) h1
  have t2 : Lib.TabIs Tryd.prog W "stowage/sha.roots" .u32 (up shaK) :=
    Lib.tabIs_of_head (n := 64) (t := 74) (e := 51) (rest := []) g2 (by kernel_rfl) Tryd.underlying74 Tryd.underlying51 (by kernel_rfl) (by kernel_rfl) h1.tail
  refine ⟨fun i hi => ?_, fun i hi => ?_⟩
  · rw [t2.cell g2 i (by rw [up_len]; exact hi), up_getD]
  · rw [t1.cell g1 i (by rw [up_len]; exact hi), up_getD]

def layRow (l : List Nat) : Obj → Obj
  | .cells _ t frozen => .cells (U l) t frozen
  | o => o
/-- A world for the witness: the settled one, the two variables holding what their initialisers lay. -/
noncomputable def laidWorld (os : Os) : World :=
  { World.holding Tryd.prog os ⟨#[], #[], []⟩ with heap := ((World.holding Tryd.prog os ⟨#[], #[], []⟩).heap.modify 0 (layRow shaK)).modify 1 (layRow shaH.list) }

end Go.Proofs.YtocnbhefjhammaaDoor
