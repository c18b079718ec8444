/-
  The landed solve is as it is asked.
-/
import Derived.Test.YtnpdffcplgjbnaaSolveC8
import Derived.Test.YtnpdffcplgjbnaaSolveBestL
import Derived.Test.YtnpdffcplgjbnaaSolveAlone
import Derived.Test.YtnpdffcplgjbnaaSolveAll
import Derived.Test.YtnpdffcplgjbnaaSolveSlower
import Derived.Test.YtnpdffcplgjbnaaRows3
import Derived.Test.YtnpdffcplgjbnaaRow
namespace Go.Proofs.Ytnpdffcplgjbnaa
open Go.RowKit

theorem solve_spec (w0 : World) : SolveSpec w0 where
  greedy total A0 A1 c0 c1 least ps w _ h := by
    by_cases hE : solveE total least (ps.map Cur.l) = 0
    · have hr : greedyR total least (ps.map Cur.l) = (0, giveL (ps.map Cur.l) least (total - least.sum).toNat) := by unfold greedyR; rw [if_pos hE]
      rw [hr]
      have hl := giveL_len (ps.map Cur.l) least (total - least.sum).toNat
      simp only [hl]
      exact greedy_go total A0 A1 c0 c1 least ps w h hE
    · have hr : greedyR total least (ps.map Cur.l) = (solveE total least (ps.map Cur.l), []) := by unfold greedyR; rw [if_neg hE]
      rw [hr]
      exact (greedy_bad total A0 A1 c0 c1 least ps w h hE).mono fun e w' ⟨h1, h2⟩ => ⟨none, 0, h1, Nat.le_refl _, Ints.nil _ _ _ _, h2⟩
  best total A0 A1 c0 c1 least ps w _ h := by
    by_cases hE : solveE total least (ps.map Cur.l) = 0
    · have hr : bestQ total least (ps.map Cur.l) = (0, bestR least (ps.map Cur.l) total) := by unfold bestQ; rw [if_pos hE]
      rw [hr]
      refine (best_go total A0 A1 c0 c1 least ps w h hE).mono fun e w' ⟨A, c, h1, h2, h3, h4, h5⟩ => ⟨A, c, ?_, ?_, h4, h5⟩
      · simp only [h2]; exact h1
      · simp only [h2]; exact h3
    · have hr : bestQ total least (ps.map Cur.l) = (solveE total least (ps.map Cur.l), [], 0) := by unfold bestQ; rw [if_neg hE]
      rw [hr]
      exact (best_bad total A0 A1 c0 c1 least ps w h hE).mono fun e w' ⟨h1, h2⟩ => ⟨none, 0, h1, Nat.le_refl _, Ints.nil _ _ _ _, h2⟩

end Go.Proofs.Ytnpdffcplgjbnaa
