/-
  The landed curve is as it is asked.
-/
import Derived.Test.YtoedapeookkodaaCurveC3
import Derived.Test.YtoedapeookkodaaCurveCorners
import Derived.Test.YtoedapeookkodaaCurveSteep
import Derived.Test.YtoedapeookkodaaRow
namespace Go.Proofs.Ytoedapeookkodaa
open Go.RowKit

theorem curve_spec (w0 : World) : CurveSpec w0 where
  makes A c l t w _ h _ _ _ _ := ofC_any A c l t w h
  hull A c l w _ h _ _ hl := by
    unfold hullR
    cases hs : soundL l
    · refine (hullC_bad A c l w h (by omega) hs).mono fun e w' ⟨h1, h2⟩ => ?_
      subst h2
      exact ⟨none, 0, h1, Nat.le_refl _, Ints.nil _ _ _ _, Below.refl _ _⟩
    · exact hullC_any A c l w h hs
  at_ A c l z w _ h _ _ hl _ := (atC_any A c l z w h (by omega)).mono fun e w' ⟨h1, h2⟩ => ⟨h1, by subst h2; exact Below.refl _ _⟩
  ratio A c l z refs w _ h _ _ hl _ hr := (ratioC_any A c l z refs w h (by omega) hr.2).mono fun e w' ⟨h1, h2⟩ => ⟨_, h1, ratioW_ok l z refs hr.2, by subst h2; exact Below.refl _ _⟩

end Go.Proofs.Ytoedapeookkodaa
