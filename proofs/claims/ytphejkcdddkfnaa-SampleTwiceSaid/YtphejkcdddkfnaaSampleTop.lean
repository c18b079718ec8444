/-
  The landed sample is as it is asked.
-/
import Derived.Test.YtphejkcdddkfnaaSampleC3
import Derived.Test.YtphejkcdddkfnaaSampleTwice
import Derived.Test.YtphejkcdddkfnaaSampleDist
import Derived.Test.YtphejkcdddkfnaaSampleFirst
import Derived.Test.YtphejkcdddkfnaaSampleNames
import Derived.Test.YtphejkcdddkfnaaRow
namespace Go.Proofs.Ytphejkcdddkfnaa
open Go.RowKit

theorem sample_spec (w0 : World) : SampleSpec w0 where
  hash v b w _ _ _ := (hash_any v b w).mono fun e w' ⟨h1, h2⟩ => ⟨h1, by subst h2; exact Below.refl _ _⟩
  taken v b o w _ _ _ _ := (taken_any v b o w).mono fun e w' ⟨h1, h2⟩ => ⟨h1, by subst h2; exact Below.refl _ _⟩
  dist A c l w _ h hz hc hl := by
    unfold distR
    by_cases hbad : 4096 < l.length
    · rw [if_pos hbad]
      refine (distBad_go A c l.length w hbad).mono fun e w' ⟨h1, h2⟩ => ?_
      subst h2
      exact ⟨none, 0, h1, Nat.le_refl _, Ints.nil _ _ _ _, Below.refl _ _⟩
    · rw [if_neg hbad]
      refine (dist_go A c l w h hz (by omega)).mono fun e w' ⟨h1, h2, h3⟩ => ?_
      exact ⟨_, l.length, by rw [distL_len]; exact h1, by rw [distL_len]; exact Nat.le_refl _, h2, h3⟩
  hist A c ds n w _ h hz hc h1 := by
    by_cases hbad : n < 0 ∨ 4096 < n ∨ 4096 < ds.length
    · simp only [if_pos hbad]
      exact histBad_go A c ds.length n w hbad
    · simp only [if_neg hbad]
      obtain ⟨m, rfl⟩ := Int.eq_ofNat_of_zero_le (show 0 ≤ n by omega)
      simp only [Int.toNat_natCast]
      exact hist_go A c ds m w h (by omega) (by omega)

end Go.Proofs.Ytphejkcdddkfnaa
