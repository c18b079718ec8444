/-
  Two rows of one's own that grow side by side.
-/
import Derived.Test.YtbfchclfonicmaaWords
namespace Go.Proofs.Ytbfchclfonicmaa
open Go.RowKit

theorem own_kept {w w' : World} {base e size n : Nat} {row : Option Nat} {v : Value} {xs : List Value} (h : w.ownsRow base e size v n xs) (hg : w.grownBy w' row) (hne : ∀ q, row = some q → v.ownBlock ≠ some q) : w'.ownsRow base e size v n xs := by
  refine h.kept hg ?_
  cases hv : v.ownBlock with
  | none => exact Or.inl rfl
  | some q => exact Or.inr fun e => hne q e.symm hv
/-- Two slices have no block in common. -/
def Apart (v u : Value) : Prop := ∀ q, v.ownBlock = some q → u.ownBlock ≠ some q
theorem Apart.symm {v u : Value} (h : Apart v u) : Apart u v := fun q hu hv => h q hv hu
theorem Apart.grown {v u v' : Value} {N : Nat} (h : Apart v u) (hu : ∀ q, u.ownBlock = some q → q < N) (hv : v'.ownBlock = v.ownBlock ∨ v'.ownBlock = some N) : Apart v' u := fun q hq hqu => by
  rcases hv with e | e
  · exact h q (e ▸ hq) hqu
  · have := hu q hqu
    rw [e] at hq; injection hq with hq; omega

end Go.Proofs.Ytbfchclfonicmaa
