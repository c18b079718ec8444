/-
  The document's own Tenant, Volume, Owned (stowageref16).
-/
import Derived.Test.YtbmgiekiildaaaaTableAsk
import Derived.BigQuiet
namespace Go.Proofs.Ytbmgiekiildaaaa
open Go.RowKit

/-- A table laid in a box of its own, and what it holds. -/
theorem box_facts (w : World) (x y z : Value) (T : TypeId) : (w.alloc (.cells #[x, y, z] T)).cell? ⟨w.heap.size, 0, none⟩ = some x ∧ (w.alloc (.cells #[x, y, z] T)).cell? ⟨w.heap.size, 1, none⟩ = some y ∧ (w.alloc (.cells #[x, y, z] T)).cell? ⟨w.heap.size, 2, none⟩ = some z ∧ Below w.heap.size w (w.alloc (.cells #[x, y, z] T)) := by
  have h := heap_alloc_new w (.cells #[x, y, z] T)
  exact ⟨by rw [cell_of_row _ _ _ _ _ _ h]; rfl, by rw [cell_of_row _ _ _ _ _ _ h]; rfl, by rw [cell_of_row _ _ _ _ _ _ h]; rfl, (Below.refl _ _).alloc (Nat.le_refl _) _⟩

end Go.Proofs.Ytbmgiekiildaaaa
