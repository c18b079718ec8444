/-
  The document's own Same (stowageref16), of the same tables.
-/
import Derived.Test.YtbmgiekiildaaaaTableEq
import Derived.Test.YtbmgiekiildaaaaSame
namespace Go.Proofs.Ytbmgiekiildaaaa
open Go.RowKit

/-- Two tables laid in boxes of their own. -/
theorem box_two (w : World) (x y z x' y' z' : Value) (T : TypeId) : ∃ W, W = (w.alloc (.cells #[x, y, z] T)).alloc (.cells #[x', y', z'] T) ∧
    (∀ m, (W.drewN m).cell? ⟨w.heap.size, 0, none⟩ = some x ∧ (W.drewN m).cell? ⟨w.heap.size, 1, none⟩ = some y ∧ (W.drewN m).cell? ⟨w.heap.size, 2, none⟩ = some z ∧
      (W.drewN m).cell? ⟨w.heap.size + 1, 0, none⟩ = some x' ∧ (W.drewN m).cell? ⟨w.heap.size + 1, 1, none⟩ = some y' ∧ (W.drewN m).cell? ⟨w.heap.size + 1, 2, none⟩ = some z') ∧ Below w.heap.size w W ∧ ∀ m, Below w.heap.size w (W.drewN m) := by
  refine ⟨_, rfl, fun m => ?_, ?_, fun m => ?_⟩
  · have h := (heap_alloc_new w (.cells #[x, y, z] T))
    have h1 : ((w.alloc (.cells #[x, y, z] T)).alloc (.cells #[x', y', z'] T)).heap[w.heap.size]? = some (.cells #[x, y, z] T) := (Below.heap_alloc (w.alloc (.cells #[x, y, z] T)) (.cells #[x', y', z'] T) _ (by simp)).trans h
    have h2 := heap_alloc_new (w.alloc (.cells #[x, y, z] T)) (.cells #[x', y', z'] T)
    have e : (w.alloc (.cells #[x, y, z] T)).heap.size = w.heap.size + 1 := by simp
    rw [e] at h2
    have q1 : ∀ i v, (#[x, y, z] : Array Value)[i]? = some v → ((w.alloc (.cells #[x, y, z] T)).alloc (.cells #[x', y', z'] T)).cell? ⟨w.heap.size, i, none⟩ = some v := fun i v hv => by rw [cell_of_row _ _ _ _ _ _ h1, hv]
    have q2 : ∀ i v, (#[x', y', z'] : Array Value)[i]? = some v → ((w.alloc (.cells #[x, y, z] T)).alloc (.cells #[x', y', z'] T)).cell? ⟨w.heap.size + 1, i, none⟩ = some v := fun i v hv => by rw [cell_of_row _ _ _ _ _ _ h2, hv]
    exact ⟨q1 0 x rfl, q1 1 y rfl, q1 2 z rfl, q2 0 x' rfl, q2 1 y' rfl, q2 2 z' rfl⟩
  · exact ((Below.refl _ _).alloc (Nat.le_refl _) _).alloc (by simp) _
  · exact below_drewN (((Below.refl _ _).alloc (Nat.le_refl _) _).alloc (by simp) _) m

end Go.Proofs.Ytbmgiekiildaaaa
