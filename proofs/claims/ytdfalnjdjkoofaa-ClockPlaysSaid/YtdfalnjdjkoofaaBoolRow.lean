/-
  A row of flags that lies whole in a block of one's own: what it holds, a store into it, a store elsewhere. No program is spoken of here.
-/
import Derived.Test.YtdfalnjdjkoofaaWords
import Derived.Deep.OwnRows
namespace Go.Proofs.Ytdfalnjdjkoofaa
open Go.RowKit

def BCs (l : List Bool) : Array Value := (l.map Value.bool).toArray
theorem BCs_set (l : List Bool) (i : Nat) (x : Bool) : (BCs l).setIfInBounds i (.bool x) = BCs (l.set i x) := by
  unfold BCs
  rw [List.setIfInBounds_toArray, List.map_set]
theorem BCs_at {l : List Bool} {i : Nat} (h : i < l.length) : (BCs l)[i]? = some (.bool (l.getD i false)) := by
  simp [BCs, List.getD_eq_getElem?_getD, h]
theorem BCs_zero (n : Nat) : madeCells #[Value.bool false] n = BCs (List.replicate n false) := Array.toList_inj.1 (by rw [toList_madeCells_one]; simp [BCs])
/-- The flags l, whole, in block g. -/
def BRow (t : TypeId) (g : Nat) (l : List Bool) (w : World) : Prop := w.heap[g]? = some (.cells (BCs l) t (0, 0))
section
variable {t : TypeId} {g : Nat} {l : List Bool} {w w' : World}
theorem BRow.cell (h : BRow t g l w) {i : Nat} (hi : i < l.length) : w.cell? ⟨g, i, none⟩ = some (.bool (l.getD i false)) := by
  rw [cell_of_row _ _ _ _ _ _ h, BCs_at hi]
theorem BRow.thaw (h : BRow t g l w) (i : Nat) : w.frozen? ⟨g, i, none⟩ = false := frozen_of_row _ _ _ _ _ h
theorem BRow.set (h : BRow t g l w) (i : Nat) (x : Bool) : BRow t g (l.set i x) (w.setCell ⟨g, i, none⟩ (.bool x)) := by
  show _ = _
  have e : (w.setCell ⟨g, i, none⟩ (.bool x)).heap[g]? = some (.cells ((BCs l).setIfInBounds i (.bool x)) t (0, 0)) := by
    have h' : w.heap[g]? = some (.cells (BCs l) t (0, 0)) := h
    simp [World.setCell, Array.getElem?_modify, h']
  rw [e, BCs_set]
theorem BRow.other (h : BRow t g l w) {k : Nat} (hk : g ≠ k) (i : Nat) (v : Value) : BRow t g l (w.setCell ⟨k, i, none⟩ v) := by
  show _ = _
  rw [Below.heap_setCell _ _ _ _ (show g ≠ (⟨k, i, none⟩ : Addr).block from hk)]; exact h
theorem BRow.lt (h : BRow t g l w) : g < w.heap.size := (Array.getElem?_eq_some_iff.1 h).1
theorem BRow.below {B : Nat} (h : BRow t g l w) (hb : Below B w w') (hg : g < B) : BRow t g l w' := by
  show _ = _
  rw [hb.block g hg]; exact h
theorem BRow.new (w : World) (t : TypeId) (l : List Bool) : BRow t w.heap.size l (w.alloc (.cells (BCs l) t)) := heap_alloc_new w (.cells (BCs l) t)
end

end Go.Proofs.Ytdfalnjdjkoofaa
