/-
  A row of integers that lies whole in a block of one's own: what it holds, a store into it, a store elsewhere; a cut of a slice of one's own from its beginning. No program is spoken of here.
-/
import Derived.Test.YtbmgiekiildaaaaWords
import Derived.Deep.OwnRows
namespace Go.Proofs.Ytbmgiekiildaaaa
open Go.RowKit

def ICs (l : List Int) : Array Value := (l.map (Value.int .i64)).toArray
theorem ICs_set (l : List Int) (i : Nat) (x : Int) : (ICs l).setIfInBounds i (.int .i64 x) = ICs (l.set i x) := by
  unfold ICs
  rw [List.setIfInBounds_toArray, List.map_set]
theorem ICs_at {l : List Int} {i : Nat} (h : i < l.length) : (ICs l)[i]? = some (.int .i64 (l.getD i 0)) := by
  simp [ICs, List.getD_eq_getElem?_getD, h]
theorem ICs_zero (n : Nat) : madeCells #[Value.int .i64 0] n = ICs (List.replicate n 0) := Array.toList_inj.1 (by rw [toList_madeCells_one]; simp [ICs])
/-- The list l, whole, in block g. -/
def IRow (t : TypeId) (g : Nat) (l : List Int) (w : World) : Prop := w.heap[g]? = some (.cells (ICs l) t (0, 0))
section
variable {t : TypeId} {g : Nat} {l : List Int} {w w' : World}
theorem IRow.cell (h : IRow t g l w) {i : Nat} (hi : i < l.length) : w.cell? ⟨g, i, none⟩ = some (.int .i64 (l.getD i 0)) := by
  rw [cell_of_row _ _ _ _ _ _ h, ICs_at hi]
theorem IRow.thaw (h : IRow t g l w) (i : Nat) : w.frozen? ⟨g, i, none⟩ = false := frozen_of_row _ _ _ _ _ h
theorem IRow.set (h : IRow t g l w) (i : Nat) (x : Int) : IRow t g (l.set i x) (w.setCell ⟨g, i, none⟩ (.int .i64 x)) := by
  show _ = _
  have e : (w.setCell ⟨g, i, none⟩ (.int .i64 x)).heap[g]? = some (.cells ((ICs l).setIfInBounds i (.int .i64 x)) t (0, 0)) := by
    have h' : w.heap[g]? = some (.cells (ICs l) t (0, 0)) := h
    simp [World.setCell, Array.getElem?_modify, h']
  rw [e, ICs_set]
theorem IRow.other (h : IRow t g l w) {k : Nat} (hk : g ≠ k) (i : Nat) (v : Value) : IRow t g l (w.setCell ⟨k, i, none⟩ v) := by
  show _ = _
  rw [Below.heap_setCell _ _ _ _ (show g ≠ (⟨k, i, none⟩ : Addr).block from hk)]; exact h
theorem IRow.lt (h : IRow t g l w) : g < w.heap.size := (Array.getElem?_eq_some_iff.1 h).1
theorem IRow.ints (h : IRow t g l w) : Ints w w.heap.size .i64 (some ⟨g, 0, none⟩) l := fun i hi =>
  ⟨g, 0, rfl, h.lt, by rw [Nat.zero_add]; exact h.cell hi⟩
theorem IRow.below {B : Nat} (h : IRow t g l w) (hb : Below B w w') (hg : g < B) : IRow t g l w' := by
  show _ = _
  rw [hb.block g hg]; exact h
theorem IRow.new (w : World) (t : TypeId) (l : List Int) : IRow t w.heap.size l (w.alloc (.cells (ICs l) t)) := heap_alloc_new w (.cells (ICs l) t)
end
/-- 's[:m]' of a slice of one's own. -/
theorem own_head {w : World} {base e n c m : Nat} {A : Option Addr} {xs : List Value} (h : w.ownsRow base e 1 (.slice A n c) n xs) (hm : m ≤ n) : w.ownsRow base e 1 (.slice A m c) m (xs.take m) := by
  refine ⟨by have := h.1; rw [List.length_take]; omega, ?_⟩
  rcases h.2 with ⟨hv, hn⟩ | ⟨g, cap, cur, hv, hb, hg, hle, hmax, hs, ht⟩
  · injection hv with h1 h2 h3
    subst h1 h2 h3
    exact Or.inl ⟨by rw [show m = 0 by omega], by omega⟩
  · injection hv with h1 h2 h3
    subst h1 h3
    refine Or.inr ⟨g, c, cur, rfl, hb, hg, by omega, hmax, hs, ?_⟩
    rw [← ht, List.take_take]
    congr 1; omega

end Go.Proofs.Ytbmgiekiildaaaa
