/-
  Rows of numbers of 32 bits in memory: the cells of a block.
-/
import Derived.Test.YtbmgiekiildaaaaWords
import Derived.Deep.WholeRow
import Derived.Deep.MidRow
import Derived.Laws.CopyOwn
namespace Go.Proofs.Ytbmgiekiildaaaa
open Go.RowKit

/-- A row of registers. -/
def U (zs : List Nat) : Array Value := (zs.map fun z : Nat => Value.int .u32 (z : Int)).toArray
def Row (w : World) (g : Nat) (t : TypeId) (zs : List Nat) : Prop := w.heap[g]? = some (.cells (U zs) t (0, 0))
theorem U_size (zs : List Nat) : (U zs).size = zs.length := by simp [U]
theorem U_one (zs : List Nat) : (U zs).all (·.oneCell') = true := by
  rw [Array.all_eq_true_iff_forall_mem]
  intro v hv
  simp only [U, List.mem_toArray, List.mem_map] at hv
  obtain ⟨z, _, rfl⟩ := hv
  rfl
theorem U_at (zs : List Nat) (i : Nat) (hi : i < zs.length) : (U zs)[i]? = some (.int .u32 (zs.getD i 0 : Nat)) := by
  simp [U, List.getElem?_eq_getElem hi, List.getD_eq_getElem?_getD]
theorem U_set (zs : List Nat) (i z : Nat) : (U zs).setIfInBounds i (.int .u32 (z : Int)) = U (zs.set i z) := by
  simp [U, List.map_set]
section
variable {w w' : World} {g : Nat} {t : TypeId} {zs : List Nat}
theorem Row.cell (h : Row w g t zs) {i : Nat} (hi : i < zs.length) : w.cell? ⟨g, i, none⟩ = some (.int .u32 (zs.getD i 0 : Nat)) := by
  rw [cell_of_row w g i _ t _ h, U_at zs i hi]
theorem Row.below {B : Nat} (h : Row w g t zs) (hb : Below B w w') (hg : g < B) : Row w' g t zs := (hb.block g hg).trans h
theorem Row.lt (h : Row w g t zs) : g < w.heap.size := by
  by_cases hlt : g < w.heap.size
  · exact hlt
  · have hn : w.heap[g]? = none := by simp; omega
    rw [Row, hn] at h
    cases h
theorem Row.new (w : World) (t : TypeId) (zs : List Nat) : Row (w.alloc (.cells (U zs) t)) w.heap.size t zs := heap_alloc_new _ _
theorem Row.alloc (h : Row w g t zs) (o : Obj) : Row (w.alloc o) g t zs := (Below.heap_alloc w o g h.lt).trans h
theorem Row.set (h : Row w g t zs) (i z : Nat) : Row (w.setCell ⟨g, i, none⟩ (.int .u32 (z : Int))) g t (zs.set i z) := by
  rw [Row, heap_setCell_same w g i _ t _ h, U_set]
theorem Row.other (h : Row w g t zs) (a : Addr) (v : Value) (ha : g ≠ a.block) : Row (w.setCell a v) g t zs := (heap_setCell_other w a g v ha).trans h
theorem Row.laid (h : Row w g t zs) (ys : List Nat) : Row (w.setRow g (U ys)) g t ys := setRow_heap w g _ _ t _ h
theorem Row.beside (h : Row w g t zs) (k : Nat) (cs : Array Value) (hk : g ≠ k) : Row (w.setRow k cs) g t zs := (setRow_other w k g cs hk).trans h
theorem Row.range (h : Row w g t zs) : w.rangeAt g 0 (zs.map fun z : Nat => Value.int .u32 (z : Int)) := fun j v hv => by
  rw [Nat.zero_add, cell_of_row w g j _ t _ h]
  simpa [U] using hv
theorem Row.free (h : Row w g t zs) (j : Nat) : w.frozen? ⟨g, j, none⟩ = false := frozen_of_row w g j _ t h
end

theorem Row.new' (w : World) (t : TypeId) (g : Nat) (zs : List Nat) {cs : Array Value} (hg : g = w.heap.size) (hc : cs = U zs) : Row (w.alloc (.cells cs t)) g t zs := by
  subst hg hc
  exact Row.new w t zs

end Go.Proofs.Ytbmgiekiildaaaa
