/-
  What the package's two variables hold: the words ahead of any block, and what each step adds.
-/
import Derived.Test.YtocnbhefjhammaaDoorShaAsk
namespace Go.Proofs.YtocnbhefjhammaaDoor
open Go.RowKit

structure Laid (w : World) : Prop where
  roots : ∀ i, i < 64 → w.cell? ⟨0, i, none⟩ = some (.int .u32 (shaK.getD i 0 : Nat))
  first : ∀ i, i < 8 → w.cell? ⟨1, i, none⟩ = some (.int .u32 (shaH.list.getD i 0 : Nat))
theorem Laid.lt {w : World} (h : Laid w) : 0 < w.heap.size ∧ 1 < w.heap.size :=
  ⟨World.block_lt_of_cell? w _ (h.roots 0 (by decide)), World.block_lt_of_cell? w _ (h.first 0 (by decide))⟩
theorem Laid.to {w w' : World} (h : Laid w) (hb : Below w.heap.size w w') : Laid w' :=
  ⟨fun i hi => (hb.cell h.lt.1).trans (h.roots i hi), fun i hi => (hb.cell h.lt.2).trans (h.first i hi)⟩
/-- What is written elsewhere leaves them. -/
theorem Laid.off {F : Nat → Prop} {w w' : World} (h : Laid w) (hb : Off F w w') (hF : ∀ k, F k → 0 < k ∧ 1 < k) : Laid w' :=
  ⟨fun i hi => (World.cell?_of_block (hb.block _ h.lt.1 fun hf => Nat.lt_irrefl _ (hF _ hf).1)).trans (h.roots i hi), fun i hi => (World.cell?_of_block (hb.block _ h.lt.2 fun hf => Nat.lt_irrefl _ (hF _ hf).2)).trans (h.first i hi)⟩
theorem range_of_cells {w : World} {g : Nat} {l : List Nat} (hl : l.length = 8) (h : ∀ i, i < 8 → w.cell? ⟨g, i, none⟩ = some (.int .u32 (l.getD i 0 : Nat))) : w.rangeAt g 0 (l.map fun z : Nat => Value.int .u32 (z : Int)) := fun j v hv => by
  have hj : j < l.length := by
    rcases Nat.lt_or_ge j l.length with h | h
    · exact h
    · rw [List.getElem?_eq_none (by simpa using h)] at hv; cases hv
  rw [Nat.zero_add, h j (by omega), ← hv, List.getElem?_map, List.getElem?_eq_getElem hj]
  simp [List.getD_eq_getElem?_getD, List.getElem?_eq_getElem hj]
theorem Laid.firstRange {w : World} (h : Laid w) : w.rangeAt 1 0 (shaH.list.map fun z : Nat => Value.int .u32 (z : Int)) := range_of_cells rfl h.first

end Go.Proofs.YtocnbhefjhammaaDoor
