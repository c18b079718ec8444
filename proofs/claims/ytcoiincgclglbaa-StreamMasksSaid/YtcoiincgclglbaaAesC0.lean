/-
  Cells of arrays that lie in memory: one is stored, some are loaded or stored at once; a list that is made entry by entry.
-/
import Derived.Test.YtcoiincgclglbaaAesCN
import Derived.Test.YtcoiincgclglbaaArrs
import Derived.Test.YtcoiincgclglbaaChecked
import Derived.Tactics
import Derived.Tactics2
import Derived.LoopTactic
import Derived.OpenShut
import Derived.WalkLawsBesides
import Derived.BigQuiet
import Derived.BigRegion
import Derived.Deep.MidRow
import Derived.Deep.RegionHeld3
import Derived.Deep.DeepCutAuto
import Derived.StillTailTactics
namespace Go.Proofs.Ytcoiincgclglbaa
open Go.RowKit

/-- A list that is made entry by entry: the first k are done. -/
def prog (n : Nat) (f g : Nat → Nat) (k : Nat) : List Nat := (List.range n).map fun i => if i < k then f i else g i
theorem prog_len (n : Nat) (f g : Nat → Nat) (k : Nat) : (prog n f g k).length = n := by simp [prog]
theorem prog_at {n : Nat} (f g : Nat → Nat) (k : Nat) {i : Nat} (h : i < n) : (prog n f g k).getD i 0 = if i < k then f i else g i := by
  rw [List.getD_eq_getElem?_getD, List.getElem?_eq_getElem (by rw [prog_len]; exact h), Option.getD_some]
  simp [prog]
theorem prog_zero {l : List Nat} {n : Nat} (h : l.length = n) (f : Nat → Nat) : prog n f (fun i => l.getD i 0) 0 = l := by
  apply List.ext_getElem
  · rw [prog_len, h]
  · intro i h1 h2
    simp [prog, List.getD_eq_getElem?_getD, h2]
theorem prog_next (n : Nat) (f g : Nat → Nat) (k : Nat) : (prog n f g k).set k (f k) = prog n f g (k + 1) := by
  apply List.ext_getElem
  · simp [prog]
  · intro i h1 h2
    by_cases hk : k = i
    · subst hk
      simp [prog]
    · rw [List.getElem_set_ne hk]
      have e : (i < k) = (i < k + 1) := by
        apply propext
        omega
      simp only [prog, List.getElem_map, List.getElem_range, e]
theorem prog_all (n : Nat) (f g : Nat → Nat) : prog n f g n = (List.range n).map f := by
  unfold prog
  exact List.map_congr_left fun i hi => if_pos (List.mem_range.1 hi)
theorem prog_lt {n : Nat} {f g : Nat → Nat} (hf : ∀ i, i < n → f i < 256) (hg : ∀ i, i < n → g i < 256) (k : Nat) : ∀ x ∈ prog n f g k, x < 256 := by
  intro x hx
  obtain ⟨i, hi, rfl⟩ := List.mem_map.1 hx
  have := List.mem_range.1 hi
  split
  · exact hf i this
  · exact hg i this

/-- n entries from o on. -/
def subB (l : List Nat) (o n : Nat) : List Nat := (List.range n).map fun i => l.getD (o + i) 0
theorem subB_len (l : List Nat) (o n : Nat) : (subB l o n).length = n := by simp [subB]
theorem subB_at (l : List Nat) (o : Nat) {n i : Nat} (h : i < n) : (subB l o n).getD i 0 = l.getD (o + i) 0 := by
  rw [List.getD_eq_getElem?_getD, List.getElem?_eq_getElem (by rw [subB_len]; exact h), Option.getD_some]
  simp [subB]
theorem subB_lt {l : List Nat} (h : ∀ x ∈ l, x < 256) (o n : Nat) : ∀ x ∈ subB l o n, x < 256 := by
  intro x hx
  obtain ⟨i, _, rfl⟩ := List.mem_map.1 hx
  exact getD_lt' (by decide) h _
theorem subB_all (l : List Nat) : subB l 0 l.length = l := by
  apply List.ext_getElem
  · rw [subB_len]
  · intro i h1 h2
    simp [subB, List.getD_eq_getElem?_getD, h2]
/-- Entries are put in from o on. -/
def putL (l : List Nat) (o : Nat) : List Nat → List Nat
  | [] => l
  | v :: vs => putL (l.set o v) (o + 1) vs
def putA (C : Array Value) (o : Nat) : List Value → Array Value
  | [] => C
  | v :: vs => putA (C.setIfInBounds o v) (o + 1) vs
theorem BA_set1 (l : List Nat) (i x : Nat) : (BA l).setIfInBounds i (.int .u8 ((x : Nat) : Int)) = BA (l.set i x) := by
  simp [BA, List.map_set]
theorem putA_BA : ∀ (vs l : List Nat) (o : Nat), putA (BA l) o (vs.map fun z : Nat => Value.int .u8 (z : Int)) = BA (putL l o vs)
  | [], _, _ => rfl
  | v :: vs, l, o => by
    show putA ((BA l).setIfInBounds o _) (o + 1) _ = _
    rw [BA_set1, putA_BA vs]; rfl
theorem putL_prog (n : Nat) (f g : Nat → Nat) (k : Nat) : ∀ m, putL (prog n f g k) k ((List.range m).map fun i => f (k + i)) = prog n f g (k + m) := by
  intro m
  induction m generalizing k with
  | zero => rfl
  | succ m ih =>
    rw [List.range_succ_eq_map, List.map_cons, List.map_map]
    show putL ((prog n f g k).set k (f (k + 0))) (k + 1) _ = _
    rw [Nat.add_zero, prog_next]
    have := ih (k + 1)
    have e : (List.range m).map ((fun i => f (k + i)) ∘ Nat.succ) = (List.range m).map fun i => f (k + 1 + i) := List.map_congr_left fun i _ => by
      show f (k + (i + 1)) = _
      rw [show k + (i + 1) = k + 1 + i by omega]
    rw [e, this, show k + 1 + m = k + (m + 1) by omega]
theorem heap_setCell_same (w : World) (g i : Nat) (v : Value) (C : Array Value) (t : TypeId) (fr : Nat × Nat) (h : w.heap[g]? = some (.cells C t fr)) : (w.setCell ⟨g, i, none⟩ v).heap[g]? = some (.cells (C.setIfInBounds i v) t fr) := by
  simp [World.setCell, Array.getElem?_modify, h]
theorem heap_setCells_same (g : Nat) (t : TypeId) (fr : Nat × Nat) : ∀ (vs : List Value) (w : World) (o : Nat) (C : Array Value), w.heap[g]? = some (.cells C t fr) → (w.setCells g o vs).heap[g]? = some (.cells (putA C o vs) t fr)
  | [], _, _, _, h => h
  | v :: vs, w, o, C, h => heap_setCells_same g t fr vs _ _ _ (heap_setCell_same w g o v C t fr h)
theorem lt_heap {w : World} {g : Nat} {o : Obj} (h : w.heap[g]? = some o) : g < w.heap.size := by
  rcases Nat.lt_or_ge g w.heap.size with h' | h'
  · exact h'
  · rw [Array.getElem?_eq_none h'] at h; cases h
theorem frozen_row (w : World) (g i : Nat) (C : Array Value) (t : TypeId) (h : w.heap[g]? = some (.cells C t (0, 0))) : w.frozen? ⟨g, i, none⟩ = false := frozen_of_row _ _ _ _ _ h
/-- Some cells of bytes that lie in memory. -/
def vals (l : List Nat) : List Value := l.map fun z : Nat => Value.int .u8 (z : Int)
theorem vals_len (l : List Nat) : (vals l).length = l.length := by simp [vals]
theorem vals_BA (l : List Nat) : (vals l).toArray = BA l := rfl
theorem vals_one (l : List Nat) : ∀ v ∈ vals l, v.oneCell' = true := by
  intro v hv
  obtain ⟨z, _, rfl⟩ := List.mem_map.1 hv
  rfl
theorem range_BA {w : World} {g : Nat} {t : TypeId} {fr : Nat × Nat} {l : List Nat} (h : w.heap[g]? = some (.cells (BA l) t fr)) {o n : Nat} (hn : o + n ≤ l.length) : w.rangeAt g o (vals (subB l o n)) := fun j v hv => by
  have hj : j < n := by
    rcases Nat.lt_or_ge j n with h | h
    · exact h
    · rw [List.getElem?_eq_none (by rw [vals_len, subB_len]; exact h)] at hv; cases hv
  rw [BA_cell h (i := o + j) (by omega), ← hv, vals, List.getElem?_map, List.getElem?_eq_getElem (by rw [subB_len]; exact hj)]
  simp [subB]
theorem there_BA {w : World} {g : Nat} {t : TypeId} {l : List Nat} (h : w.heap[g]? = some (.cells (BA l) t (0, 0))) {o n : Nat} (hn : o + n ≤ l.length) : w.there g o n := fun j hj => ⟨by rw [BA_cell h (i := o + j) (by omega)]; rfl, frozen_of_row _ _ _ _ _ h⟩
theorem below_setCs {B : Nat} {w0 w : World} (h : Below B w0 w) {g : Nat} (hg : B ≤ g) : ∀ (vs : List Value) (o : Nat), Below B w0 (w.setCells g o vs) := by
  intro vs
  induction vs generalizing w with
  | nil => intro o; exact h
  | cons v vs ih => intro o; exact ih (h.setCell (p := ⟨g, o, none⟩) hg v) (o + 1)
theorem heap_setCells_other (g k : Nat) (hk : k ≠ g) : ∀ (vs : List Value) (w : World) (o : Nat), (w.setCells g o vs).heap[k]? = w.heap[k]?
  | [], _, _ => rfl
  | v :: vs, w, o => (heap_setCells_other g k hk vs _ _).trans (heap_setCell_other w ⟨g, o, none⟩ k v hk)
theorem size_setCs (g : Nat) : ∀ (vs : List Value) (w : World) (o : Nat), (w.setCells g o vs).heap.size = w.heap.size
  | [], _, _ => rfl
  | v :: vs, w, o => (size_setCs g vs _ _).trans (by simp)
/-- What a block of bytes is behind a store of some. -/
theorem put_BA {w : World} {g : Nat} {t : TypeId} {fr : Nat × Nat} {l : List Nat} (h : w.heap[g]? = some (.cells (BA l) t fr)) (o : Nat) (vs : List Nat) : (w.setCells g o (vals vs)).heap[g]? = some (.cells (BA (putL l o vs)) t fr) := by
  rw [heap_setCells_same g t fr _ _ _ _ h, vals, putA_BA]
theorem set_BA {w : World} {g : Nat} {t : TypeId} {fr : Nat × Nat} {l : List Nat} (h : w.heap[g]? = some (.cells (BA l) t fr)) (i x : Nat) : (w.setCell ⟨g, i, none⟩ (.int .u8 ((x : Nat) : Int))).heap[g]? = some (.cells (BA (l.set i x)) t fr) := by
  rw [heap_setCell_same _ _ _ _ _ _ _ h, BA_set1]
theorem results_mid {P : Program} {fn : Func} {p : Tmp} {ty : TypeId} (h : fn.results = #[.cell p ty]) (tmps : Array Value) (w : World) (g : Nat) (l : List Nat) (t : TypeId) (fr : Nat × Nat) (d : TypeDesc)
    (hp : tmps.getD p undef = .pointer (some ⟨g, 0, none⟩)) (hc : w.heap[g]? = some (.cells (BA l) t fr)) (hu : P.underlying ty = some d) (hd : d.isRow = true) (hi : (P.info? ty).map (·.size) = some l.length) :
    (results fn tmps).run P w = .ok (.agg (BA l)) w := by
  have hp' : tmps[p]?.getD undef = .pointer (some ⟨g, 0, none⟩) := by simpa using hp
  have hr := range_BA hc (o := 0) (n := l.length) (by omega)
  rw [subB_all] at hr
  rw [← vals_BA]
  simp [results, h, hp', asAddr, run_loadVar_mid w g 0 ty (vals l) d hr hu hd (by rw [hi, vals_len])]
/-- An array's value at an index. -/
theorem index_agg {P : Program} {t e : TypeId} {n : Nat} {i : TypeInfo} (hu : P.underlying t = some (.array n e)) (he : P.plainKey e = true) (hi : P.info? e = some i) (hs : i.size = 1) (w : World) (cs : Array Value) (j : Nat) (v : Value) (hj : j < n) (hc : cs[j]? = some v) :
    (Instr.index t (.agg cs) (.int .i64 (j : Int))).run P w = .ok v w := by
  have hp := run_part_plain (P := P) w he (xs := cs) (off := j * 1) (by rw [Nat.mul_one]; exact hc)
  simp [Instr.index, asIntOf, run_underlying hu, sizeOf, typeInfo, hi, hs, hj]
  simpa using hp
theorem heap_cell_other (w : World) (g i k : Nat) (v : Value) (hk : k ≠ g) : (w.setCell ⟨g, i, none⟩ v).heap[k]? = w.heap[k]? := heap_setCell_other w ⟨g, i, none⟩ k v hk
theorem below_cell {B : Nat} {w0 w : World} (h : Below B w0 w) {g : Nat} (hg : B ≤ g) (i : Nat) (v : Value) : Below B w0 (w.setCell ⟨g, i, none⟩ v) := h.setCell (p := ⟨g, i, none⟩) hg v
def zeros (n : Nat) : List Nat := List.replicate n 0
theorem zeros_len (n : Nat) : (zeros n).length = n := List.length_replicate

end Go.Proofs.Ytcoiincgclglbaa
