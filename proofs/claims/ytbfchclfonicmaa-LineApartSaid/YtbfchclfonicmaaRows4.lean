/-
  Slices of slices of integers as a frame opens them; each row's room is known. (As XRows3, without what belongs to a layer: only one of Rows2, Rows3, Rows4 in a seat.)
-/
import Derived.Test.YtbfchclfonicmaaLineAsk
import Derived.Deep.Matrix
import Derived.OpenShut
namespace Go.Proofs.Ytbfchclfonicmaa
open Go.RowKit

/-- Rows as a frame opens them: the address, the capacity, the numbers. -/
def IsRows (k : IntKind) (w : World) (A : Option Addr) (len cap : Nat) (rs : List (Option Addr × Nat × List Int)) : Prop :=
  rs.length = len ∧ len ≤ cap ∧ cap ≤ maxLen ∧ ∀ i, (h : i < rs.length) → ∃ b off, A = some ⟨b, off, none⟩ ∧ b < w.heap.size ∧ w.cell? ⟨b, off + i, none⟩ = some (.slice rs[i].1 rs[i].2.2.length rs[i].2.1) ∧
    Ints w w.heap.size k rs[i].1 rs[i].2.2 ∧ rs[i].2.2.length ≤ rs[i].2.1 ∧ (rs[i].1 = none → rs[i].2.1 = 0) ∧ (∀ n ∈ rs[i].2.2, (Lit.int k n).wf = true) ∧ rs[i].2.1 ≤ maxLen
theorem spot_none {w : World} {a : Addr} {v : Value} (h : w.cell? a = some v) : a.spot = none := World.cell?_spot h
theorem rows_of_open {k : IntKind} {w : World} {a : Addr} {len cap : Nat} {A : Nat → Option Addr} {L C : Nat → Nat} {Z : Nat → List Int} (hl : len ≤ cap) (hm : cap ≤ maxLen)
    (h : ∀ r, r < cap → w.cell? (a.add r) = some (.slice (A r) (L r) (C r)) ∧ L r ≤ C r ∧ C r ≤ maxLen ∧ (Z r).length = C r ∧ (∀ n ∈ Z r, (Lit.int k n).wf = true) ∧ (A r = none → C r = 0) ∧
        ∀ a', A r = some a' → ∀ c, c < C r → w.cell? (a'.add c) = some (.int k ((Z r).getD c 0))) :
    IsRows k w (some a) len cap ((List.range len).map fun r => (A r, C r, (Z r).take (L r))) := by
  refine ⟨by simp, hl, hm, fun i hi => ?_⟩
  have hi' : i < len := by simpa using hi
  obtain ⟨b, off, spot⟩ := a
  have hs := spot_none (h 0 (by omega)).1
  have hspot : spot = none := by simpa [Addr.add] using hs
  subst hspot
  obtain ⟨h1, h2, h3, h4, h5, h6, h7⟩ := h i (by omega)
  have hadd : ∀ (b off i : Nat), (⟨b, off, none⟩ : Addr).add i = ⟨b, off + i, none⟩ := fun b off i => by unfold Addr.add; split <;> simp_all
  rw [hadd] at h1
  have ht : ((Z i).take (L i)).length = L i := by rw [List.length_take]; omega
  simp only [List.getElem_map, List.getElem_range]
  refine ⟨b, off, rfl, World.block_lt_of_cell? w _ h1, by rw [ht]; exact h1, fun j hj => ?_, by rw [ht]; exact h2, h6, fun n hn => h5 n (List.mem_of_mem_take hn), h3⟩
  rw [ht] at hj
  rcases hA : A i with _ | a'
  · have := h6 hA; omega
  · obtain ⟨b', off', spot'⟩ := a'
    have hs' := spot_none (h7 _ hA 0 (by omega))
    have hspot' : spot' = none := by simpa [Addr.add] using hs'
    subst hspot'
    have hc := h7 _ hA j (by omega)
    rw [hadd] at hc
    refine ⟨b', off', rfl, World.block_lt_of_cell? w _ hc, ?_⟩
    rw [hc]
    simp [List.getD_eq_getElem?_getD, hj]
/-- Texts that came in. -/
theorem secs_of_rows {w : World} {A : Option Addr} {len cap : Nat} {rs : List (Option Addr × Nat × List Int)} (h : IsRows .u8 w A len cap rs) : ∃ ps : List Sec, ps.length = len ∧ Secs w w.heap.size A ps ∧ len ≤ cap := by
  obtain ⟨h1, h2, h3, h4⟩ := h
  refine ⟨rs.map fun r => ⟨r.1, r.2.1, r.2.2⟩, by simp [h1], fun i hi => ?_, h2⟩
  have hi' : i < rs.length := by simpa using hi
  obtain ⟨b, off, rfl, hb, hc, hr, hle, hn, hw, hm⟩ := h4 i hi'
  simp only [List.getElem_map]
  refine ⟨b, off, rfl, hb, hc, ⟨hr, fun z hz => bounds_u8 (hw z hz), hle, ?_⟩⟩
  unfold maxLen at hm
  simp only []
  omega

end Go.Proofs.Ytbfchclfonicmaa
