/-
  A slice of texts that came in: each a slice of bytes, nil or not.
-/
import Derived.Test.YtnbgnllkikajpaaArrs
import Derived.Deep.Matrix
import Derived.OpenShut
namespace Go.Proofs.Ytnbgnllkikajpaa
open Go.RowKit

/-- A text that came in, as a slice. -/
structure Part where
  A : Option Addr
  c : Nat
  b : List Nat
structure Part.ok (w : World) (B : Nat) (p : Part) : Prop where
  ints : Ints w B .u8 p.A (up p.b)
  nil : p.A = none → p.c = 0
  byte : ∀ x ∈ p.b, x < 256
  le : p.b.length ≤ p.c
/-- A slice of texts. -/
def Parts (w : World) (B : Nat) (A : Option Addr) (ps : List Part) : Prop :=
  ∀ i, (h : i < ps.length) → ∃ b off, A = some ⟨b, off, none⟩ ∧ b < B ∧ w.cell? ⟨b, off + i, none⟩ = some (.slice ps[i].A ps[i].b.length ps[i].c) ∧ ps[i].ok w B
def catTo (ps : List Part) (k : Nat) : List Nat := ((ps.take k).map Part.b).flatten

theorem Part.ok.below {w w' : World} {B : Nat} {p : Part} (h : p.ok w B) (hb : Below B w w') : p.ok w' B := ⟨h.ints.below hb, h.nil, h.byte, h.le⟩
theorem catTo_next (ps : List Part) (k : Nat) (h : k < ps.length) : catTo ps (k + 1) = catTo ps k ++ ps[k].b := by
  unfold catTo
  rw [List.take_add_one, List.getElem?_eq_getElem h, List.map_append, List.flatten_append]
  simp


/-- Rows as a frame opens them: the address, the capacity, the numbers. -/
def IsRows (k : IntKind) (w : World) (A : Option Addr) (len cap : Nat) (rs : List (Option Addr × Nat × List Int)) : Prop :=
  rs.length = len ∧ len ≤ cap ∧ cap ≤ maxLen ∧ ∀ i, (h : i < rs.length) → ∃ b off, A = some ⟨b, off, none⟩ ∧ b < w.heap.size ∧ w.cell? ⟨b, off + i, none⟩ = some (.slice rs[i].1 rs[i].2.2.length rs[i].2.1) ∧
    Ints w w.heap.size k rs[i].1 rs[i].2.2 ∧ rs[i].2.2.length ≤ rs[i].2.1 ∧ (rs[i].1 = none → rs[i].2.1 = 0) ∧ ∀ n ∈ rs[i].2.2, (Lit.int k n).wf = true
theorem spot_none {w : World} {a : Addr} {v : Value} (h : w.cell? a = some v) : a.spot = none := World.cell?_spot h
theorem rows_of_open {k : IntKind} {w : World} {a : Addr} {len cap : Nat} {A : Nat → Option Addr} {L C : Nat → Nat} {Z : Nat → List Int} (hl : len ≤ cap) (hm : cap ≤ maxLen)
    (h : ∀ r, r < cap → w.cell? (a.add r) = some (.slice (A r) (L r) (C r)) ∧ L r ≤ C r ∧ C r ≤ maxLen ∧ (Z r).length = C r ∧ (∀ n ∈ Z r, (Lit.int k n).wf = true) ∧ (A r = none → C r = 0) ∧
        ∀ a', A r = some a' → ∀ c, c < C r → w.cell? (a'.add c) = some (.int k ((Z r).getD c 0))) :
    IsRows k w (some a) len cap ((List.range len).map fun r => (A r, C r, (Z r).take (L r))) := by
  refine ⟨by simp, hl, hm, fun i hi => ?_⟩
  have hi' : i < len := by simpa using hi
  obtain ⟨b, off, spot⟩ := a
  have hs := spot_none (h 0 (by omega)).1
  have hspot : spot = none := by simpa [Addr.add] using hs
  subst hspot
  obtain ⟨h1, h2, h3, h4, h5, h6, h7⟩ := h i (by omega)
  have hadd : ∀ (b off i : Nat), (⟨b, off, none⟩ : Addr).add i = ⟨b, off + i, none⟩ := fun b off i => by unfold Addr.add; split <;> simp_all
  rw [hadd] at h1
  have ht : ((Z i).take (L i)).length = L i := by rw [List.length_take]; omega
  simp only [List.getElem_map, List.getElem_range]
  refine ⟨b, off, rfl, World.block_lt_of_cell? w _ h1, by rw [ht]; exact h1, fun j hj => ?_, by rw [ht]; exact h2, h6, fun n hn => h5 n (List.mem_of_mem_take hn)⟩
  rw [ht] at hj
  rcases hA : A i with _ | a'
  · have := h6 hA; omega
  · obtain ⟨b', off', spot'⟩ := a'
    have hs' := spot_none (h7 _ hA 0 (by omega))
    have hspot' : spot' = none := by simpa [Addr.add] using hs'
    subst hspot'
    have hc := h7 _ hA j (by omega)
    rw [hadd] at hc
    refine ⟨b', off', rfl, World.block_lt_of_cell? w _ hc, ?_⟩
    rw [hc]
    simp [List.getD_eq_getElem?_getD, hj]
theorem parts_of_rows {w : World} {A : Option Addr} {len cap : Nat} {rs : List (Option Addr × Nat × List Int)} (h : IsRows .u8 w A len cap rs) :
    ∃ ps : List Part, ps.length = len ∧ ps.map (fun p => p.b.length) = rs.map (fun r => r.2.2.length) ∧ Parts w w.heap.size A ps ∧ len ≤ cap := by
  obtain ⟨h1, h2, h3, h4⟩ := h
  refine ⟨rs.map fun r => ⟨r.1, r.2.1, r.2.2.map Int.toNat⟩, by simp [h1], by simp [Function.comp_def], fun i hi => ?_, h2⟩
  have hi' : i < rs.length := by simpa using hi
  obtain ⟨b, off, rfl, hb, hc, hr, hle, hn, hw⟩ := h4 i hi'
  have hz : ∀ z ∈ rs[i].2.2, 0 ≤ z ∧ z ≤ 255 := fun z hz => bounds_u8 (hw z hz)
  simp only [List.getElem_map, List.length_map]
  have hu : up (rs[i].2.2.map Int.toNat) = rs[i].2.2 := up_toNat hz
  refine ⟨b, off, rfl, hb, hc, ⟨by simp only []; rw [hu]; exact hr, hn, fun x hx => ?_, by simpa using hle⟩⟩
  simp only [List.mem_map] at hx
  obtain ⟨z, hz1, rfl⟩ := hx
  have := hz z hz1
  omega
theorem catTo_le (ps : List Part) (k : Nat) : (catTo ps k).length ≤ (ps.map fun p => p.b.length).sum := by
  simp only [catTo, List.length_flatten, List.map_map]
  rw [← List.take_append_drop k ps, List.map_append, List.sum_append]
  simp only [List.take_append_drop]
  exact Nat.le_add_right _ _

end Go.Proofs.Ytnbgnllkikajpaa
