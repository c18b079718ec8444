/-
  A slice of flags that came in, opened.
-/
import Derived.Test.YtnbgnllkikajpaaDiskAsk
import Derived.Deep.Matrix
import Derived.WalkKit
import Derived.ProofKit
import Derived.OpenShut
import Derived.ChangeOld
import Derived.SizedLaws
namespace Go.Proofs.Ytnbgnllkikajpaa
open Go.ChangeShapes Go.WideShapes Go.ChangeAt Go.RowKit

section
variable {H : Type} {enc : TypeId × Value → H} {P : Program} {w : World} {base : Nat} {held : Bool}
theorem open_bools {t e : TypeId} (ht : P.underlying t = some (.slice e)) (he : P.underlying e = some .bool) (hc : P.cellsOf e = 1) {fuel : Nat} {cs : List Value} {x : DataW H × List MemPlace} (h : DataW.trod enc P w base (fun _ => true) held fuel t cs = some x) :
    cs = [.slice none 0 0] ∨ ∃ (a : Addr) (len cap : Nat) (zs : List Bool) (D : Nat → DataW H), cs = [.slice (some a) len cap] ∧ len ≤ cap ∧ cap ≤ maxLen ∧ zs.length = len ∧ x.1 = .slice ((List.range len).map D) ((List.range (cap - len)).map fun j => D (len + j)) ∧ Bools w w.heap.size (some a) zs := by
  rcases Go.Deep.open_slice ht h with ⟨h0, _⟩ | ⟨a, len, cap, m, n, D, Pl, rfl, _, hl, hm, hmm, rfl, hx⟩
  · exact .inl h0
  right
  simp only [if_true] at hmm
  rw [hc] at hx
  have each : ∀ r, r < len → ∃ b : Bool, w.cell? (a.add r) = some (.bool b) := by
    intro r hr
    obtain ⟨cs', hcs, htr⟩ := hx r (by omega)
    obtain ⟨b, rfl, _⟩ := DataW.trod_bool he htr
    rw [Nat.mul_one] at hcs
    exact ⟨b, cell_of_cells?_one hcs⟩
  obtain ⟨y, hy⟩ := Go.Deep.choose_lt each
  refine ⟨a, len, cap, (List.range len).map y, D, rfl, hl, hm, by simp, by rw [hmm], fun i hi => ?_⟩
  have hi' : i < len := by simpa using hi
  have hc0 := hy i hi'
  obtain ⟨b, off, spot⟩ := a
  have hspot : spot = none := by
    have h0 := hy 0 (by omega)
    have := World.cell?_spot h0
    simpa [Addr.add] using this
  subst hspot
  have hadd : (⟨b, off, none⟩ : Addr).add i = ⟨b, off + i, none⟩ := by unfold Addr.add; split <;> simp_all
  rw [hadd] at hc0
  exact ⟨b, off, rfl, World.block_lt_of_cell? w _ hc0, by rw [hc0]; simp [List.getD_eq_getElem?_getD, hi']⟩
end

end Go.Proofs.Ytnbgnllkikajpaa
