/-
  A block of 16 bytes of one's own that is stored into.
-/
import Derived.Test.YtcoiincgclglbaaArrs
import Derived.OpenShut
namespace Go.Proofs.Ytcoiincgclglbaa
open Go.RowKit

/-- A block of one's own. -/
def Blk (base : Nat) (w : World) (v : Value) (l : List Nat) : Prop := l.length = 16 ∧ (∀ x ∈ l, x < 256) ∧ ∃ B g cap, v = .slice (some ⟨g, 0, none⟩) 16 cap ∧ base ≤ B ∧ B ≤ g ∧ g < w.heap.size ∧ w.ownsRow B 5 1 v 16 ((up l).map (Value.int .u8))

theorem Blk.to {base : Nat} {w w' : World} {v : Value} {l : List Nat} (h : Blk base w v l) (hb : Below w.heap.size w w') : Blk base w' v l := by
  obtain ⟨h1, h2, B, g, cap, rfl, h3, h4, h5, h6⟩ := h
  exact ⟨h1, h2, B, g, cap, rfl, h3, h4, Nat.lt_of_lt_of_le h5 hb.size, own_same h6 fun q hq => hb.block q (by simp [Value.ownBlock] at hq; omega)⟩
theorem Blk.cells {base : Nat} {w : World} {g cap n : Nat} {l : List Nat} (h : Blk base w (.slice (some ⟨g, 0, none⟩) n cap) l) (i : Nat) (hi : i < 16) : w.cell? ⟨g, i, none⟩ = some (.int .u8 (l.getD i 0 : Nat)) := by
  obtain ⟨h1, _, B, g', cap', hv, _, _, _, h6⟩ := h
  injection hv with hA hn hc
  injection hA with hA
  injection hA with hA
  subst hA hn hc
  rw [h6.cellAt i (by omega), List.getElem?_map, List.getElem?_eq_getElem (by rw [up_len, h1]; exact hi)]
  have := up_getD l i
  rw [List.getD_eq_getElem?_getD, List.getElem?_eq_getElem (by rw [up_len, h1]; exact hi), Option.getD_some] at this
  rw [Option.map_some, this]

theorem blk_of_own {base B : Nat} {w : World} {v : Value} {l : List Nat} (h1 : l.length = 16) (h2 : ∀ x ∈ l, x < 256) (hB : base ≤ B) (h : w.ownsRow B 5 1 v 16 ((up l).map (Value.int .u8))) : Blk base w v l := by
  obtain ⟨g, cap, hv, hge, hlt⟩ := h.form (by decide)
  subst hv
  exact ⟨h1, h2, B, g, cap, rfl, hB, hge, hlt, h⟩

theorem set_lt {l : List Nat} {n x m : Nat} (h : ∀ y ∈ l, y < m) (hx : x < m) : ∀ y ∈ l.set n x, y < m := fun y hy => by
  rcases List.mem_or_eq_of_mem_set hy with g | g
  · exact h y g
  · rw [g]; exact hx
theorem Blk.store {base g cap n x : Nat} {w : World} {l : List Nat} (h : Blk base w (.slice (some ⟨g, 0, none⟩) 16 cap) l) (hx : x < 256) : Blk base (w.setCell ⟨g, n, none⟩ (.int .u8 (x : Nat))) (.slice (some ⟨g, 0, none⟩) 16 cap) (l.set n x) := by
  obtain ⟨h1, h2, B, g', cap', hv, h3, h4, h5, h6⟩ := h
  have hst := (h6.stored n (.int .u8 ((x : Nat) : Int))).1
  rw [← List.map_set, show (up l).set n ((x : Nat) : Int) = up (l.set n x) from (List.map_set).symm] at hst
  exact blk_of_own (by rw [List.length_set]; exact h1) (set_lt h2 hx) h3 hst
theorem Blk.base {base g cap n : Nat} {w : World} {l : List Nat} (h : Blk base w (.slice (some ⟨g, 0, none⟩) n cap) l) : base ≤ g := by
  obtain ⟨_, _, B, g', cap', hv, h3, h4, _, _⟩ := h
  injection hv with hA _ _
  injection hA with hA
  injection hA with hA
  omega
theorem Blk.slice {base : Nat} {w : World} {v : Value} {l : List Nat} (h : Blk base w v l) : ∃ g cap, v = .slice (some ⟨g, 0, none⟩) 16 cap := by
  obtain ⟨_, _, _, g, cap, hv, _⟩ := h
  exact ⟨g, cap, hv⟩
theorem Blk.thaw {base g cap : Nat} {w : World} {l : List Nat} (h : Blk base w (.slice (some ⟨g, 0, none⟩) 16 cap) l) (i : Nat) : w.frozen? ⟨g, i, none⟩ = false := by
  obtain ⟨_, _, B, g', cap', hv, _, _, _, h6⟩ := h
  exact h6.frozenAt i
theorem cell_row_new (W : World) (cs : Array Value) (t : TypeId) (l : List Value) (h : cs.toList = l) : ∀ j u, l[j]? = some u → (W.alloc (.cells cs t)).cell? ((⟨W.heap.size, 0, none⟩ : Addr).add j) = some u := fun j u hu => by
  rw [Addr.add_mid, Nat.zero_add, cell_of_row _ _ j _ _ _ (heap_alloc_new W _), ← Array.getElem?_toList, h]
  exact hu

end Go.Proofs.Ytcoiincgclglbaa
