/-
  The document's own block: what it answers; nothing that was there is changed. A block of 16 bytes of one's own that is stored into.
-/
import Derived.Test.YtanpfodmmeagaaaDoorAesExp
import Derived.Test.YtanpfodmmeagaaaDoorWordsG
import Derived.OpenShut
namespace Go.Proofs.YtanpfodmmeagaaaDoor
open Go.RowKit

def lenB : Value → Nat
  | .slice _ n _ => n
  | _ => 0
/-- The first n entries of a list of 16. -/
def subTo (b : List Nat) (n : Nat) : List Nat := (List.range n).map fun i => sbox.getD (b.getD (4 * ((i / 4 + i % 4) % 4) + i % 4) 0) 0
theorem subTo_all (b : List Nat) : subTo b 16 = subL b := rfl
theorem subTo_succ (b : List Nat) (n : Nat) : subTo b (n + 1) = subTo b n ++ [sbox.getD (b.getD (4 * ((n / 4 + n % 4) % 4) + n % 4) 0) 0] := by simp [subTo, List.range_succ]
theorem subTo_len (b : List Nat) (n : Nat) : (subTo b n).length = n := by simp [subTo]
def mixTo (b : List Nat) (n : Nat) : List Nat := (List.range n).map fun i => mix1 (b.getD i 0) (b.getD (i / 4 * 4 + (i + 1) % 4) 0) (b.getD (i / 4 * 4 + (i + 2) % 4) 0) (b.getD (i / 4 * 4 + (i + 3) % 4) 0)
theorem mixTo_all (b : List Nat) : mixTo b 16 = mixL b := rfl
theorem mixTo_len (b : List Nat) (n : Nat) : (mixTo b n).length = n := by simp [mixTo]
theorem mixTo_succ (b : List Nat) (n : Nat) : mixTo b (n + 1) = mixTo b n ++ [mix1 (b.getD n 0) (b.getD (n / 4 * 4 + (n + 1) % 4) 0) (b.getD (n / 4 * 4 + (n + 2) % 4) 0) (b.getD (n / 4 * 4 + (n + 3) % 4) 0)] := by simp [mixTo, List.range_succ]
theorem mixTo_four (b : List Nat) (c : Nat) : mixTo b (4 * c + 4) = mixTo b (4 * c) ++ [mix1 (b.getD (4 * c) 0) (b.getD (4 * c + 1) 0) (b.getD (4 * c + 2) 0) (b.getD (4 * c + 3) 0), mix1 (b.getD (4 * c + 1) 0) (b.getD (4 * c + 2) 0) (b.getD (4 * c + 3) 0) (b.getD (4 * c) 0),
    mix1 (b.getD (4 * c + 2) 0) (b.getD (4 * c + 3) 0) (b.getD (4 * c) 0) (b.getD (4 * c + 1) 0), mix1 (b.getD (4 * c + 3) 0) (b.getD (4 * c) 0) (b.getD (4 * c + 1) 0) (b.getD (4 * c + 2) 0)] := by
  have e0 := mixTo_succ b (4 * c)
  have e1 := mixTo_succ b (4 * c + 1)
  have e2 := mixTo_succ b (4 * c + 2)
  have e3 := mixTo_succ b (4 * c + 3)
  rw [show 4 * c / 4 * 4 + (4 * c + 1) % 4 = 4 * c + 1 by omega, show 4 * c / 4 * 4 + (4 * c + 2) % 4 = 4 * c + 2 by omega, show 4 * c / 4 * 4 + (4 * c + 3) % 4 = 4 * c + 3 by omega] at e0
  rw [show (4 * c + 1) / 4 * 4 + (4 * c + 1 + 1) % 4 = 4 * c + 2 by omega, show (4 * c + 1) / 4 * 4 + (4 * c + 1 + 2) % 4 = 4 * c + 3 by omega, show (4 * c + 1) / 4 * 4 + (4 * c + 1 + 3) % 4 = 4 * c by omega] at e1
  rw [show (4 * c + 2) / 4 * 4 + (4 * c + 2 + 1) % 4 = 4 * c + 3 by omega, show (4 * c + 2) / 4 * 4 + (4 * c + 2 + 2) % 4 = 4 * c by omega, show (4 * c + 2) / 4 * 4 + (4 * c + 2 + 3) % 4 = 4 * c + 1 by omega] at e2
  rw [show (4 * c + 3) / 4 * 4 + (4 * c + 3 + 1) % 4 = 4 * c by omega, show (4 * c + 3) / 4 * 4 + (4 * c + 3 + 2) % 4 = 4 * c + 1 by omega, show (4 * c + 3) / 4 * 4 + (4 * c + 3 + 3) % 4 = 4 * c + 2 by omega] at e3
  rw [show 4 * c + 4 = 4 * c + 3 + 1 from rfl, e3, show 4 * c + 3 = 4 * c + 2 + 1 from rfl, e2, show 4 * c + 2 = 4 * c + 1 + 1 from rfl, e1, e0]
  simp
/-- The first n entries have the round's key. -/
def addTo' (key b : List Nat) (r n : Nat) : List Nat := (List.range 16).map fun i => if i < n then b.getD i 0 ^^^ kb key (16 * r + i) else b.getD i 0
theorem addTo'_len (key b : List Nat) (r n : Nat) : (addTo' key b r n).length = 16 := by simp [addTo']
theorem addTo'_zero {key b : List Nat} (h : b.length = 16) (r : Nat) : addTo' key b r 0 = b := L16_ext h fun i _ => by simp
theorem addTo'_all (key b : List Nat) (r : Nat) : addTo' key b r 16 = addK key b r := by
  unfold addTo' addK L16
  apply List.map_congr_left
  intro i hi
  rw [if_pos (List.mem_range.1 hi)]; rfl
theorem addTo'_at (key b : List Nat) (r n i : Nat) (h : i < 16) : (addTo' key b r n).getD i 0 = if i < n then b.getD i 0 ^^^ kb key (16 * r + i) else b.getD i 0 := by
  rw [List.getD_eq_getElem?_getD, List.getElem?_eq_getElem (by rw [addTo'_len]; exact h), Option.getD_some]
  simp [addTo']
theorem addTo'_next (key b : List Nat) (r n : Nat) : (addTo' key b r n).set n (b.getD n 0 ^^^ kb key (16 * r + n)) = addTo' key b r (n + 1) := by
  apply List.ext_getElem
  · simp [addTo']
  · intro i h1 h2
    rw [List.getElem_set]
    simp only [addTo', List.getElem_map, List.getElem_range]
    by_cases e : n = i
    · subst e; simp
    · rw [if_neg e]
      by_cases hlt : i < n
      · rw [if_pos hlt, if_pos (by omega)]
      · rw [if_neg hlt, if_neg (by omega)]

end Go.Proofs.YtanpfodmmeagaaaDoor

namespace Go.Proofs.YtanpfodmmeagaaaDoor
open Go.RowKit

/-- A block of one's own. -/
def Blk (base : Nat) (w : World) (v : Value) (l : List Nat) : Prop := l.length = 16 ∧ (∀ x ∈ l, x < 256) ∧ ∃ B g cap, v = .slice (some ⟨g, 0, none⟩) 16 cap ∧ base ≤ B ∧ B ≤ g ∧ g < w.heap.size ∧ w.ownsRow B 5 1 v 16 ((up l).map (Value.int .u8))

theorem Blk.to {base : Nat} {w w' : World} {v : Value} {l : List Nat} (h : Blk base w v l) (hb : Below w.heap.size w w') : Blk base w' v l := by
  obtain ⟨h1, h2, B, g, cap, rfl, h3, h4, h5, h6⟩ := h
  exact ⟨h1, h2, B, g, cap, rfl, h3, h4, Nat.lt_of_lt_of_le h5 hb.size, own_same h6 fun q hq => hb.block q (by simp [Value.ownBlock] at hq; omega)⟩
theorem Blk.cells {base : Nat} {w : World} {g cap n : Nat} {l : List Nat} (h : Blk base w (.slice (some ⟨g, 0, none⟩) n cap) l) (i : Nat) (hi : i < 16) : w.cell? ⟨g, i, none⟩ = some (.int .u8 (l.getD i 0 : Nat)) := by
  obtain ⟨h1, _, B, g', cap', hv, _, _, _, h6⟩ := h
  injection hv with hA hn hc
  injection hA with hA
  injection hA with hA
  subst hA hn hc
  rw [h6.cellAt i (by omega), List.getElem?_map, List.getElem?_eq_getElem (by rw [up_len, h1]; exact hi)]
  have := up_getD l i
  rw [List.getD_eq_getElem?_getD, List.getElem?_eq_getElem (by rw [up_len, h1]; exact hi), Option.getD_some] at this
  rw [Option.map_some, this]

theorem blk_of_own {base B : Nat} {w : World} {v : Value} {l : List Nat} (h1 : l.length = 16) (h2 : ∀ x ∈ l, x < 256) (hB : base ≤ B) (h : w.ownsRow B 5 1 v 16 ((up l).map (Value.int .u8))) : Blk base w v l := by
  obtain ⟨g, cap, hv, hge, hlt⟩ := h.form (by decide)
  subst hv
  exact ⟨h1, h2, B, g, cap, rfl, hB, hge, hlt, h⟩

theorem set_lt {l : List Nat} {n x m : Nat} (h : ∀ y ∈ l, y < m) (hx : x < m) : ∀ y ∈ l.set n x, y < m := fun y hy => by
  rcases List.mem_or_eq_of_mem_set hy with g | g
  · exact h y g
  · rw [g]; exact hx
theorem Blk.store {base g cap n x : Nat} {w : World} {l : List Nat} (h : Blk base w (.slice (some ⟨g, 0, none⟩) 16 cap) l) (hx : x < 256) : Blk base (w.setCell ⟨g, n, none⟩ (.int .u8 (x : Nat))) (.slice (some ⟨g, 0, none⟩) 16 cap) (l.set n x) := by
  obtain ⟨h1, h2, B, g', cap', hv, h3, h4, h5, h6⟩ := h
  have hst := (h6.stored n (.int .u8 ((x : Nat) : Int))).1
  rw [← List.map_set, show (up l).set n ((x : Nat) : Int) = up (l.set n x) from (List.map_set).symm] at hst
  exact blk_of_own (by rw [List.length_set]; exact h1) (set_lt h2 hx) h3 hst
theorem Blk.base {base g cap n : Nat} {w : World} {l : List Nat} (h : Blk base w (.slice (some ⟨g, 0, none⟩) n cap) l) : base ≤ g := by
  obtain ⟨_, _, B, g', cap', hv, h3, h4, _, _⟩ := h
  injection hv with hA _ _
  injection hA with hA
  injection hA with hA
  omega
theorem Blk.slice {base : Nat} {w : World} {v : Value} {l : List Nat} (h : Blk base w v l) : ∃ g cap, v = .slice (some ⟨g, 0, none⟩) 16 cap := by
  obtain ⟨_, _, _, g, cap, hv, _⟩ := h
  exact ⟨g, cap, hv⟩
theorem Blk.thaw {base g cap : Nat} {w : World} {l : List Nat} (h : Blk base w (.slice (some ⟨g, 0, none⟩) 16 cap) l) (i : Nat) : w.frozen? ⟨g, i, none⟩ = false := by
  obtain ⟨_, _, B, g', cap', hv, _, _, _, h6⟩ := h
  exact h6.frozenAt i
theorem cell_row_new (W : World) (cs : Array Value) (t : TypeId) (l : List Value) (h : cs.toList = l) : ∀ j u, l[j]? = some u → (W.alloc (.cells cs t)).cell? ((⟨W.heap.size, 0, none⟩ : Addr).add j) = some u := fun j u hu => by
  rw [Addr.add_mid, Nat.zero_add, cell_of_row _ _ j _ _ _ (heap_alloc_new W _), ← Array.getElem?_toList, h]
  exact hu

end Go.Proofs.YtanpfodmmeagaaaDoor
