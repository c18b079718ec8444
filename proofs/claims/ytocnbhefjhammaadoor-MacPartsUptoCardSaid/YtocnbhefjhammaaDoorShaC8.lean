/-
  A hash in memory; more bytes.
-/
import Derived.Test.YtocnbhefjhammaaDoorShaC7
namespace Go.Proofs.YtocnbhefjhammaaDoor
open Go.RowKit

theorem blocksTo_append (s : Eight) (a x : List Nat) (k : Nat) (h : 64 * k ≤ a.length) : blocksTo s (a ++ x) k = blocksTo s a k := by
  induction k with
  | zero => rfl
  | succ k ih =>
    have e : ((a ++ x).drop (64 * k)).take 64 = (a.drop (64 * k)).take 64 := by
      rw [List.drop_append_of_le_length (by omega), List.take_append_of_le_length (by rw [List.length_drop]; omega)]
    simp only [blocksTo, ih (by omega), e]
theorem sum_block (l b : List Nat) : eightOf (sumTo (addTo l (roundsTo (eightOf (sumTo l 8)) shaK (wordsTo b 64) 64) 8) 8) = blockN (eightOf (sumTo l 8)) b := by
  unfold blockN
  obtain ⟨r, hr⟩ : ∃ r, r = roundsTo (eightOf (sumTo l 8)) shaK (wordsTo b 64) 64 := ⟨_, rfl⟩
  rw [← hr]
  have h : ∀ i, i < 8 → (sumTo (addTo l r 8) 8).getD i 0 = add32 ((sumTo l 8).getD i 0) (r.list.getD i 0) := fun i hi => by
    rw [sumTo_at _ _ _ hi, if_pos hi, sumTo_at _ _ _ hi, if_pos hi, addTo_at _ _ _ _ hi, if_pos hi, add32_assoc]
  unfold Eight.plus
  simp only [eightOf, Eight.mk.injEq]
  exact ⟨h 0 (by decide), h 1 (by decide), h 2 (by decide), h 3 (by decide), h 4 (by decide), h 5 (by decide), h 6 (by decide), h 7 (by decide)⟩

/-- A hash's cells. -/
def HK (beg : List Nat) (n : Nat) : List Value := (beg.map fun z : Nat => Value.int .u8 (z : Int)) ++ [.int .u64 (n : Int)]
theorem HK_copy (l beg cs : List Nat) (n m : Nat) (hl : l.length = 8) (hm : m + cs.length ≤ beg.length) :
    ((l.map fun z : Nat => Value.int .u32 (z : Int)) ++ HK beg n).take (8 + m) ++ ((cs.map fun z : Nat => Value.int .u8 (z : Int)) ++ ((l.map fun z : Nat => Value.int .u32 (z : Int)) ++ HK beg n).drop (8 + m + cs.length)) =
      (l.map fun z : Nat => Value.int .u32 (z : Int)) ++ HK (beg.take m ++ cs ++ beg.drop (m + cs.length)) n := by
  obtain ⟨L, hL⟩ : ∃ L, L = l.map fun z : Nat => Value.int .u32 (z : Int) := ⟨_, rfl⟩
  have hLl : L.length = 8 := by rw [hL, List.length_map, hl]
  rw [← hL, ← hLl, List.take_length_add_append, Nat.add_assoc, List.drop_length_add_append]
  unfold HK
  rw [List.take_append_of_le_length (by rw [List.length_map]; omega), List.drop_append_of_le_length (by rw [List.length_map]; exact hm)]
  simp

/-- What a hash at the head of block g has taken. -/
def St (w : World) (g : Nat) (t : List Nat) : Prop :=
  ∃ l beg : List Nat, Head w g 63 l (HK beg t.length) ∧ beg.length = 64 ∧ (∀ x ∈ beg, x < 256) ∧ beg.take (t.length % 64) = t.drop (64 * (t.length / 64)) ∧ eightOf (sumTo l 8) = blocksTo shaH t (t.length / 64)
theorem St.keep {w w' : World} {g : Nat} {t : List Nat} (h : St w g t) (hb : w'.heap[g]? = w.heap[g]?) : St w' g t := by
  obtain ⟨l, beg, h1, h2⟩ := h
  exact ⟨l, beg, h1.keep hb, h2⟩
theorem St.lt {w : World} {g : Nat} {t : List Nat} (h : St w g t) : g < w.heap.size := by
  obtain ⟨l, beg, h1, _⟩ := h
  exact h1.lt
/-- A slice of bytes outside block g. -/
def Near (w : World) (g : Nat) (A : Option Addr) (b : List Nat) : Prop :=
  ∀ i, i < b.length → ∃ blk off, A = some ⟨blk, off, none⟩ ∧ blk ≠ g ∧ blk < w.heap.size ∧ w.cell? ⟨blk, off + i, none⟩ = some (.int .u8 (b.getD i 0 : Nat))
theorem Near.off {w w' : World} {g : Nat} {A : Option Addr} {b : List Nat} (h : Near w g A b) (ho : Off (· = g) w w') : Near w' g A b := fun i hi => by
  obtain ⟨blk, off, e, h1, h2, h3⟩ := h i hi
  exact ⟨blk, off, e, h1, Nat.lt_of_lt_of_le h2 ho.size, (World.cell?_of_block (ho.block _ h2 h1)).trans h3⟩
theorem Near.cut {w : World} {g : Nat} {A : Option Addr} {b : List Nat} (h : Near w g A b) {n c : Nat} (hn : n ≤ b.length) (hc : b.length ≤ c) : Near w g (if c = n then A else A.map (·.add n)) (b.drop n) := fun i hi => by
  have hi' : n + i < b.length := by rw [List.length_drop] at hi; omega
  obtain ⟨blk, off, rfl, h1, h2, h3⟩ := h (n + i) hi'
  rw [if_neg (by omega)]
  refine ⟨blk, off + n, by rw [Option.map_some, Addr.add_mid], h1, h2, ?_⟩
  rw [Nat.add_assoc, h3]
  simp [List.getD]

/-- More bytes that fill no block. -/
theorem took_less {t cs beg : List Nat} (hb : beg.length = 64) (h1 : beg.take (t.length % 64) = t.drop (64 * (t.length / 64))) (hm : t.length % 64 + cs.length < 64) :
    (t ++ cs).length / 64 = t.length / 64 ∧ (beg.take (t.length % 64) ++ cs ++ beg.drop (t.length % 64 + cs.length)).take ((t ++ cs).length % 64) = (t ++ cs).drop (64 * ((t ++ cs).length / 64)) := by
  have e1 : (t ++ cs).length / 64 = t.length / 64 := by rw [List.length_append]; omega
  have e2 : (t ++ cs).length % 64 = t.length % 64 + cs.length := by rw [List.length_append]; omega
  refine ⟨e1, ?_⟩
  rw [e1, e2, List.drop_append_of_le_length (by omega), ← h1]
  have hl : (beg.take (t.length % 64) ++ cs).length = t.length % 64 + cs.length := by rw [List.length_append, List.length_take]; omega
  rw [← hl, List.take_left]
/-- More bytes that fill one. -/
theorem took_full {t cs beg : List Nat} (hb : beg.length = 64) (h1 : beg.take (t.length % 64) = t.drop (64 * (t.length / 64))) (hm : t.length % 64 + cs.length = 64) :
    (t ++ cs).length / 64 = t.length / 64 + 1 ∧ (t ++ cs).length % 64 = 0 ∧ beg.take (t.length % 64) ++ cs ++ beg.drop (t.length % 64 + cs.length) = ((t ++ cs).drop (64 * (t.length / 64))).take 64 ∧ (t ++ cs).drop (64 * ((t ++ cs).length / 64)) = [] := by
  have e1 : (t ++ cs).length / 64 = t.length / 64 + 1 := by rw [List.length_append]; omega
  have e2 : (t ++ cs).length % 64 = 0 := by rw [List.length_append]; omega
  refine ⟨e1, e2, ?_, List.drop_eq_nil_of_le (by omega)⟩
  rw [hm, show beg.drop 64 = [] from List.drop_eq_nil_of_le (by omega), List.append_nil, List.drop_append_of_le_length (by omega), ← h1]
  exact (List.take_of_length_le (by rw [List.length_append, List.length_take]; omega)).symm

end Go.Proofs.YtocnbhefjhammaaDoor
