/-
  A row of things of some cells each that lies in a block of one's own (ownsRow): what it holds; a thing or a cell of it written; its beginning. No program is spoken of here.
-/
import Derived.Test.YtbmgiekiildaaaaWords
import Derived.Deep.MidRow
namespace Go.Proofs.Ytbmgiekiildaaaa
open Go.RowKit

def flat {α : Type} (E : α → List Value) (l : List α) : List Value := l.flatMap E
section
variable {α : Type} {E : α → List Value} {e : Nat}
theorem flat_len (hE : ∀ x, (E x).length = e) : ∀ l : List α, (flat E l).length = l.length * e
  | [] => by simp [flat]
  | x :: l => by
    have ih := flat_len hE l
    unfold flat at ih ⊢
    rw [List.flatMap_cons, List.length_append, ih, hE, List.length_cons, Nat.add_mul]
    omega
theorem flat_snoc (l : List α) (x : α) : flat E (l ++ [x]) = flat E l ++ E x := by simp [flat]
theorem flat_append (l r : List α) : flat E (l ++ r) = flat E l ++ flat E r := by simp [flat]
theorem flat_at (hE : ∀ x, (E x).length = e) : ∀ (l : List α) (k : Nat) (h : k < l.length) (j : Nat), j < e → (flat E l)[k * e + j]? = (E l[k])[j]?
  | x :: l, 0, _, j, hj => by
    unfold flat
    rw [List.flatMap_cons, Nat.zero_mul, Nat.zero_add, List.getElem?_append_left (by rw [hE]; exact hj)]
    simp
  | x :: l, k + 1, h, j, hj => by
    have ih := flat_at hE l k (by simpa using h) j hj
    unfold flat at ih ⊢
    rw [List.flatMap_cons, List.getElem?_append_right (by rw [hE, Nat.add_mul]; omega), hE, Nat.add_mul, show k * e + 1 * e + j - e = k * e + j by omega, ih]
    rfl
theorem flat_cells (hE : ∀ x, (E x).length = e) (l : List α) {i : Nat} (hi : i < l.length * e) : ∃ k j, ∃ h : k < l.length, j < e ∧ i = k * e + j ∧ (flat E l)[i]? = (E l[k])[j]? := by
  have he : 0 < e := Nat.pos_of_ne_zero fun h => by subst h; omega
  have hk : i / e < l.length := (Nat.div_lt_iff_lt_mul he).2 hi
  have hd := Nat.div_add_mod i e
  have hm := Nat.mod_lt i he
  have hi2 : i = i / e * e + i % e := by rw [Nat.mul_comm]; exact hd.symm
  refine ⟨i / e, i % e, hk, hm, hi2, ?_⟩
  have h := flat_at hE l _ hk _ hm
  rwa [← hi2] at h

theorem setCells_heap (g : Nat) (t : TypeId) : ∀ (vs : List Value) (o : Nat) (w : World) (C : Array Value), w.heap[g]? = some (.cells C t (0, 0)) → o + vs.length ≤ C.size →
    ∃ C' : Array Value, (w.setCells g o vs).heap[g]? = some (.cells C' t (0, 0)) ∧ C'.size = C.size ∧ ∀ i, C'[i]? = if o ≤ i ∧ i < o + vs.length then vs[i - o]? else C[i]?
  | [], o, w, C, h, _ => ⟨C, h, rfl, fun i => by rw [if_neg (by have : ([] : List Value).length = 0 := rfl; omega)]⟩
  | v :: r, o, w, C, h, hl => by
    have h1 : (w.setCell ⟨g, o, none⟩ v).heap[g]? = some (.cells (C.setIfInBounds o v) t (0, 0)) := by simp [World.setCell, Array.getElem?_modify, h]
    simp only [List.length_cons] at hl
    obtain ⟨C', a, b, c⟩ := setCells_heap g t r (o + 1) _ _ h1 (by rw [Array.size_setIfInBounds]; omega)
    refine ⟨C', a, b.trans Array.size_setIfInBounds, fun i => ?_⟩
    rw [c i]
    by_cases h2 : o + 1 ≤ i ∧ i < o + 1 + r.length
    · rw [if_pos h2, if_pos (by simp only [List.length_cons]; omega), show i - o = (i - (o + 1)) + 1 by omega, List.getElem?_cons_succ]
    · rw [if_neg h2, Array.getElem?_setIfInBounds]
      by_cases h3 : o = i
      · subst h3
        rw [if_pos rfl, if_pos (by omega), if_pos (by simp only [List.length_cons]; omega), Nat.sub_self]
        rfl
      · rw [if_neg h3, if_neg (by simp only [List.length_cons]; omega)]
theorem setCells_other (g k : Nat) (hne : k ≠ g) : ∀ (vs : List Value) (o : Nat) (w : World), (w.setCells g o vs).heap[k]? = w.heap[k]?
  | [], _, _ => rfl
  | v :: r, o, w => by
    refine (setCells_other g k hne r (o + 1) _).trans ?_
    show (w.heap.modify g _)[k]? = _
    rw [Array.getElem?_modify, if_neg (Ne.symm hne)]
theorem setCells_size (g : Nat) : ∀ (vs : List Value) (o : Nat) (w : World), (w.setCells g o vs).heap.size = w.heap.size ∧ (w.setCells g o vs).os = w.os ∧ (w.setCells g o vs).tape = w.tape ∧ (w.setCells g o vs).output = w.output
  | [], _, _ => ⟨rfl, rfl, rfl, rfl⟩
  | v :: r, o, w => by
    obtain ⟨a, b, c, d⟩ := setCells_size g r (o + 1) (w.setCell ⟨g, o, none⟩ v)
    exact ⟨a.trans (by simp [World.setCell]), b, c, d⟩
theorem setCells_grown (w : World) (g o : Nat) (vs : List Value) : w.grownBy (w.setCells g o vs) (some g) := by
  obtain ⟨a, b, c, d⟩ := setCells_size g vs o w
  exact ⟨b, c, d, by omega, fun k _ hk => setCells_other g k (fun e => hk (by rw [e])) vs o w⟩

/-- The row's cells turn; it lies where it lay. -/
theorem own_turn {w w' : World} {base t n g c : Nat} {A : Option Addr} {l l' : List α} (hE : ∀ x, (E x).length = e) (h : w.ownsRow base t e (.slice A n c) n (flat E l)) (hA : A = some ⟨g, 0, none⟩) (hn : n = l.length) (hl : l'.length = l.length)
    (hc : ∀ C : Array Value, w.heap[g]? = some (.cells C t (0, 0)) → l.length * e ≤ C.size → ∃ C' : Array Value, w'.heap[g]? = some (.cells C' t (0, 0)) ∧ C'.size = C.size ∧ ∀ i, i < l.length * e → (∀ j, j < l.length * e → C[j]? = (flat E l)[j]?) → C'[i]? = (flat E l')[i]?) : w'.ownsRow base t e (.slice A n c) n (flat E l') := by
  subst hn hA
  refine ⟨by rw [flat_len hE, hl], ?_⟩
  rcases h.2 with ⟨hv, hn⟩ | ⟨g2, cap, cur, hv, hbg, hg, hle, hmax, hs, ht⟩
  · cases hv
  · injection hv with q1 _ q2
    injection q1 with q1
    injection q1 with q1 _
    subst q1 q2
    have hfit : l.length * e ≤ cur.size := by rw [hs]; exact Nat.mul_le_mul_right _ hle
    have hcur : ∀ j, j < l.length * e → cur[j]? = (flat E l)[j]? := fun j hj => by
      rw [← ht, List.getElem?_take, if_pos hj, Array.getElem?_toList]
    obtain ⟨C', a, b, d⟩ := hc cur hg hfit
    refine .inr ⟨g, c, C', rfl, hbg, a, hle, hmax, b.trans hs, ?_⟩
    refine List.ext_getElem? fun i => ?_
    rw [List.getElem?_take]
    by_cases hi : i < l.length * e
    · rw [if_pos hi, Array.getElem?_toList, d i hi hcur]
    · rw [if_neg hi, List.getElem?_eq_none (by rw [flat_len hE, hl]; omega)]
/-- A thing of it is written. -/
theorem own_put {w : World} {base t n g c k : Nat} {A : Option Addr} {l : List α} (hE : ∀ x, (E x).length = e) (h : w.ownsRow base t e (.slice A n c) n (flat E l)) (hA : A = some ⟨g, 0, none⟩) (hn : n = l.length) (hk : k < l.length) (y : α) :
    (w.setCells g (k * e) (E y)).ownsRow base t e (.slice A n c) n (flat E (l.set k y)) := by
  refine own_turn hE h hA hn (by simp) fun C hC hfit => ?_
  have hb : k * e + e ≤ l.length * e := by
    have := Nat.mul_le_mul_right e (show k + 1 ≤ l.length from hk)
    rw [Nat.add_mul] at this; omega
  obtain ⟨C', a, b, d⟩ := setCells_heap g t (E y) (k * e) w C hC (by rw [hE]; omega)
  refine ⟨C', a, b, fun i hi hcur => ?_⟩
  rw [d i, hE]
  obtain ⟨k2, j, hk2, hj, hij, _⟩ := flat_cells hE l hi
  have h2 := flat_at hE (l.set k y) k2 (by simpa using hk2) j hj
  rw [← hij] at h2
  rw [h2]
  by_cases hkk : k2 = k
  · subst hkk
    rw [if_pos (by omega), List.getElem_set_self, show i - k2 * e = j by omega]
  · rw [List.getElem_set_ne (Ne.symm hkk), if_neg, hcur i hi, hij, flat_at hE l k2 hk2 j hj]
    rintro ⟨q1, q2⟩
    rcases Nat.lt_or_ge k2 k with q | q
    · have := Nat.mul_le_mul_right e (show k2 + 1 ≤ k from q)
      rw [Nat.add_mul] at this; omega
    · have := Nat.mul_le_mul_right e (show k + 1 ≤ k2 by omega)
      rw [Nat.add_mul] at this; omega
/-- A cell of it is written. -/
theorem own_field {w : World} {base t n g c k j : Nat} {A : Option Addr} {l : List α} {v : Value} (hE : ∀ x, (E x).length = e) (h : w.ownsRow base t e (.slice A n c) n (flat E l)) (hA : A = some ⟨g, 0, none⟩) (hn : n = l.length) (hk : k < l.length) (hj : j < e) (y : α)
    (hy : E y = (E l[k]).set j v) : (w.setCell ⟨g, k * e + j, none⟩ v).ownsRow base t e (.slice A n c) n (flat E (l.set k y)) := by
  refine own_turn hE h hA hn (by simp) fun C hC hfit => ?_
  have hb : k * e + e ≤ l.length * e := by
    have := Nat.mul_le_mul_right e (show k + 1 ≤ l.length from hk)
    rw [Nat.add_mul] at this; omega
  have h1 : (w.setCell ⟨g, k * e + j, none⟩ v).heap[g]? = some (.cells (C.setIfInBounds (k * e + j) v) t (0, 0)) := by simp [World.setCell, Array.getElem?_modify, hC]
  refine ⟨_, h1, Array.size_setIfInBounds, fun i hi hcur => ?_⟩
  rw [Array.getElem?_setIfInBounds]
  obtain ⟨k2, j2, hk2, hj2, hij, _⟩ := flat_cells hE l hi
  have h2 := flat_at hE (l.set k y) k2 (by simpa using hk2) j2 hj2
  rw [← hij] at h2
  rw [h2]
  by_cases hkk : k2 = k
  · subst hkk
    rw [List.getElem_set_self, hy, List.getElem?_set]
    by_cases hjj : j = j2
    · subst hjj
      rw [if_pos hij.symm, if_pos (by omega), if_pos rfl, if_pos (by rw [hE]; exact hj)]
    · rw [if_neg (by omega), if_neg hjj, hcur i hi, hij, flat_at hE l k2 hk2 j2 hj2]
  · rw [List.getElem_set_ne (Ne.symm hkk), if_neg, hcur i hi, hij, flat_at hE l k2 hk2 j2 hj2]
    intro q
    rcases Nat.lt_or_ge k2 k with q2 | q2
    · have := Nat.mul_le_mul_right e (show k2 + 1 ≤ k from q2)
      rw [Nat.add_mul] at this; omega
    · have := Nat.mul_le_mul_right e (show k + 1 ≤ k2 by omega)
      rw [Nat.add_mul] at this; omega
/-- Its beginning. -/
theorem own_take {w : World} {base t n c m : Nat} {A : Option Addr} {l : List α} (hE : ∀ x, (E x).length = e) (h : w.ownsRow base t e (.slice A n c) n (flat E l)) (hn : n = l.length) (hm : m ≤ n) : w.ownsRow base t e (.slice A m c) m (flat E (l.take m)) := by
  subst hn
  have hme : m * e ≤ l.length * e := Nat.mul_le_mul_right _ hm
  have hflat : flat E (l.take m) = (flat E l).take (m * e) := by
    have h1 : flat E l = flat E (l.take m) ++ flat E (l.drop m) := by rw [← flat_append, List.take_append_drop]
    have h2 : (flat E (l.take m)).length = m * e := by rw [flat_len hE, List.length_take, Nat.min_eq_left hm]
    rw [h1, List.take_append_of_le_length (Nat.le_of_eq h2.symm), List.take_of_length_le (Nat.le_of_eq h2)]
  refine ⟨by rw [flat_len hE, List.length_take, Nat.min_eq_left hm], ?_⟩
  rcases h.2 with ⟨hv, hn⟩ | ⟨g, cap, cur, hv, hb, hg, hle, hmax, hs, ht⟩
  · injection hv with h1 h2 h3
    subst h1 h3
    exact .inl ⟨by rw [show m = 0 by omega], by omega⟩
  · injection hv with h1 h2 h3
    subst h1 h3
    refine .inr ⟨g, c, cur, rfl, hb, hg, by omega, hmax, hs, ?_⟩
    rw [hflat, ← ht, List.take_take, Nat.min_eq_left hme]
/-- Where it lies, and what it holds. -/
theorem own_at {w : World} {base t n c k : Nat} {A : Option Addr} {l : List α} (hE : ∀ x, (E x).length = e) (h : w.ownsRow base t e (.slice A n c) n (flat E l)) (hn : n = l.length) (hk : k < l.length) :
    ∃ g, A = some ⟨g, 0, none⟩ ∧ base ≤ g ∧ g < w.heap.size ∧ n ≤ c ∧ (∀ j v, (E l[k])[j]? = some v → w.cell? ⟨g, k * e + j, none⟩ = some v) ∧ ∀ i, w.frozen? ⟨g, i, none⟩ = false := by
  subst hn
  rcases h.2 with ⟨hv, h0⟩ | ⟨g, cap, cur, hv, hbg, hg, hle, hmax, hs, ht⟩
  · omega
  · injection hv with h1 h2 h3
    subst h1 h3
    refine ⟨g, rfl, hbg, (Array.getElem?_eq_some_iff.1 hg).1, hle, fun j v hv => ?_, fun i => frozen_of_row _ _ _ _ _ hg⟩
    have hj : j < e := by rw [← hE l[k]]; exact (List.getElem?_eq_some_iff.1 hv).1
    have hb : k * e + e ≤ l.length * e := by
      have := Nat.mul_le_mul_right e (show k + 1 ≤ l.length from hk)
      rw [Nat.add_mul] at this; omega
    rw [cell_of_row _ _ _ _ _ _ hg, ← Array.getElem?_toList]
    have h4 : cur.toList[k * e + j]? = (cur.toList.take (l.length * e))[k * e + j]? := by rw [List.getElem?_take, if_pos (by omega)]
    rw [h4, ht, flat_at hE l k hk j hj, hv]
theorem own_grown {w w' : World} {base t n : Nat} {v : Value} {xs : List Value} {row : Option Nat} (h : w.ownsRow base t e v n xs) (hg : w.grownBy w' row) (hne : ∀ b, v.ownBlock = some b → row ≠ some b) : w'.ownsRow base t e v n xs := by
  refine h.kept hg ?_
  cases hv : v.ownBlock with
  | none => exact .inl rfl
  | some b => exact .inr fun q => hne b hv q.symm
theorem own_keep {w w' : World} {base t n : Nat} {v : Value} {xs : List Value} (h : w.ownsRow base t e v n xs) (hb : Below w.heap.size w w') : w'.ownsRow base t e v n xs :=
  own_grown (row := none) h ⟨hb.os, hb.tape, hb.output, hb.size, fun k hk _ => hb.block k hk⟩ (by intro b _ q; cases q)
end
theorem grown_below {B : Nat} {w0 w w' : World} {g : Nat} (hb : Below B w0 w) (h : w.grownBy w' (some g)) (hB : B ≤ w.heap.size) (hg : B ≤ g) : Below B w0 w' := hb.grown h hB fun q hq => by injection hq with hq; omega
theorem grown_refl (w : World) (row : Option Nat) : w.grownBy w row := ⟨rfl, rfl, rfl, Nat.le_refl _, fun _ _ _ => rfl⟩
theorem grown_of_below {w w' : World} (hb : Below w.heap.size w w') (row : Option Nat) : w.grownBy w' row := ⟨hb.os, hb.tape, hb.output, hb.size, fun k hk _ => hb.block k hk⟩

end Go.Proofs.Ytbmgiekiildaaaa
