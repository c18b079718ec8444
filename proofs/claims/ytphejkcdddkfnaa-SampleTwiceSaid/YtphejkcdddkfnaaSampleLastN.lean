/-
  Plain: a number counts 1 where it was last referred to; the ones between two places are the different numbers between them. No program is spoken of here.
-/
import Derived.Test.YtphejkcdddkfnaaSampleMoreN
import Derived.Test.YtphejkcdddkfnaaSampleHist
import Derived.Test.YtphejkcdddkfnaaSampleC1
namespace Go.Proofs.Ytphejkcdddkfnaa
open Go.RowKit

/-- Where x stands last ahead of place k. -/
def lastOf (l : List Int) (x : Int) : Nat → Option Nat
  | 0 => none
  | k + 1 => if l.getD k 0 = x then some k else lastOf l x k
theorem lastOf_none {l : List Int} {x : Int} : ∀ {k : Nat}, lastOf l x k = none → ∀ i, i < k → l.getD i 0 ≠ x
  | 0, _, i, hi => absurd hi (Nat.not_lt_zero i)
  | k + 1, h, i, hi => by
    unfold lastOf at h
    split at h
    · cases h
    · rename_i hne
      by_cases e : i = k
      · subst e; exact hne
      · exact lastOf_none h i (by omega)
theorem lastOf_some {l : List Int} {x : Int} {b : Nat} : ∀ {k : Nat}, lastOf l x k = some b → b < k ∧ l.getD b 0 = x ∧ ∀ i, b < i → i < k → l.getD i 0 ≠ x
  | 0, h => by cases h
  | k + 1, h => by
    unfold lastOf at h
    split at h
    · rename_i he
      injection h with h
      subst h
      exact ⟨Nat.lt_succ_self _, he, fun i h1 h2 => by omega⟩
    · rename_i hne
      obtain ⟨h1, h2, h3⟩ := lastOf_some h
      refine ⟨by omega, h2, fun i hi hk => ?_⟩
      by_cases e : i = k
      · subst e; exact hne
      · exact h3 i hi (by omega)
theorem lastOf_here (l : List Int) (k : Nat) : lastOf l (l.getD k 0) (k + 1) = some k := by unfold lastOf; rw [if_pos rfl]
theorem lastOf_other (l : List Int) {x : Int} {k : Nat} (h : l.getD k 0 ≠ x) : lastOf l x (k + 1) = lastOf l x k := by
  show (if l.getD k 0 = x then some k else lastOf l x k) = _
  rw [if_neg h]

/-- Is place j, ahead of place i, the last one of its number? -/
def isLast (l : List Int) (i j : Nat) : Bool := decide (j < i) && decide (lastOf l (l.getD j 0) i = some j)
def oneAt (l : List Int) (i j : Nat) : Int := if isLast l i j then 1 else 0
def onesL (l : List Int) (i : Nat) : List Int := (List.range l.length).map (oneAt l i)
theorem onesL_len (l : List Int) (i : Nat) : (onesL l i).length = l.length := by simp [onesL]
theorem onesL_at (l : List Int) (i : Nat) {j : Nat} (h : j < l.length) : (onesL l i).getD j 0 = oneAt l i j := by
  simp [onesL, List.getD_eq_getElem?_getD, h]
theorem onesL_zero (l : List Int) : onesL l 0 = List.replicate l.length 0 := by
  refine List.ext_getElem (by simp [onesL]) fun i h1 h2 => ?_
  simp [onesL, oneAt, isLast]
theorem oneAt_bounds (l : List Int) (i j : Nat) : 0 ≤ oneAt l i j ∧ oneAt l i j ≤ 1 := by
  unfold oneAt; split <;> omega
theorem isLast_iff {l : List Int} {i j : Nat} : isLast l i j = true ↔ j < i ∧ ∀ m, j < m → m < i → l.getD m 0 ≠ l.getD j 0 := by
  unfold isLast
  rw [Bool.and_eq_true, decide_eq_true_eq, decide_eq_true_eq]
  constructor
  · rintro ⟨h, hl⟩
    exact ⟨h, (lastOf_some hl).2.2⟩
  · rintro ⟨h, hm⟩
    refine ⟨h, ?_⟩
    rcases hl : lastOf l (l.getD j 0) i with _ | b
    · exact absurd rfl (lastOf_none hl j h)
    · obtain ⟨h1, h2, h3⟩ := lastOf_some hl
      rcases Nat.lt_trichotomy b j with q | q | q
      · exact absurd rfl (h3 j q h)
      · rw [q]
      · exact absurd h2 (hm b q h1)
/-- One step: the number's elder place counts no more, the new one does. -/
theorem onesL_first {l : List Int} {k : Nat} (hk : k < l.length) (h : lastOf l (l.getD k 0) k = none) : onesL l (k + 1) = (onesL l k).set k 1 := by
  refine List.ext_getElem (by simp [onesL]) fun i h1 h2 => ?_
  rw [List.getElem_set]
  simp only [onesL, List.getElem_map, List.getElem_range]
  have hn := lastOf_none h
  by_cases e : k = i
  · subst e
    rw [if_pos rfl]
    unfold oneAt
    rw [if_pos (isLast_iff.2 ⟨by omega, fun m a b => by omega⟩)]
  · rw [if_neg e]
    unfold oneAt
    have : isLast l (k + 1) i = isLast l k i := by
      rw [Bool.eq_iff_iff, isLast_iff, isLast_iff]
      constructor
      · rintro ⟨a, b⟩
        exact ⟨by omega, fun m x y => b m x (by omega)⟩
      · rintro ⟨a, b⟩
        refine ⟨by omega, fun m x y => ?_⟩
        by_cases em : m = k
        · subst em; exact fun q => hn i (by omega) q.symm
        · exact b m x (by omega)
    rw [this]
theorem onesL_again {l : List Int} {k b : Nat} (hk : k < l.length) (h : lastOf l (l.getD k 0) k = some b) : onesL l (k + 1) = ((onesL l k).set b 0).set k 1 := by
  obtain ⟨hb, he, hn⟩ := lastOf_some h
  refine List.ext_getElem (by simp [onesL]) fun i h1 h2 => ?_
  rw [List.getElem_set, List.getElem_set]
  simp only [onesL, List.getElem_map, List.getElem_range]
  by_cases e : k = i
  · subst e
    rw [if_pos rfl]
    unfold oneAt
    rw [if_pos (isLast_iff.2 ⟨by omega, fun m a b => by omega⟩)]
  · rw [if_neg e]
    by_cases e2 : b = i
    · subst e2
      rw [if_pos rfl]
      unfold oneAt
      rw [if_neg]
      intro q
      exact (isLast_iff.1 q).2 k hb (by omega) he.symm
    · rw [if_neg e2]
      unfold oneAt
      have : isLast l (k + 1) i = isLast l k i := by
        rw [Bool.eq_iff_iff, isLast_iff, isLast_iff]
        constructor
        · rintro ⟨a, c⟩
          exact ⟨by omega, fun m x y => c m x (by omega)⟩
        · rintro ⟨a, c⟩
          refine ⟨by omega, fun m x y => ?_⟩
          by_cases em : m = k
          · subst em
            intro q
            rcases Nat.lt_trichotomy i b with z | z | z
            · exact c b z hb (he.trans q)
            · exact e2 z.symm
            · exact hn i z a q.symm
          · exact c m x (by omega)
      rw [this]

/-- The different numbers from place k to place i are the ones there. -/
theorem distFrom_ones {l : List Int} {i b : Nat} {x : Int} (hb : l.getD b 0 = x) : ∀ (k : Nat) (seen : List Int), b < k → k ≤ i → (∀ m, b < m → m < k → l.getD m 0 ≠ x) → (∀ a, a ∈ seen ↔ ∃ m, k ≤ m ∧ m < i ∧ l.getD m 0 = a) →
    distFrom l x k seen = seen.length + ((List.range (k - (b + 1))).map fun j => oneAt l i (b + 1 + j)).sum
  | 0, _, h, _, _, _ => absurd h (Nat.not_lt_zero b)
  | k + 1, seen, hbk, hki, hn, hs => by
    unfold distFrom
    by_cases e : b = k
    · subst e
      rw [if_pos hb, Nat.sub_self]
      simp
    · rw [if_neg (hn k (by omega) (by omega))]
      have hin : l.getD k 0 ∈ seen ↔ isLast l i k = false := by
        rw [hs, ← Bool.not_eq_true, isLast_iff]
        constructor
        · rintro ⟨m, h1, h2, h3⟩ ⟨_, q⟩
          exact q m (by omega) h2 h3
        · intro q
          apply Classical.byContradiction
          intro p
          exact q ⟨by omega, fun m h1 h2 h3 => p ⟨m, by omega, h2, h3⟩⟩
      have e1 : k + 1 - (b + 1) = (k - (b + 1)) + 1 := by omega
      rw [e1, List.range_succ, List.map_append, List.sum_append, List.map_cons, List.map_nil, List.sum_cons, List.sum_nil, Int.add_zero, show b + 1 + (k - (b + 1)) = k by omega]
      have key : ∀ seen' : List Int, (∀ a, a ∈ seen' ↔ ∃ m, k ≤ m ∧ m < i ∧ l.getD m 0 = a) → distFrom l x k seen' = seen'.length + ((List.range (k - (b + 1))).map fun j => oneAt l i (b + 1 + j)).sum := fun seen' h' =>
        distFrom_ones hb k seen' (by omega) (by omega) (fun m h1 h2 => hn m h1 (by omega)) h'
      by_cases hm : l.getD k 0 ∈ seen
      · rw [if_pos hm, key seen fun a => ?_]
        · have : oneAt l i k = 0 := by unfold oneAt; rw [hin.1 hm]; rfl
          rw [this]; omega
        · rw [hs]
          constructor
          · rintro ⟨m, h1, h2, h3⟩; exact ⟨m, by omega, h2, h3⟩
          · rintro ⟨m, h1, h2, h3⟩
            by_cases em : m = k
            · subst em
              obtain ⟨m', h1', h2', h3'⟩ := (hs _).1 hm
              exact ⟨m', h1', h2', h3'.trans h3⟩
            · exact ⟨m, by omega, h2, h3⟩
      · rw [if_neg hm, key (seen ++ [l.getD k 0]) fun a => ?_]
        · have : oneAt l i k = 1 := by
            unfold oneAt
            rw [if_pos]
            cases q : isLast l i k
            · exact absurd (hin.2 q) hm
            · rfl
          rw [this, List.length_append]; simp; omega
        · rw [List.mem_append, List.mem_singleton, hs]
          constructor
          · rintro (⟨m, h1, h2, h3⟩ | h)
            · exact ⟨m, by omega, h2, h3⟩
            · exact ⟨k, Nat.le_refl _, by omega, h.symm⟩
          · rintro ⟨m, h1, h2, h3⟩
            by_cases em : m = k
            · subst em; exact Or.inr h3.symm
            · exact Or.inl ⟨m, by omega, h2, h3⟩
theorem sumS_range (l : List Int) (f : Nat → Int) (n : Nat) (h : ∀ j, j < n → l.getD j 0 = f j) : ∀ k, k ≤ n → sumS l k = ((List.range k).map f).sum
  | 0, _ => rfl
  | k + 1, hk => by
    rw [List.range_succ, List.map_append, List.sum_append, List.map_cons, List.map_nil, List.sum_cons, List.sum_nil, Int.add_zero, ← sumS_range l f n h k (by omega), ← h k (by omega)]
    rfl
/-- The ones between. -/
def between (l : List Int) (i b : Nat) : List Int := ((onesL l i).drop (b + 1)).take (i - (b + 1))
theorem between_len {l : List Int} {i b : Nat} (hi : i < l.length) : (between l i b).length = i - (b + 1) := by
  unfold between; rw [List.length_take, List.length_drop, onesL_len]; omega
theorem between_at {l : List Int} {i b j : Nat} (hi : i < l.length) (hj : j < i - (b + 1)) : (between l i b).getD j 0 = oneAt l i (b + 1 + j) := by
  unfold between
  rw [List.getD_eq_getElem?_getD, List.getElem?_take_of_lt hj, List.getElem?_drop, ← List.getD_eq_getElem?_getD, onesL_at _ _ (by omega)]
theorem dist_again {l : List Int} {i b : Nat} (hi : i < l.length) (h : lastOf l (l.getD i 0) i = some b) : sumS (between l i b) (i - (b + 1)) = distAt l i := by
  obtain ⟨hb, he, hn⟩ := lastOf_some h
  unfold distAt
  rw [distFrom_ones (i := i) he i [] hb (Nat.le_refl _) hn (fun a => by simp; intro m h1 h2; omega), sumS_range _ _ (i - (b + 1)) (fun j hj => between_at hi hj) _ (Nat.le_refl _)]
  simp
theorem dist_first {l : List Int} {i : Nat} (h : lastOf l (l.getD i 0) i = none) : distAt l i = -1 := distFrom_none l _ i [] (lastOf_none h)

/-- The first k distances are written. -/
def distTo (l : List Int) (k : Nat) : List Int := (List.range l.length).map fun i => if i < k then distAt l i else 0
theorem distTo_len (l : List Int) (k : Nat) : (distTo l k).length = l.length := by simp [distTo]
theorem distTo_zero (l : List Int) : distTo l 0 = List.replicate l.length 0 := by
  refine List.ext_getElem (by simp [distTo]) fun i h1 h2 => ?_
  simp [distTo]
theorem distTo_all (l : List Int) : distTo l l.length = distL l := by
  unfold distTo distL
  refine List.map_congr_left fun i hi => ?_
  rw [if_pos (List.mem_range.1 hi)]
theorem distTo_next (l : List Int) (k : Nat) : (distTo l k).set k (distAt l k) = distTo l (k + 1) := by
  refine List.ext_getElem (by simp [distTo]) fun i h1 h2 => ?_
  rw [List.getElem_set]
  simp only [distTo, List.getElem_map, List.getElem_range]
  by_cases e : k = i
  · subst e; rw [if_pos rfl, if_pos (Nat.lt_succ_self _)]
  · rw [if_neg e]
    by_cases h : i < k
    · rw [if_pos h, if_pos (by omega)]
    · rw [if_neg h, if_neg (by omega)]
theorem set_twice (l : List Int) (k : Nat) (x y : Int) : (l.set k x).set k y = l.set k y := List.set_set ..

end Go.Proofs.Ytphejkcdddkfnaa
