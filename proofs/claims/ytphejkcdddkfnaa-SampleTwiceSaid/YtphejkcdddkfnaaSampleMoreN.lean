/-
  Plain: how many distances there are of each; as many first references as things; each reference made twice. No program is spoken of here.
-/
import Derived.Test.YtphejkcdddkfnaaSampleNums
namespace Go.Proofs.Ytphejkcdddkfnaa
open Go.RowKit

/-- All are counted. -/
theorem countI_cons (d : Int) (ds : List Int) (i : Nat) : countI (d :: ds) i = countI ds i + if d = (i : Int) then 1 else 0 := by
  unfold countI
  rw [List.countP_cons]
  simp only [decide_eq_true_eq]
theorem sum_add (f g : Nat → Nat) : ∀ n : Nat, ((List.range n).map fun i => f i + g i).sum = ((List.range n).map f).sum + ((List.range n).map g).sum
  | 0 => rfl
  | n + 1 => by rw [List.range_succ]; simp only [List.map_append, List.sum_append, List.map_cons, List.map_nil, List.sum_cons, List.sum_nil]; have := sum_add f g n; omega
theorem sum_one (d : Int) : ∀ n : Nat, ((List.range n).map fun i : Nat => if d = (i : Int) then 1 else 0).sum = if 0 ≤ d ∧ d < (n : Int) then 1 else 0
  | 0 => by simp
  | n + 1 => by
    rw [List.range_succ]
    simp only [List.map_append, List.sum_append, List.map_cons, List.map_nil, List.sum_cons, List.sum_nil]
    have h := sum_one d n
    rw [h, Nat.add_zero]
    by_cases h1 : d = (n : Int)
    · rw [if_pos h1, if_neg (by omega), if_pos (by omega)]
    · by_cases h2 : 0 ≤ d ∧ d < (n : Int)
      · rw [if_neg h1, if_pos h2, if_pos (by omega)]
      · rw [if_neg h1, if_neg h2, if_neg (by omega)]
theorem hist_sum (n : Nat) : ∀ ds : List Int, ((List.range n).map (countI ds)).sum + histO ds n = ds.length
  | [] => by
    have : ∀ n : Nat, ((List.range n).map (countI [])).sum = 0 := fun n => by
      induction n with
      | zero => rfl
      | succ n ih => rw [List.range_succ]; simp only [List.map_append, List.sum_append, List.map_cons, List.map_nil, List.sum_cons, List.sum_nil, ih]; rfl
    rw [this]; rfl
  | d :: ds => by
    have h := hist_sum n ds
    have e : (List.range n).map (countI (d :: ds)) = (List.range n).map fun i => countI ds i + if d = (i : Int) then 1 else 0 := List.map_congr_left fun i _ => countI_cons d ds i
    rw [e, sum_add, sum_one]
    have e2 : histO (d :: ds) n = histO ds n + if 0 ≤ d ∧ d < (n : Int) then 0 else 1 := by
      unfold histO
      rw [List.countP_cons]
      congr 1
      by_cases h2 : 0 ≤ d ∧ d < (n : Int)
      · rw [if_pos h2]; simp [h2.1, h2.2]
      · rw [if_neg h2]
        by_cases h3 : 0 ≤ d
        · simp [h3]; omega
        · simp [h3]
    rw [e2, List.length_cons]
    split <;> omega

/-- The different numbers, in their order. -/
def thingsTo (l : List Int) : Nat → List Int
  | 0 => []
  | k + 1 => if l.getD k 0 ∈ thingsTo l k then thingsTo l k else thingsTo l k ++ [l.getD k 0]
theorem thingsTo_mem (l : List Int) (x : Int) : ∀ k : Nat, k ≤ l.length → (x ∈ thingsTo l k ↔ ∃ i, i < k ∧ l.getD i 0 = x)
  | 0, _ => by simp [thingsTo]
  | k + 1, h => by
    have ih := thingsTo_mem l x k (by omega)
    have key : (x ∈ thingsTo l (k + 1)) ↔ (x ∈ thingsTo l k ∨ l.getD k 0 = x) := by
      rw [show thingsTo l (k + 1) = if l.getD k 0 ∈ thingsTo l k then thingsTo l k else thingsTo l k ++ [l.getD k 0] from rfl]
      by_cases hm : l.getD k 0 ∈ thingsTo l k
      · rw [if_pos hm]
        constructor
        · exact Or.inl
        · rintro (h | h)
          · exact h
          · rw [← h]; exact hm
      · rw [if_neg hm, List.mem_append, List.mem_singleton, eq_comm (a := x)]
    rw [key, ih]
    constructor
    · rintro (⟨i, hi, e⟩ | e)
      · exact ⟨i, by omega, e⟩
      · exact ⟨k, by omega, e⟩
    · rintro ⟨i, hi, e⟩
      by_cases hik : i = k
      · subst hik; exact Or.inr e
      · exact Or.inl ⟨i, by omega, e⟩
theorem thingsTo_nodup (l : List Int) : ∀ k : Nat, (thingsTo l k).Nodup
  | 0 => List.nodup_nil
  | k + 1 => by
    have ih := thingsTo_nodup l k
    rw [show thingsTo l (k + 1) = if l.getD k 0 ∈ thingsTo l k then thingsTo l k else thingsTo l k ++ [l.getD k 0] from rfl]
    by_cases hm : l.getD k 0 ∈ thingsTo l k
    · rw [if_pos hm]; exact ih
    · rw [if_neg hm, List.nodup_append]
      refine ⟨ih, by simp, fun a ha b hb => ?_⟩
      rw [List.mem_singleton.1 hb]
      exact fun e => hm (e ▸ ha)
theorem thingsTo_le (l : List Int) : ∀ k : Nat, (thingsTo l k).length ≤ k
  | 0 => Nat.le_refl _
  | k + 1 => by
    have ih := thingsTo_le l k
    rw [show thingsTo l (k + 1) = if l.getD k 0 ∈ thingsTo l k then thingsTo l k else thingsTo l k ++ [l.getD k 0] from rfl]
    split
    · omega
    · rw [List.length_append]; simp; omega
theorem nodup_le : ∀ (s t : List Int), s.Nodup → (∀ a ∈ s, a ∈ t) → s.length ≤ t.length
  | [], _, _, _ => Nat.zero_le _
  | a :: s, t, h, hs => by
    have ha := hs a (List.mem_cons_self ..)
    have h2 := nodup_le s (t.erase a) (List.nodup_cons.1 h).2 fun b hb => by
      have hne : b ≠ a := fun e => (List.nodup_cons.1 h).1 (e ▸ hb)
      exact (List.mem_erase_of_ne hne).2 (hs b (List.mem_cons_of_mem _ hb))
    rw [List.length_erase_of_mem ha] at h2
    have : 0 < t.length := List.length_pos_of_mem ha
    rw [List.length_cons]; omega

/-- A distance is -1, if the number was not there; else below the number of things. -/
theorem distFrom_none (l : List Int) (x : Int) : ∀ (k : Nat) (seen : List Int), (∀ i, i < k → l.getD i 0 ≠ x) → distFrom l x k seen = -1
  | 0, _, _ => rfl
  | k + 1, seen, h => by
    unfold distFrom
    rw [if_neg (h k (by omega))]
    exact distFrom_none l x k _ fun i hi => h i (by omega)
theorem distFrom_some (l T : List Int) (x : Int) (hx : x ∈ T) (hT : ∀ i, i < l.length → l.getD i 0 ∈ T) : ∀ (k : Nat) (seen : List Int), k ≤ l.length → seen.Nodup → (∀ a ∈ seen, a ∈ T ∧ a ≠ x) → (∃ i, i < k ∧ l.getD i 0 = x) → 0 ≤ distFrom l x k seen ∧ distFrom l x k seen < (T.length : Int)
  | 0, _, _, _, _, ⟨i, hi, _⟩ => absurd hi (Nat.not_lt_zero i)
  | k + 1, seen, hk, hn, hs, ⟨i, hi, e⟩ => by
    unfold distFrom
    by_cases hkx : l.getD k 0 = x
    · rw [if_pos hkx]
      have h1 := nodup_le (x :: seen) T (List.nodup_cons.2 ⟨fun h => (hs x h).2 rfl, hn⟩) fun a ha => by
        rcases List.mem_cons.1 ha with h | h
        · rw [h]; exact hx
        · exact (hs a h).1
      rw [List.length_cons] at h1
      omega
    · rw [if_neg hkx]
      have hi2 : ∃ i, i < k ∧ l.getD i 0 = x := ⟨i, by
        by_cases h : i = k
        · subst h; exact absurd e hkx
        · omega, e⟩
      by_cases hm : l.getD k 0 ∈ seen
      · rw [if_pos hm]
        exact distFrom_some l T x hx hT k seen (by omega) hn hs hi2
      · rw [if_neg hm]
        refine distFrom_some l T x hx hT k _ (by omega) ?_ (fun a ha => ?_) hi2
        · rw [List.nodup_append]
          refine ⟨hn, by simp, fun a ha b hb => ?_⟩
          rw [List.mem_singleton.1 hb]
          exact fun e => hm (e ▸ ha)
        · rcases List.mem_append.1 ha with h | h
          · exact hs a h
          · rw [List.mem_singleton.1 h]; exact ⟨hT k (by omega), hkx⟩
/-- As many first references as things. -/
theorem hist_first (l : List Int) : histO (distL l) (thingsTo l l.length).length = (thingsTo l l.length).length := by
  have key : ∀ k : Nat, k ≤ l.length → histO ((List.range k).map (distAt l)) (thingsTo l l.length).length = (thingsTo l k).length := by
    intro k
    induction k with
    | zero => intro _; rfl
    | succ k ih =>
      intro hk
      have ih := ih (by omega)
      unfold histO at ih ⊢
      rw [List.range_succ, List.map_append, List.countP_append, ih]
      rw [show thingsTo l (k + 1) = if l.getD k 0 ∈ thingsTo l k then thingsTo l k else thingsTo l k ++ [l.getD k 0] from rfl]
      simp only [List.map_cons, List.map_nil, List.countP_cons, List.countP_nil, Nat.zero_add]
      by_cases hm : l.getD k 0 ∈ thingsTo l k
      · rw [if_pos hm]
        have h1 := distFrom_some l (thingsTo l l.length) (l.getD k 0) ((thingsTo_mem l _ l.length (Nat.le_refl _)).2 ⟨k, by omega, rfl⟩) (fun i hi => (thingsTo_mem l _ l.length (Nat.le_refl _)).2 ⟨i, hi, rfl⟩) k [] (by omega) List.nodup_nil (fun a ha => by cases ha) ((thingsTo_mem l _ k (by omega)).1 hm)
        have h2 : distAt l k = distFrom l (l.getD k 0) k [] := rfl
        rw [h2, decide_eq_true h1.1, decide_eq_true h1.2]
        rfl
      · rw [if_neg hm]
        have h1 := distFrom_none l (l.getD k 0) k [] fun i hi e => hm ((thingsTo_mem l _ k (by omega)).2 ⟨i, hi, e⟩)
        have h2 : distAt l k = distFrom l (l.getD k 0) k [] := rfl
        rw [h2, h1]
        simp
  exact key l.length (Nat.le_refl _)

/-- Each number twice. -/
def twiceL (l : List Int) : List Int := l.flatMap fun x => [x, x]
theorem twiceL_len (l : List Int) : (twiceL l).length = 2 * l.length := by
  induction l with
  | nil => rfl
  | cons x l ih => unfold twiceL at ih ⊢; rw [List.flatMap_cons, List.length_append, ih]; simp; omega
theorem twiceL_at (l : List Int) : ∀ i : Nat, (twiceL l).getD (2 * i) 0 = l.getD i 0 ∧ (twiceL l).getD (2 * i + 1) 0 = l.getD i 0 := by
  induction l with
  | nil => intro i; exact ⟨rfl, rfl⟩
  | cons x l ih =>
    intro i
    have e : twiceL (x :: l) = x :: x :: twiceL l := rfl
    rw [e]
    cases i with
    | zero => exact ⟨rfl, rfl⟩
    | succ i =>
      have h := ih i
      rw [show 2 * (i + 1) = (2 * i) + 1 + 1 by omega]
      exact h
theorem distFrom_twice (l : List Int) (x : Int) : ∀ (k : Nat) (seen : List Int), distFrom (twiceL l) x (2 * k) seen = distFrom l x k seen
  | 0, _ => rfl
  | k + 1, seen => by
    obtain ⟨e0, e1⟩ := twiceL_at l k
    rw [show 2 * (k + 1) = 2 * k + 1 + 1 by omega]
    rw [show distFrom (twiceL l) x (2 * k + 1 + 1) seen = if (twiceL l).getD (2 * k + 1) 0 = x then (seen.length : Int) else distFrom (twiceL l) x (2 * k + 1) (if (twiceL l).getD (2 * k + 1) 0 ∈ seen then seen else seen ++ [(twiceL l).getD (2 * k + 1) 0]) from rfl]
    rw [show distFrom l x (k + 1) seen = if l.getD k 0 = x then (seen.length : Int) else distFrom l x k (if l.getD k 0 ∈ seen then seen else seen ++ [l.getD k 0]) from rfl]
    rw [e1]
    by_cases hx : l.getD k 0 = x
    · rw [if_pos hx, if_pos hx]
    · rw [if_neg hx, if_neg hx]
      obtain ⟨s, hs⟩ : ∃ s, s = if l.getD k 0 ∈ seen then seen else seen ++ [l.getD k 0] := ⟨_, rfl⟩
      have hin : l.getD k 0 ∈ s := by
        rw [hs]
        split
        · assumption
        · exact List.mem_append.2 (Or.inr (List.mem_singleton.2 rfl))
      rw [← hs]
      rw [show distFrom (twiceL l) x (2 * k + 1) s = if (twiceL l).getD (2 * k) 0 = x then (s.length : Int) else distFrom (twiceL l) x (2 * k) (if (twiceL l).getD (2 * k) 0 ∈ s then s else s ++ [(twiceL l).getD (2 * k) 0]) from rfl]
      rw [e0, if_neg hx, if_pos hin]
      exact distFrom_twice l x k s
theorem dist_twice (l : List Int) {i : Nat} (hi : i < l.length) : (distL (twiceL l)).getD (2 * i) 0 = (distL l).getD i 0 ∧ (distL (twiceL l)).getD (2 * i + 1) 0 = 0 := by
  have hg : ∀ (m : List Int) (j : Nat), j < m.length → (distL m).getD j 0 = distAt m j := fun m j hj => by
    unfold distL; simp [List.getD, hj]
  have hl := twiceL_len l
  obtain ⟨e0, e1⟩ := twiceL_at l i
  rw [hg _ _ (by omega), hg _ _ hi, hg _ _ (by omega)]
  constructor
  · unfold distAt
    rw [e0]
    exact distFrom_twice l _ i []
  · unfold distAt
    rw [e1]
    rw [show distFrom (twiceL l) (l.getD i 0) (2 * i + 1) [] = if (twiceL l).getD (2 * i) 0 = l.getD i 0 then ((([] : List Int).length : Nat) : Int) else distFrom (twiceL l) (l.getD i 0) (2 * i) (if (twiceL l).getD (2 * i) 0 ∈ ([] : List Int) then [] else [] ++ [(twiceL l).getD (2 * i) 0]) from rfl]
    rw [if_pos e0]; rfl

end Go.Proofs.Ytphejkcdddkfnaa
