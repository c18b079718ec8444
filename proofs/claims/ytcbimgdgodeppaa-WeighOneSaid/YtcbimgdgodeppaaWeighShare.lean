/-
  Plain arithmetic of shares: so much, divided by units, what is left given to the greatest rests. No program is spoken of here.
-/
import Derived.WalkKit
namespace Go.Proofs.Ytcbimgdgodeppaa

/-- A sum of n numbers. -/
def sumF (f : Nat → Int) : Nat → Int
  | 0 => 0
  | n + 1 => sumF f n + f n
theorem sumF_congr {f g : Nat → Int} : ∀ n, (∀ i, i < n → f i = g i) → sumF f n = sumF g n
  | 0, _ => rfl
  | n + 1, h => by rw [sumF, sumF, sumF_congr n fun i hi => h i (by omega), h n (by omega)]
theorem sumF_le {f g : Nat → Int} : ∀ n, (∀ i, i < n → f i ≤ g i) → sumF f n ≤ sumF g n
  | 0, _ => Int.le_refl _
  | n + 1, h => by
    have := sumF_le n fun i hi => h i (by omega)
    have := h n (by omega)
    simp only [sumF]; omega
theorem sumF_add (f g : Nat → Int) : ∀ n, sumF (fun i => f i + g i) n = sumF f n + sumF g n
  | 0 => rfl
  | n + 1 => by simp only [sumF, sumF_add f g n]; omega
theorem sumF_mul (c : Int) (f : Nat → Int) : ∀ n, sumF (fun i => c * f i) n = c * sumF f n
  | 0 => by simp [sumF]
  | n + 1 => by simp only [sumF, sumF_mul c f n, Int.mul_add]
theorem sumF_nonneg {f : Nat → Int} (n : Nat) (h : ∀ i, i < n → 0 ≤ f i) : 0 ≤ sumF f n := by
  induction n with
  | zero => exact Int.le_refl _
  | succ n ih =>
    have := ih fun i hi => h i (by omega)
    have := h n (by omega)
    simp only [sumF]; omega
/-- One number of the sum is another one. -/
theorem sumF_set (l : List Int) (b : Nat) (v : Int) : ∀ n, sumF (fun i => (l.set b v).getD i 0) n = sumF (fun i => l.getD i 0) n + if b < n ∧ b < l.length then v - l.getD b 0 else 0
  | 0 => by simp [sumF]
  | n + 1 => by
    have ih := sumF_set l b v n
    simp only [sumF, ih]
    by_cases hb : b = n
    · subst hb
      by_cases hl : b < l.length
      · have e : (l.set b v).getD b 0 = v := by simp [List.getD_eq_getElem?_getD, hl]
        rw [e, if_neg (by omega), if_pos (by omega)]; omega
      · have e : l.set b v = l := List.set_eq_of_length_le (by omega)
        rw [e, if_neg (by omega), if_neg (by omega)]; omega
    · have e : (l.set b v).getD n 0 = l.getD n 0 := by
        rw [List.getD_eq_getElem?_getD, List.getD_eq_getElem?_getD, List.getElem?_set_ne hb]
      rw [e]
      by_cases h : b < n ∧ b < l.length
      · rw [if_pos h, if_pos (by omega)]; omega
      · rw [if_neg h, if_neg (by omega)]; omega

/-- The first of the greatest, of the first k + 1. -/
def bestTo (rs : List Int) : Nat → Nat
  | 0 => 0
  | k + 1 => if rs.getD (k + 1) 0 > rs.getD (bestTo rs k) 0 then k + 1 else bestTo rs k
theorem bestTo_le (rs : List Int) : ∀ k, bestTo rs k ≤ k
  | 0 => Nat.le_refl _
  | k + 1 => by
    have := bestTo_le rs k
    simp only [bestTo]
    split <;> omega
theorem bestTo_max (rs : List Int) : ∀ k i, i ≤ k → rs.getD i 0 ≤ rs.getD (bestTo rs k) 0
  | 0, i, h => by rw [show i = 0 by omega]; exact Int.le_refl _
  | k + 1, i, h => by
    simp only [bestTo]
    by_cases hi : i = k + 1
    · subst hi
      split
      · exact Int.le_refl _
      · omega
    · have := bestTo_max rs k i (by omega)
      split
      · omega
      · exact this
/-- What has been given, and the rests, behind k gifts. -/
def giveTo (q r : List Int) : Nat → List Int × List Int
  | 0 => (q, r)
  | k + 1 => ((giveTo q r k).1.set (bestTo (giveTo q r k).2 (r.length - 1)) ((giveTo q r k).1.getD (bestTo (giveTo q r k).2 (r.length - 1)) 0 + 1), (giveTo q r k).2.set (bestTo (giveTo q r k).2 (r.length - 1)) (-1))
theorem giveTo_len1 (q r : List Int) (k : Nat) : (giveTo q r k).1.length = q.length := by
  induction k with
  | zero => rfl
  | succ k ih => simp [giveTo, ih]
theorem giveTo_len2 (q r : List Int) (k : Nat) : (giveTo q r k).2.length = r.length := by
  induction k with
  | zero => rfl
  | succ k ih => simp [giveTo, ih]
/-- What is known behind k gifts. -/
structure Given (q r : List Int) (k : Nat) : Prop where
  each : ∀ i, i < q.length → ((giveTo q r k).1.getD i 0 = q.getD i 0 ∧ (giveTo q r k).2.getD i 0 = r.getD i 0) ∨ ((giveTo q r k).1.getD i 0 = q.getD i 0 + 1 ∧ (giveTo q r k).2.getD i 0 = -1 ∧ 0 < r.getD i 0)
  sum : sumF (fun i => (giveTo q r k).1.getD i 0) q.length = sumF (fun i => q.getD i 0) q.length + k
theorem getD_set_eq (l : List Int) (m : Nat) (v : Int) (h : m < l.length) : (l.set m v).getD m 0 = v := by simp [List.getD_eq_getElem?_getD, h]
theorem getD_set_ne' (l : List Int) {m i : Nat} (v : Int) (h : m ≠ i) : (l.set m v).getD i 0 = l.getD i 0 := by
  rw [List.getD_eq_getElem?_getD, List.getD_eq_getElem?_getD, List.getElem?_set_ne h]
theorem given {q r : List Int} {all left : Int} (ha : 0 < all) (hl : q.length = r.length) (h0 : ∀ i, i < q.length → 0 ≤ r.getD i 0 ∧ r.getD i 0 < all) (hs : sumF (fun i => r.getD i 0) q.length = left * all) : ∀ k : Nat, (k : Int) ≤ left → Given q r k
  | 0, _ => ⟨fun i _ => .inl ⟨rfl, rfl⟩, by simp [giveTo]⟩
  | k + 1, hk => by
    have ih := given ha hl h0 hs k (by omega)
    have hn1 := giveTo_len1 q r k
    have hn2 := giveTo_len2 q r k
    have hb : bestTo (giveTo q r k).2 (r.length - 1) ≤ r.length - 1 := bestTo_le _ _
    have hmax := bestTo_max (giveTo q r k).2 (r.length - 1)
    have hpos : 0 < left * all := Int.mul_pos (by omega) ha
    have hn : 0 < q.length := by
      rcases Nat.eq_zero_or_pos q.length with h | h
      · rw [h] at hs
        simp only [sumF] at hs
        omega
      · exact h
    have hgive : giveTo q r (k + 1) = ((giveTo q r k).1.set (bestTo (giveTo q r k).2 (r.length - 1)) ((giveTo q r k).1.getD (bestTo (giveTo q r k).2 (r.length - 1)) 0 + 1), (giveTo q r k).2.set (bestTo (giveTo q r k).2 (r.length - 1)) (-1)) := rfl
    obtain ⟨m, hm⟩ : ∃ m, m = bestTo (giveTo q r k).2 (r.length - 1) := ⟨_, rfl⟩
    rw [← hm] at hb hmax hgive
    have hml : m < q.length := by omega
    -- the rest that is taken is no 0
    have hrm : 0 < (giveTo q r k).2.getD m 0 := by
      rcases Int.lt_or_le 0 ((giveTo q r k).2.getD m 0) with h | h
      · exact h
      · exfalso
        have h1 : sumF (fun i => r.getD i 0) q.length ≤ sumF (fun i => (all - 1) * ((giveTo q r k).1.getD i 0 + (-1) * q.getD i 0)) q.length := sumF_le _ fun i hi => by
          have hi2 := hmax i (by omega)
          obtain ⟨hr0, hr1⟩ := h0 i hi
          rcases ih.each i hi with ⟨e1, e2⟩ | ⟨e1, e2, e3⟩
          · rw [e1, show q.getD i 0 + -1 * q.getD i 0 = 0 by omega, Int.mul_zero]; omega
          · rw [e1, show q.getD i 0 + 1 + -1 * q.getD i 0 = 1 by omega, Int.mul_one]; omega
        rw [sumF_mul, sumF_add, sumF_mul, ih.sum, hs] at h1
        have h2 : ((k : Int) + 1) * all ≤ left * all := Int.mul_le_mul_of_nonneg_right (by omega) (by omega)
        rw [Int.add_mul, Int.one_mul] at h2
        rw [show sumF (fun i => q.getD i 0) q.length + (k : Int) + -1 * sumF (fun i => q.getD i 0) q.length = (k : Int) by omega, Int.sub_mul, Int.one_mul, Int.mul_comm all (k : Int)] at h1
        omega
    have hm1 : (giveTo q r k).1.getD m 0 = q.getD m 0 ∧ (giveTo q r k).2.getD m 0 = r.getD m 0 := by
      rcases ih.each m hml with h | ⟨_, h, _⟩
      · exact h
      · omega
    refine ⟨fun i hi => ?_, ?_⟩
    · rw [hgive]
      dsimp only
      by_cases he : m = i
      · subst he
        right
        rw [getD_set_eq _ _ _ (by omega), getD_set_eq _ _ _ (by omega), hm1.1]
        exact ⟨rfl, rfl, by rw [← hm1.2]; exact hrm⟩
      · rw [getD_set_ne' _ _ he, getD_set_ne' _ _ he]
        exact ih.each i hi
    · rw [hgive]
      dsimp only
      rw [sumF_set, if_pos ⟨hml, by omega⟩, ih.sum]
      omega

/-! ### Shares -/
def allN (us : List Nat) : Int := sumF (fun i => ((us.getD i 0 : Nat) : Int)) us.length
def quotL (total : Int) (us : List Nat) : List Int := us.map fun u => total * (u : Nat) / allN us
def restL (total : Int) (us : List Nat) : List Int := us.map fun u => total * (u : Nat) % allN us
def leftN (total : Int) (us : List Nat) : Int := total - sumF (fun i => (quotL total us).getD i 0) us.length
def shareN (total : Int) (us : List Nat) : List Int := (giveTo (quotL total us) (restL total us) (leftN total us).toNat).1
theorem quotL_at (total : Int) (us : List Nat) {i : Nat} (h : i < us.length) : (quotL total us).getD i 0 = total * (us.getD i 0 : Nat) / allN us := by
  simp [quotL, List.getD_eq_getElem?_getD, h]
theorem restL_at (total : Int) (us : List Nat) {i : Nat} (h : i < us.length) : (restL total us).getD i 0 = total * (us.getD i 0 : Nat) % allN us := by
  simp [restL, List.getD_eq_getElem?_getD, h]
theorem allN_nonneg (us : List Nat) : 0 ≤ allN us := sumF_nonneg _ fun _ _ => Int.natCast_nonneg _
theorem rest_sum {total : Int} {us : List Nat} : sumF (fun i => (restL total us).getD i 0) us.length = leftN total us * allN us := by
  have h1 : sumF (fun i => allN us * (quotL total us).getD i 0 + (restL total us).getD i 0) us.length = sumF (fun i => total * ((us.getD i 0 : Nat) : Int)) us.length := sumF_congr _ fun i hi => by
    rw [quotL_at total us hi, restL_at total us hi]; exact Int.mul_ediv_add_emod _ _
  rw [sumF_add, sumF_mul, sumF_mul] at h1
  unfold leftN
  rw [Int.sub_mul, Int.mul_comm (sumF _ _) (allN us)]
  have h2 : sumF (fun i => ((us.getD i 0 : Nat) : Int)) us.length = allN us := rfl
  rw [h2] at h1
  omega
theorem left_nonneg {total : Int} {us : List Nat} (ha : 0 < allN us) : 0 ≤ leftN total us := by
  have h := rest_sum (total := total) (us := us)
  have h0 : 0 ≤ sumF (fun i => (restL total us).getD i 0) us.length := sumF_nonneg _ fun i hi => by
    rw [restL_at total us hi]; exact Int.emod_nonneg _ (by omega)
  rw [h] at h0
  rcases Int.lt_or_le (leftN total us) 0 with h1 | h1
  · have := Int.mul_neg_of_neg_of_pos h1 ha
    omega
  · exact h1
theorem share_given {total : Int} {us : List Nat} (ha : 0 < allN us) : Given (quotL total us) (restL total us) (leftN total us).toNat := by
  have hl : (quotL total us).length = us.length := by simp [quotL]
  have hr : (restL total us).length = us.length := by simp [restL]
  have h0 := left_nonneg (total := total) ha
  refine given (all := allN us) (left := leftN total us) ha (by rw [hl, hr]) (fun i hi => ?_) ?_ _ (by omega)
  · rw [restL_at total us (by omega)]
    exact ⟨Int.emod_nonneg _ (by omega), Int.emod_lt_of_pos _ ha⟩
  · rw [hl]; exact rest_sum
theorem shareN_len (total : Int) (us : List Nat) : (shareN total us).length = us.length := by
  unfold shareN
  rw [giveTo_len1]; simp [quotL]
/-- Shares come to the total. -/
theorem share_sum {total : Int} {us : List Nat} (ha : 0 < allN us) : sumF (fun i => (shareN total us).getD i 0) us.length = total := by
  have h := (share_given (total := total) ha).sum
  have hl : (quotL total us).length = us.length := by simp [quotL]
  have h0 := left_nonneg (total := total) ha
  rw [hl] at h
  show sumF (fun i => (giveTo _ _ _).1.getD i 0) us.length = total
  rw [h]
  have : leftN total us = total - sumF (fun i => (quotL total us).getD i 0) us.length := rfl
  omega
/-- One share. -/
theorem share_at {total : Int} {us : List Nat} (ha : 0 < allN us) {i : Nat} (hi : i < us.length) : (shareN total us).getD i 0 = total * (us.getD i 0 : Nat) / allN us ∨
    ((shareN total us).getD i 0 = total * (us.getD i 0 : Nat) / allN us + 1 ∧ 0 < total * (us.getD i 0 : Nat) % allN us) := by
  have hl : (quotL total us).length = us.length := by simp [quotL]
  rcases (share_given (total := total) ha).each i (by omega) with ⟨h, _⟩ | ⟨h, _, h3⟩
  · rw [quotL_at total us hi] at h; exact .inl h
  · rw [quotL_at total us hi] at h
    rw [restL_at total us hi] at h3
    exact .inr ⟨h, h3⟩
theorem share_nonneg {total : Int} {us : List Nat} (ht : 0 ≤ total) (ha : 0 < allN us) {i : Nat} (hi : i < us.length) : 0 ≤ (shareN total us).getD i 0 := by
  have h : 0 ≤ total * ((us.getD i 0 : Nat) : Int) / allN us := Int.ediv_nonneg (Int.mul_nonneg ht (Int.natCast_nonneg _)) (by omega)
  rcases share_at (total := total) ha hi with e | ⟨e, _⟩ <;> rw [e] <;> omega
theorem share_none {total : Int} {us : List Nat} (ha : 0 < allN us) {i : Nat} (hi : i < us.length) (h0 : us.getD i 0 = 0) : (shareN total us).getD i 0 = 0 := by
  rcases share_at (total := total) ha hi with e | ⟨_, e⟩
  · rw [e, h0]; simp
  · rw [h0] at e; simp at e
theorem share_order {total : Int} {us : List Nat} (ht : 0 ≤ total) (ha : 0 < allN us) {i k : Nat} (hi : i < us.length) (hk : k < us.length) (h : us.getD k 0 ≤ us.getD i 0) : (shareN total us).getD k 0 ≤ (shareN total us).getD i 0 + 1 := by
  have h1 : total * ((us.getD k 0 : Nat) : Int) / allN us ≤ total * ((us.getD i 0 : Nat) : Int) / allN us := Int.ediv_le_ediv ha (Int.mul_le_mul_of_nonneg_left (by omega) ht)
  rcases share_at (total := total) ha hi with e | ⟨e, _⟩ <;> rcases share_at (total := total) ha hk with e' | ⟨e', _⟩ <;> rw [e, e'] <;> omega
/-- Units that are each so many times as much share alike. -/
theorem allN_scale (us : List Nat) (c : Nat) : allN (us.map fun u => c * u) = c * allN us := by
  unfold allN
  rw [List.length_map, ← sumF_mul]
  refine sumF_congr _ fun i hi => ?_
  simp [List.getD_eq_getElem?_getD, hi]
theorem share_one (total : Int) (u : Nat) (hu : 0 < u) : shareN total [u] = [total] := by
  have ha : allN [u] = (u : Int) := by simp [allN, sumF]
  have hs := share_sum (total := total) (us := [u]) (by rw [ha]; omega)
  have hl := shareN_len total [u]
  match h : shareN total [u], hl with
  | [a], _ =>
    rw [h] at hs
    simp [sumF] at hs
    rw [hs]

end Go.Proofs.Ytcbimgdgodeppaa
