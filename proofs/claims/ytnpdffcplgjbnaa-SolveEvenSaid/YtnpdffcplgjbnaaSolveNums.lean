/-
  Plain: slots shared one by one, and the best shares. No program is spoken of here.
-/
import Derived.Test.YtnpdffcplgjbnaaCurveNums
namespace Go.Proofs.Ytnpdffcplgjbnaa
open Go.RowKit

/-! ### Sums -/
def sumZ (f : Nat → Int) : Nat → Int
  | 0 => 0
  | n + 1 => sumZ f n + f n
theorem sumZ_le {f g : Nat → Int} : ∀ n : Nat, (∀ i, i < n → f i ≤ g i) → sumZ f n ≤ sumZ g n
  | 0, _ => Int.le_refl _
  | n + 1, h => by
    have := sumZ_le n fun i hi => h i (by omega)
    have := h n (by omega)
    unfold sumZ
    omega
theorem sumZ_same {f g : Nat → Int} : ∀ n : Nat, (∀ i, i < n → f i = g i) → sumZ f n = sumZ g n
  | 0, _ => rfl
  | n + 1, h => by
    unfold sumZ
    rw [sumZ_same n fun i hi => h i (by omega), h n (by omega)]
theorem sumZ_add (f g : Nat → Int) : ∀ n : Nat, sumZ (fun i => f i + g i) n = sumZ f n + sumZ g n
  | 0 => rfl
  | n + 1 => by
    have := sumZ_add f g n
    unfold sumZ
    omega
theorem sumZ_mul (k : Int) (f : Nat → Int) : ∀ n : Nat, sumZ (fun i => k * f i) n = k * sumZ f n
  | 0 => by simp [sumZ]
  | n + 1 => by
    have := sumZ_mul k f n
    unfold sumZ
    rw [this, Int.mul_add]
/-- One of them more. -/
theorem sumZ_one (f : Nat → Int) (d : Int) (b : Nat) : ∀ n : Nat, sumZ (fun i => f i + if i = b then d else 0) n = sumZ f n + if b < n then d else 0
  | 0 => by simp [sumZ]
  | n + 1 => by
    have := sumZ_one f d b n
    unfold sumZ
    rw [this]
    by_cases h1 : n = b
    · rw [if_pos h1, if_neg (by omega), if_pos (by omega)]; omega
    · rw [if_neg h1]
      by_cases h2 : b < n
      · rw [if_pos h2, if_pos (by omega)]; omega
      · rw [if_neg h2, if_neg (by omega)]; omega

/-! ### Gains that never grow -/
def gainF (F : Nat → Int) (n : Nat) : Int := F (n + 1) - F n
theorem gain_mono {F : Nat → Int} (h : ∀ n, gainF F (n + 1) ≤ gainF F n) : ∀ (d n : Nat), gainF F (n + d) ≤ gainF F n
  | 0, _ => Int.le_refl _
  | d + 1, n => by
    have := gain_mono h d n
    have := h (n + d)
    rw [show n + (d + 1) = n + d + 1 by omega]
    omega
theorem conc_up {F : Nat → Int} (h : ∀ n, gainF F (n + 1) ≤ gainF F n) : ∀ (d n : Nat), F (n + d) - F n ≤ (d : Int) * gainF F n
  | 0, n => by simp
  | d + 1, n => by
    have ih := conc_up h d n
    have hm := gain_mono h d n
    unfold gainF at hm ih ⊢
    rw [show ((d + 1 : Nat) : Int) = (d : Int) + 1 by omega, Int.add_mul, Int.one_mul, show n + (d + 1) = n + d + 1 by omega]
    omega
theorem conc_down {F : Nat → Int} (h : ∀ n, gainF F (n + 1) ≤ gainF F n) : ∀ (d n : Nat), ((d + 1 : Nat) : Int) * gainF F (n + d) ≤ F (n + d + 1) - F n
  | 0, n => by unfold gainF; simp
  | d + 1, n => by
    have ih := conc_down h d n
    have hm := h (n + d)
    have hn : (0 : Int) ≤ ((d + 1 : Nat) : Int) := by omega
    have h2 := Int.mul_le_mul_of_nonneg_left hm hn
    rw [show n + (d + 1) = n + d + 1 by omega, show ((d + 1 + 1 : Nat) : Int) = ((d + 1 : Nat) : Int) + 1 by omega, Int.add_mul, Int.one_mul]
    have e : gainF F (n + d + 1) = F (n + d + 1 + 1) - F (n + d + 1) := rfl
    omega
/-- A price: what was taken was worth it, what was not taken is not. -/
theorem price_best {K : Nat} {F : Nat → Nat → Int} (hc : ∀ i, i < K → ∀ n, gainF (F i) (n + 1) ≤ gainF (F i) n) {low x y : Nat → Nat} {t : Int} (h1 : ∀ i, i < K → gainF (F i) (x i) ≤ t) (h2 : ∀ i, i < K → low i < x i → t ≤ gainF (F i) (x i - 1))
    (hy : ∀ i, i < K → low i ≤ y i) (hs : sumZ (fun i => (x i : Int)) K = sumZ (fun i => (y i : Int)) K) : sumZ (fun i => F i (y i)) K ≤ sumZ (fun i => F i (x i)) K := by
  have key : ∀ i, i < K → F i (y i) ≤ F i (x i) + t * ((y i : Int) - (x i : Int)) := fun i hi => by
    rcases Nat.lt_or_ge (y i) (x i) with g | g
    · obtain ⟨d, hd⟩ : ∃ d, x i = y i + d + 1 := ⟨x i - y i - 1, by omega⟩
      have h3 := conc_down (hc i hi) d (y i)
      have h4 := h2 i hi (by have := hy i hi; omega)
      rw [show x i - 1 = y i + d by omega] at h4
      have h5 := Int.mul_le_mul_of_nonneg_left h4 (show (0 : Int) ≤ ((d + 1 : Nat) : Int) by omega)
      rw [hd]
      have e : t * ((y i : Int) - ((y i + d + 1 : Nat) : Int)) = -(((d + 1 : Nat) : Int) * t) := by
        rw [show (y i : Int) - ((y i + d + 1 : Nat) : Int) = -((d + 1 : Nat) : Int) by omega, Int.mul_neg, Int.mul_comm]
      rw [e]
      omega
    · obtain ⟨d, hd⟩ : ∃ d, y i = x i + d := ⟨y i - x i, by omega⟩
      have h3 := conc_up (hc i hi) d (x i)
      have h5 := Int.mul_le_mul_of_nonneg_left (h1 i hi) (show (0 : Int) ≤ (d : Int) by omega)
      rw [hd]
      have e : t * (((x i + d : Nat) : Int) - (x i : Int)) = (d : Int) * t := by rw [show ((x i + d : Nat) : Int) - (x i : Int) = (d : Int) by omega, Int.mul_comm]
      rw [e]
      omega
  have h6 := sumZ_le K key
  rw [sumZ_add, sumZ_mul] at h6
  have h7 : sumZ (fun i => (y i : Int) - (x i : Int)) K = 0 := by
    have h8 := sumZ_add (fun i => (y i : Int) - (x i : Int)) (fun i => (x i : Int)) K
    rw [sumZ_same (g := fun i => (y i : Int)) K (fun i _ => by omega)] at h8
    omega
  rw [h7, Int.mul_zero] at h6
  omega

/-! ### Slot by slot -/
/-- The first of the greatest. -/
def bestG (g : Nat → Int) : Nat → Nat
  | 0 => 0
  | k + 1 => if g (bestG g k) < g (k + 1) then k + 1 else bestG g k
theorem bestG_le (g : Nat → Int) : ∀ k : Nat, bestG g k ≤ k
  | 0 => Nat.le_refl _
  | k + 1 => by
    have := bestG_le g k
    unfold bestG
    split <;> omega
theorem bestG_max (g : Nat → Int) : ∀ (k i : Nat), i ≤ k → g i ≤ g (bestG g k)
  | 0, i, h => by rw [show i = 0 by omega]; exact Int.le_refl _
  | k + 1, i, h => by
    unfold bestG
    by_cases hk : g (bestG g k) < g (k + 1)
    · rw [if_pos hk]
      by_cases hi : i = k + 1
      · rw [hi]; exact Int.le_refl _
      · have := bestG_max g k i (by omega); omega
    · rw [if_neg hk]
      by_cases hi : i = k + 1
      · rw [hi]; omega
      · exact bestG_max g k i (by omega)
theorem bestG_first (g : Nat → Int) : ∀ (k i : Nat), i < bestG g k → g i < g (bestG g k)
  | 0, i, h => by exact absurd h (Nat.not_lt_zero i)
  | k + 1, i, h => by
    unfold bestG at h ⊢
    by_cases hk : g (bestG g k) < g (k + 1)
    · rw [if_pos hk] at h ⊢
      have := bestG_max g k i (by omega); omega
    · rw [if_neg hk] at h ⊢
      exact bestG_first g k i h
/-- What one more slot does (of K + 1 curves). -/
def stepS (F : Nat → Nat → Int) (K : Nat) (x : Nat → Nat) : Nat → Nat := fun i => if i = bestG (fun i => gainF (F i) (x i)) K then x i + 1 else x i
def greedyS (F : Nat → Nat → Int) (K : Nat) : Nat → (Nat → Nat) → Nat → Nat
  | 0, x => x
  | n + 1, x => stepS F K (greedyS F K n x)
theorem greedy_ge (F : Nat → Nat → Int) (K : Nat) (x : Nat → Nat) : ∀ n i, x i ≤ greedyS F K n x i
  | 0, _ => Nat.le_refl _
  | n + 1, i => by
    have := greedy_ge F K x n i
    show x i ≤ stepS F K (greedyS F K n x) i
    unfold stepS
    split <;> omega
theorem greedy_sum (F : Nat → Nat → Int) (K : Nat) (x : Nat → Nat) : ∀ n : Nat, sumZ (fun i => (greedyS F K n x i : Int)) (K + 1) = sumZ (fun i => (x i : Int)) (K + 1) + n
  | 0 => by simp [greedyS]
  | n + 1 => by
    have ih := greedy_sum F K x n
    have h1 := sumZ_one (fun i => (greedyS F K n x i : Int)) 1 (bestG (fun i => gainF (F i) (greedyS F K n x i)) K) (K + 1)
    rw [if_pos (by have := bestG_le (fun i => gainF (F i) (greedyS F K n x i)) K; omega)] at h1
    rw [sumZ_same (g := fun i => (greedyS F K n x i : Int) + if i = bestG (fun i => gainF (F i) (greedyS F K n x i)) K then 1 else 0) (K + 1) (fun i _ => by
      show ((stepS F K (greedyS F K n x) i : Nat) : Int) = _
      unfold stepS
      split <;> omega), h1, ih]
    omega
/-- Where no gain ever grows, slot by slot is as good as any. -/
theorem greedy_best {K : Nat} {F : Nat → Nat → Int} (hc : ∀ i, i < K + 1 → ∀ n, gainF (F i) (n + 1) ≤ gainF (F i) n) (x y : Nat → Nat) (n : Nat) (hy : ∀ i, i < K + 1 → x i ≤ y i) (hs : sumZ (fun i => (y i : Int)) (K + 1) = sumZ (fun i => (x i : Int)) (K + 1) + n) :
    sumZ (fun i => F i (y i)) (K + 1) ≤ sumZ (fun i => F i (greedyS F K n x i)) (K + 1) := by
  have inv : ∀ n : Nat, ∃ t : Int, (∀ i, i < K + 1 → gainF (F i) (greedyS F K n x i) ≤ t) ∧ ∀ i, i < K + 1 → x i < greedyS F K n x i → t ≤ gainF (F i) (greedyS F K n x i - 1) := by
    intro n
    induction n with
    | zero => exact ⟨gainF (F (bestG (fun i => gainF (F i) (x i)) K)) (x (bestG (fun i => gainF (F i) (x i)) K)), fun i hi => bestG_max (fun i => gainF (F i) (x i)) K i (by omega), fun i _ h => absurd h (Nat.lt_irrefl _)⟩
    | succ n ih =>
      obtain ⟨t, h1, h2⟩ := ih
      obtain ⟨z, hz⟩ : ∃ z, z = greedyS F K n x := ⟨_, rfl⟩
      have hzs : greedyS F K (n + 1) x = stepS F K z := by rw [hz]; rfl
      rw [← hz] at h1 h2
      rw [hzs]
      obtain ⟨b, hb⟩ : ∃ b, b = bestG (fun i => gainF (F i) (z i)) K := ⟨_, rfl⟩
      have hbl : b ≤ K := by rw [hb]; exact bestG_le _ _
      have hmax : ∀ i, i ≤ K → gainF (F i) (z i) ≤ gainF (F b) (z b) := fun i hi => by rw [hb]; exact bestG_max (fun i => gainF (F i) (z i)) K i hi
      have hst : ∀ i, stepS F K z i = if i = b then z i + 1 else z i := fun i => by unfold stepS; rw [← hb]
      refine ⟨gainF (F b) (z b), fun i hi => ?_, fun i hi hlt => ?_⟩
      · rw [hst]
        by_cases hib : i = b
        · rw [if_pos hib, hib]; exact hc b (by omega) (z b)
        · rw [if_neg hib]; exact hmax i (by omega)
      · rw [hst] at hlt ⊢
        by_cases hib : i = b
        · rw [if_pos hib, hib]; exact Int.le_refl _
        · rw [if_neg hib] at hlt ⊢
          have := h2 i hi hlt
          have := h1 b (by omega)
          omega
  obtain ⟨t, h1, h2⟩ := inv n
  exact price_best hc h1 h2 hy (by rw [greedy_sum, hs])

end Go.Proofs.Ytnpdffcplgjbnaa
