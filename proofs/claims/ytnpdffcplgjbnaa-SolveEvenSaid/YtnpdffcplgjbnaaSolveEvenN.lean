/-
  Plain: curves that are one curve, with gains that fall, slot by slot. No program is spoken of here.
-/
import Derived.Test.YtnpdffcplgjbnaaSolveNums
namespace Go.Proofs.Ytnpdffcplgjbnaa
open Go.RowKit

theorem bestG_is {g : Nat → Int} {K r : Nat} (hr : r ≤ K) (h1 : ∀ i, i ≤ K → g i ≤ g r) (h2 : ∀ i, i < r → g i < g r) : bestG g K = r := by
  have a := bestG_le g K
  have b := bestG_max g K r hr
  have c := h1 (bestG g K) a
  rcases Nat.lt_trichotomy (bestG g K) r with h | h | h
  · have := h2 _ h; omega
  · exact h
  · have := bestG_first g K r h; omega
/-- All alike: the first r have one more. -/
theorem even_inv {F : Nat → Int} {K M : Nat} (hf : ∀ n, n < M → gainF F (n + 1) < gainF F n) : ∀ j : Nat, j ≤ M → ∃ q r : Nat, r ≤ K ∧ q + (if 0 < r then 1 else 0) ≤ j ∧ ∀ i, i ≤ K → greedyS (fun _ => F) K j (fun _ => 0) i = if i < r then q + 1 else q
  | 0, _ => ⟨0, 0, Nat.zero_le _, by simp, fun i _ => by simp [greedyS]⟩
  | j + 1, hj => by
    obtain ⟨q, r, hr, hq, hx⟩ := even_inv (K := K) hf j (by omega)
    obtain ⟨z, hz⟩ : ∃ z, z = greedyS (fun _ => F) K j (fun _ => 0) := ⟨_, rfl⟩
    rw [← hz] at hx
    have hqM : q < M := by
      split at hq <;> omega
    have hfq := hf q hqM
    have hb : bestG (fun i => gainF F (z i)) K = r := by
      refine bestG_is hr (fun i hi => ?_) fun i hi => ?_
      · show gainF F (z i) ≤ gainF F (z r)
        rw [hx i hi, hx r hr, if_neg (Nat.lt_irrefl r)]
        split
        · omega
        · exact Int.le_refl _
      · show gainF F (z i) < gainF F (z r)
        rw [hx i (by omega), hx r hr, if_neg (Nat.lt_irrefl r), if_pos hi]
        exact hfq
    have hs : ∀ i, greedyS (fun _ => F) K (j + 1) (fun _ => 0) i = if i = r then z i + 1 else z i := fun i => by
      show stepS (fun _ => F) K (greedyS (fun _ => F) K j (fun _ => 0)) i = _
      rw [← hz]
      unfold stepS
      rw [hb]
    by_cases hrK : r = K
    · refine ⟨q + 1, 0, Nat.zero_le _, ?_, fun i hi => ?_⟩
      · rw [if_neg (Nat.lt_irrefl 0)]
        split at hq <;> omega
      · rw [hs, hx i hi, if_neg (Nat.not_lt_zero i)]
        by_cases hir : i = r
        · rw [if_pos hir, if_neg (by omega)]
        · rw [if_neg hir, if_pos (by omega)]
    · refine ⟨q, r + 1, by omega, ?_, fun i hi => ?_⟩
      · rw [if_pos (by omega)]
        split at hq <;> omega
      · rw [hs, hx i hi]
        by_cases hir : i = r
        · rw [if_pos hir, if_neg (by omega), if_pos (by omega)]
        · rw [if_neg hir]
          by_cases h3 : i < r
          · rw [if_pos h3, if_pos (by omega)]
          · rw [if_neg h3, if_neg (by omega)]
/-- None has less than the last, and none more than one more. -/
theorem even_last {F : Nat → Int} {K M : Nat} (hf : ∀ n, n < M → gainF F (n + 1) < gainF F n) {j : Nat} (hj : j ≤ M) {i : Nat} (hi : i ≤ K) :
    greedyS (fun _ => F) K j (fun _ => 0) K ≤ greedyS (fun _ => F) K j (fun _ => 0) i ∧ greedyS (fun _ => F) K j (fun _ => 0) i ≤ greedyS (fun _ => F) K j (fun _ => 0) K + 1 := by
  obtain ⟨q, r, hr, _, hx⟩ := even_inv (K := K) hf j hj
  rw [hx i hi, hx K (Nat.le_refl _), if_neg (by omega)]
  split <;> omega

end Go.Proofs.Ytnpdffcplgjbnaa
