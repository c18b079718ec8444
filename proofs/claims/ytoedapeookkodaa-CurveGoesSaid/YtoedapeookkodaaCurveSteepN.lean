/-
  Plain: a curve whose gains fall, and one whose gains are one. No program is spoken of here.
-/
import Derived.Test.YtoedapeookkodaaCurveNums
namespace Go.Proofs.Ytoedapeookkodaa
open Go.RowKit

def fall : Nat → Int
  | 0 => 0
  | i + 1 => fall i + 1000 - 3 * (i : Int)
def fallL (k : Nat) : List Int := (List.range (k + 1)).map fall
def evenL (g : Int) (k : Nat) : List Int := (List.range (k + 1)).map fun i : Nat => g * (i : Int)
theorem fallL_len (k : Nat) : (fallL k).length = k + 1 := by simp [fallL]
theorem evenL_len (g : Int) (k : Nat) : (evenL g k).length = k + 1 := by simp [evenL]
theorem fallL_at {k i : Nat} (h : i ≤ k) : (fallL k).getD i 0 = fall i := by simp [fallL, List.getD, show i < k + 1 by omega]
theorem evenL_at {g : Int} {k i : Nat} (h : i ≤ k) : (evenL g k).getD i 0 = g * (i : Int) := by simp [evenL, List.getD, show i < k + 1 by omega]
theorem fallL_snoc (k : Nat) : fallL (k + 1) = fallL k ++ [fall (k + 1)] := by unfold fallL; rw [List.range_succ, List.map_append]; rfl
theorem evenL_snoc (g : Int) (k : Nat) : evenL g (k + 1) = evenL g k ++ [g * ((k + 1 : Nat) : Int)] := by unfold evenL; rw [List.range_succ, List.map_append]; rfl
theorem fall_two : ∀ i : Nat, 2 * fall i = 2003 * (i : Int) - 3 * ((i : Int) * (i : Int))
  | 0 => rfl
  | i + 1 => by
    have ih := fall_two i
    rw [show fall (i + 1) = fall i + 1000 - 3 * (i : Int) from rfl]
    have e : ((i + 1 : Nat) : Int) * ((i + 1 : Nat) : Int) = (i : Int) * (i : Int) + 2 * (i : Int) + 1 := by
      rw [show ((i + 1 : Nat) : Int) = (i : Int) + 1 by omega, Int.add_mul, Int.mul_add, Int.mul_add]; omega
    rw [e]
    omega
theorem fall_bounds : ∀ i : Nat, i ≤ 200 → 0 ≤ fall i ∧ fall i ≤ 1000 * (i : Int)
  | 0, _ => by decide
  | i + 1, h => by
    have ih := fall_bounds i (by omega)
    rw [show fall (i + 1) = fall i + 1000 - 3 * (i : Int) from rfl]
    omega
theorem fall_gap (a : Int) (u v Fu Fv Fa : Int) (h1 : 2 * Fa = 2003 * a - 3 * (a * a)) (h2 : 2 * Fu = 2003 * (a + u) - 3 * ((a + u) * (a + u))) (h3 : 2 * Fv = 2003 * (a + v) - 3 * ((a + v) * (a + v))) (hu : 0 < u) (huv : u < v) : (Fv - Fa) * u < (Fu - Fa) * v := by
  have eu : (a + u) * (a + u) = a * a + 2 * (a * u) + u * u := by rw [Int.add_mul, Int.mul_add, Int.mul_add, Int.mul_comm u a]; omega
  have ev : (a + v) * (a + v) = a * a + 2 * (a * v) + v * v := by rw [Int.add_mul, Int.mul_add, Int.mul_add, Int.mul_comm v a]; omega
  rw [eu] at h2
  rw [ev] at h3
  have du : 2 * (Fu - Fa) = (2003 - 6 * a - 3 * u) * u := by
    rw [Int.sub_mul, Int.sub_mul, Int.mul_assoc 6, Int.mul_assoc 3]; omega
  have dv : 2 * (Fv - Fa) = (2003 - 6 * a - 3 * v) * v := by
    rw [Int.sub_mul, Int.sub_mul, Int.mul_assoc 6, Int.mul_assoc 3]; omega
  have p : 0 < u * v := Int.mul_pos hu (by omega)
  have e1 : 2 * ((Fu - Fa) * v) = (2003 - 6 * a - 3 * u) * (u * v) := by rw [← Int.mul_assoc, du, Int.mul_assoc]
  have e2 : 2 * ((Fv - Fa) * u) = (2003 - 6 * a - 3 * v) * (u * v) := by rw [← Int.mul_assoc, dv, Int.mul_assoc, Int.mul_comm v u]
  have hlt : (2003 - 6 * a - 3 * v) * (u * v) < (2003 - 6 * a - 3 * u) * (u * v) := Int.mul_lt_mul_of_pos_right (by omega) p
  omega
theorem fall_corner {k s : Nat} (hs : s ≤ k) : cornerB (fallL k) s = true := by
  unfold cornerB
  rw [List.all_eq_true]
  intro a ha
  have ha := List.mem_range.1 ha
  unfold rowOk
  rw [List.all_eq_true]
  intro b hb
  have hb := List.mem_range.1 hb
  rw [fallL_len] at hb
  by_cases hbs : b ≤ s
  · rw [decide_eq_true hbs]; rfl
  · rw [decide_eq_false hbs, Bool.false_or]
    unfold moreC
    rw [fallL_at (by omega), fallL_at hs, fallL_at (by omega), decide_eq_true_eq]
    have := fall_gap (a : Int) ((s : Int) - a) ((b : Int) - a) (fall s) (fall b) (fall a) (fall_two a) (by rw [show (a : Int) + ((s : Int) - a) = s by omega]; exact fall_two s) (by rw [show (a : Int) + ((b : Int) - a) = b by omega]; exact fall_two b) (by omega) (by omega)
    exact this
theorem fall_sound {k : Nat} (hk : k ≤ 200) : soundL (fallL k) = true := by
  refine (soundL_iff _).2 ⟨by rw [fallL_len]; omega, by rw [fallL_len]; omega, by rw [fallL_at (Nat.zero_le _)]; decide, fun i hi => ?_⟩
  rw [fallL_len] at hi
  unfold soundAt
  rw [fallL_at (by omega), fallL_at (by omega)]
  have hb := fall_bounds i (by omega)
  rw [decide_eq_true (by omega : fall i ≤ 4503599627370496), Bool.true_and]
  cases i with
  | zero => rfl
  | succ i =>
    rw [Nat.add_sub_cancel, show fall (i + 1) = fall i + 1000 - 3 * (i : Int) from rfl, decide_eq_true (by omega : fall i ≤ fall i + 1000 - 3 * (i : Int))]
    simp
theorem fall_hull {k : Nat} (hk : k ≤ 200) : hullR (fallL k) = (0, (List.range (k + 1)).map fun s : Nat => (s : Int)) := by
  unfold hullR
  rw [fall_sound hk, if_pos rfl]
  unfold hullL hullTo
  rw [fallL_len, List.filter_eq_self.2 fun s hs => fall_corner (by have := List.mem_range.1 hs; omega)]
theorem even_corner {g : Int} {k s : Nat} (h0 : 0 < s) (hs : s < k) : cornerB (evenL g k) s = false := by
  unfold cornerB
  rw [List.all_eq_false]
  refine ⟨0, List.mem_range.2 h0, ?_⟩
  unfold rowOk
  rw [Bool.not_eq_true, List.all_eq_false]
  refine ⟨k, List.mem_range.2 (by rw [evenL_len]; omega), ?_⟩
  rw [decide_eq_false (by omega : ¬ k ≤ s), Bool.false_or]
  unfold moreC
  rw [evenL_at (Nat.le_refl _), evenL_at (Nat.zero_le _), evenL_at (by omega)]
  simp only [decide_eq_true_eq]
  have e : (g * (k : Int) - g * ((0 : Nat) : Int)) * ((s : Int) - ((0 : Nat) : Int)) = (g * (s : Int) - g * ((0 : Nat) : Int)) * ((k : Int) - ((0 : Nat) : Int)) := by
    simp only [Int.natCast_zero, Int.mul_zero, Int.sub_zero]
    rw [Int.mul_assoc, Int.mul_assoc, Int.mul_comm (k : Int)]
  rw [e]
  exact Int.lt_irrefl _
theorem even_last {g : Int} {k : Nat} : cornerB (evenL g k) k = true := by
  unfold cornerB
  rw [List.all_eq_true]
  intro a _
  unfold rowOk
  rw [List.all_eq_true]
  intro b hb
  have hb := List.mem_range.1 hb
  rw [evenL_len] at hb
  rw [decide_eq_true (by omega : b ≤ k)]; rfl
theorem even_hull {g : Int} (h0 : 0 ≤ g) (h1 : g ≤ 65535) {k : Nat} (hk0 : 1 ≤ k) (hk : k ≤ 200) : hullR (evenL g k) = (0, [0, (k : Int)]) := by
  have hb : ∀ i : Nat, i ≤ 200 → 0 ≤ g * (i : Int) ∧ g * (i : Int) ≤ 13107000 := fun i hi => by
    have h2 := Int.mul_nonneg h0 (show (0 : Int) ≤ (i : Int) by omega)
    have h3 : g * (i : Int) ≤ 65535 * 200 := Int.mul_le_mul h1 (by omega) (by omega) (by decide)
    exact ⟨h2, by omega⟩
  have hsd : soundL (evenL g k) = true := by
    refine (soundL_iff _).2 ⟨by rw [evenL_len]; omega, by rw [evenL_len]; omega, by rw [evenL_at (Nat.zero_le _)]; simp, fun i hi => ?_⟩
    rw [evenL_len] at hi
    unfold soundAt
    rw [evenL_at (by omega), evenL_at (by omega)]
    have hbi := hb i (by omega)
    rw [decide_eq_true (by omega : g * (i : Int) ≤ 4503599627370496), Bool.true_and]
    cases i with
    | zero => rfl
    | succ i =>
      have e : g * ((i + 1 : Nat) : Int) = g * (i : Int) + g := by rw [show ((i + 1 : Nat) : Int) = (i : Int) + 1 by omega, Int.mul_add, Int.mul_one]
      rw [Nat.add_sub_cancel, decide_eq_true (by omega : g * (i : Int) ≤ g * ((i + 1 : Nat) : Int))]
      simp
  have ht : ∀ j : Nat, j + 1 ≤ k → hullTo (evenL g k) (j + 1) = [0] := by
    intro j
    induction j with
    | zero =>
      intro _
      rw [hullTo_succ]
      rfl
    | succ j ih =>
      intro hj
      rw [hullTo_succ, even_corner (by omega) (by omega), ih (by omega)]
      rfl
  unfold hullR
  rw [hsd, if_pos rfl]
  unfold hullL
  rw [evenL_len, hullTo_succ, even_last]
  obtain ⟨j, rfl⟩ : ∃ j, k = j + 1 := ⟨k - 1, by omega⟩
  rw [ht j (Nat.le_refl _)]
  rfl

end Go.Proofs.Ytoedapeookkodaa
