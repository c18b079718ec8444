/-
  Numbers of 64 bits as they are compared: what is above 0, and which of two is above the other one. No program is spoken of here.
-/
import Derived.Test.YtoedapeookkodaaWeighUnits
import Ieee.Arith
namespace Go.Proofs.Ytoedapeookkodaa
open Ieee

theorem dbl_binade : Ieee.double.binade = 4503599627370496 := by decide
theorem dbl_sign : Ieee.double.signWeight = 9223372036854775808 := by decide
theorem dbl_inf : Ieee.double.infRung = 9218868437227405312 := by decide
theorem dbl_least : Ieee.double.leastPlace = -1074 := by decide
/-- A number that is no greater than the finite ones. -/
theorem read_fin {b : Nat} (h : b < infBits) : Ieee.double.read b = .number false (mantN b) (expoN b) := by
  unfold infBits at h
  have h1 : b / 9223372036854775808 % 2 = 0 := by omega
  have h2 : b % 9223372036854775808 = b := by omega
  unfold Format.read
  simp only [dbl_binade, dbl_sign, dbl_inf, dbl_least, h1, h2]
  by_cases h3 : b < 4503599627370496
  · rw [if_pos h3]
    have h4 : b / 4503599627370496 % 2048 = 0 := by omega
    unfold mantN expoN
    rw [if_pos h4, if_pos h4, show b % 4503599627370496 = b by omega]; rfl
  · rw [if_neg h3, if_pos h]
    have h4 : ¬ b / 4503599627370496 % 2048 = 0 := by omega
    have h5 : b / 4503599627370496 % 2048 = b / 4503599627370496 := by omega
    unfold mantN expoN
    rw [if_neg h4, if_neg h4, h5, Nat.add_comm]
    have h6 : (-1074 : Int) + ((b / 4503599627370496 - 1 : Nat) : Int) = ((b / 4503599627370496 : Nat) : Int) - 1075 := by omega
    rw [h6]; rfl
theorem read_inf : Ieee.double.read infBits = .infinity false := by decide
theorem read_zero : Ieee.double.read 0 = .number false 0 (-1074) := by decide
/-- What lies above: no number, or below 0. -/
theorem read_else {b : Nat} (h : infBits < b) : (∃ s t, Ieee.double.read b = .nan s t) ∨ (b < 18446744073709551616 → ((∃ m e, Ieee.double.read b = .number true m e) ∨ Ieee.double.read b = .infinity true)) := by
  unfold infBits at h
  unfold Format.read
  simp only [dbl_binade, dbl_sign, dbl_inf, dbl_least]
  by_cases h1 : b % 9223372036854775808 < 4503599627370496
  · rw [if_pos h1]
    right
    intro hb
    have h2 : b / 9223372036854775808 % 2 = 1 := by omega
    rw [h2]
    exact .inl ⟨_, _, rfl⟩
  · rw [if_neg h1]
    by_cases h2 : b % 9223372036854775808 < 9218868437227405312
    · rw [if_pos h2]
      right
      intro hb
      have h3 : b / 9223372036854775808 % 2 = 1 := by omega
      rw [h3]
      exact .inl ⟨_, _, rfl⟩
    · rw [if_neg h2]
      by_cases h3 : b % 9223372036854775808 = 9218868437227405312
      · rw [if_pos h3]
        right
        intro hb
        have h4 : b / 9223372036854775808 % 2 = 1 := by omega
        rw [h4]
        exact .inr rfl
      · rw [if_neg h3]
        exact .inl ⟨_, _, rfl⟩
theorem shl_eq (m k : Nat) : m <<< k = m * 2 ^ k := Nat.shiftLeft_eq m k
/-- Above 0. -/
theorem order_pos {b : Nat} (hb : b < 18446744073709551616) : (Ieee.double.order b 0 == some .gt) = posN b := by
  unfold Format.order
  rw [read_zero]
  rcases Nat.lt_trichotomy b infBits with h | h | h
  · rw [read_fin h]
    simp only [Datum.order, signed, shl_eq, Bool.false_eq_true, if_false, Nat.zero_mul]
    by_cases h0 : b = 0
    · subst h0; decide
    · have hm := mant_pos (b := b) (by omega) h
      have hp : posN b = true := by simp [posN]; omega
      rw [hp]
      have hpos : 0 < mantN b * 2 ^ (expoN b - min (expoN b) (-1074)).toNat := Nat.mul_pos hm (Nat.two_pow_pos _)
      have hc : compare ((mantN b * 2 ^ (expoN b - min (expoN b) (-1074)).toNat : Nat) : Int) ((0 : Nat) : Int) = .gt := by
        rw [Int.compare_eq_gt]; omega
      rw [hc]; rfl
  · rw [h, read_inf]; decide
  · have hp : posN b = false := by simp [posN]; omega
    rw [hp]
    rcases read_else h with ⟨s, t, e⟩ | e
    · rw [e]; rfl
    · rcases e hb with ⟨m, x, e⟩ | e
      · rw [e]
        simp only [Datum.order, signed, shl_eq, if_true, Bool.false_eq_true, if_false, Nat.zero_mul]
        have hc : compare (-((m * 2 ^ (x - min x (-1074)).toNat : Nat) : Int)) ((0 : Nat) : Int) ≠ .gt := by
          rw [Ne, Int.compare_eq_gt]; omega
        cases h9 : compare (-((m * 2 ^ (x - min x (-1074)).toNat : Nat) : Int)) ((0 : Nat) : Int) with
        | gt => exact absurd h9 hc
        | lt => rfl
        | eq => rfl
      · rw [e]; rfl
/-- Of two above 0 the one that is above has the greater bits. -/
theorem order_gt {b b' : Nat} (hb : b < 18446744073709551616) (hp' : posN b' = true) (h : Ieee.double.order b b' = some .gt) : posN b = true ∧ b' ≤ b := by
  have hp : 0 < b' ∧ b' ≤ infBits := by simpa [posN] using hp'
  unfold Format.order at h
  rcases Nat.lt_trichotomy b infBits with h1 | h1 | h1
  · rw [read_fin h1] at h
    rcases Nat.lt_or_eq_of_le hp.2 with h2 | h2
    · rw [read_fin h2] at h
      simp only [Datum.order, signed, shl_eq, Bool.false_eq_true, if_false, Option.some.injEq] at h
      rw [Int.compare_eq_gt] at h
      have hle : b' ≤ b := by
        rcases Nat.le_total b' b with g | g
        · exact g
        · exfalso
          have hm := scaled_mono g h2 (-(min (expoN b) (expoN b')))
          unfold scaledN scaleF at hm
          rw [if_pos (by omega), if_pos (by omega)] at hm
          rw [show expoN b + -min (expoN b) (expoN b') = expoN b - min (expoN b) (expoN b') by omega, show expoN b' + -min (expoN b) (expoN b') = expoN b' - min (expoN b) (expoN b') by omega] at hm
          omega
      exact ⟨by simp [posN]; omega, hle⟩
    · rw [h2, read_inf] at h
      simp only [Datum.order, Bool.false_eq_true, if_false, Option.some.injEq] at h
      cases h
  · exact ⟨by rw [h1]; decide, by omega⟩
  · exfalso
    rcases read_else h1 with ⟨s, t, e⟩ | e
    · rw [e] at h; cases h
    · rcases e hb with ⟨m, x, e⟩ | e
      · rw [e] at h
        rcases Nat.lt_or_eq_of_le hp.2 with h2 | h2
        · rw [read_fin h2] at h
          simp only [Datum.order, signed, shl_eq, if_true, Bool.false_eq_true, if_false, Option.some.injEq] at h
          rw [Int.compare_eq_gt] at h
          omega
        · rw [h2, read_inf] at h
          simp only [Datum.order, Bool.false_eq_true, if_false, Option.some.injEq] at h
          cases h
      · rw [e] at h
        rcases Nat.lt_or_eq_of_le hp.2 with h2 | h2
        · rw [read_fin h2] at h
          simp only [Datum.order, if_true, Option.some.injEq] at h
          cases h
        · rw [h2, read_inf] at h
          exact absurd h (by decide)

end Go.Proofs.Ytoedapeookkodaa
