/-
  A number times 65536, and that without its fraction. No program is spoken of here.
-/
import Derived.Test.YtcliampjgbmeaaaWeighF1
import Derived.Test.YtcliampjgbmeaaaRateFloatN
namespace Go.Proofs.Ytcliampjgbmeaaa
open Ieee

theorem cut_zero (s : Bool) (n d : Nat) : Toward.zero.cut s n d = n / 2 ^ d := by
  unfold Toward.cut
  simp only [shl_eq, Nat.one_mul, Bool.toNat_false, Nat.add_zero]
  rcases Nat.le_total d (n.log2 + 2) with h | h
  · rw [Nat.min_eq_left h]
  · rw [Nat.min_eq_right h]
    have h1 : n < 2 ^ (n.log2 + 1) := Nat.lt_log2_self
    have h2 : (2 : Nat) ^ (n.log2 + 1) ≤ 2 ^ (n.log2 + 2) := Nat.pow_le_pow_right (by decide) (by omega)
    have h3 : (2 : Nat) ^ (n.log2 + 2) ≤ 2 ^ d := Nat.pow_le_pow_right (by decide) h
    rw [Nat.div_eq_of_lt (by omega), Nat.div_eq_of_lt (by omega)]
/-- A number without its fraction. -/
theorem toInt_fin {b : Nat} (h : b < infBits) : (Ieee.double.read b).toInt .zero = some ((scaleF (mantN b) (expoN b) : Nat) : Int) := by
  rw [read_fin h]
  simp only [Datum.toInt, Datum.integral, cut_zero, signed, shl_eq, Bool.false_eq_true, if_false, Nat.pow_zero, Nat.mul_one]
  congr 2
  unfold scaleF
  by_cases h0 : 0 ≤ expoN b
  · rw [if_pos h0, show (-expoN b).toNat = 0 by omega, Nat.pow_zero, Nat.div_one]
  · rw [if_neg h0, show (expoN b).toNat = 0 by omega, Nat.pow_zero, Nat.mul_one]
theorem toInt_small {b : Nat} (h : b < 4607182418800017408) : (Ieee.double.read b).toInt .zero = some 0 := by
  rw [toInt_fin (by unfold infBits; omega)]
  have h1 : scaleF (mantN b) (expoN b) = 0 := by
    have hm := mant_lt b
    unfold scaleF
    by_cases hd : b / 4503599627370496 % 2048 = 0
    · have hx : expoN b = -1074 := by unfold expoN; rw [if_pos hd]
      rw [hx, if_neg (by decide)]
      refine Nat.div_eq_of_lt (Nat.lt_of_lt_of_le hm (Nat.pow_le_pow_right (by decide) (by decide)))
    · have hx : expoN b = ((b / 4503599627370496 % 2048 : Nat) : Int) - 1075 := by unfold expoN; rw [if_neg hd]
      rw [hx, if_neg (by omega)]
      exact Nat.div_eq_of_lt (Nat.lt_of_lt_of_le hm (Nat.pow_le_pow_right (by decide) (by omega)))
  rw [h1]; rfl

theorem mul_word {X : Nat} (h : X < 9218868437227405312) : min X 9218868437227405312 = X := Nat.min_eq_left (Nat.le_of_lt h)
set_option maxHeartbeats 800000 in
/-- Times 65536, of a number that is not one of the smallest. -/
theorem mul16 {b : Nat} (h1 : 4503599627370496 ≤ b) (h2 : b < 9007199254740992000) : Ieee.double.mul 4679240012837945344 b = some (b + 72057594037927936) := by
  have hm : mantN b = b % 4503599627370496 + 4503599627370496 := by unfold mantN; rw [if_neg (by omega)]
  have hx : expoN b = ((b / 4503599627370496 : Nat) : Int) - 1075 := by unfold expoN; rw [if_neg (by omega)]; omega
  unfold Format.mul
  rw [read_65536, read_fin (by unfold infBits; omega), hm, hx]
  simp only [Datum.product, Option.map_some, Option.some.injEq]
  show Ieee.double.nearest (false ^^ false) _ _ = _
  obtain ⟨M, hM⟩ : ∃ M, M = b % 4503599627370496 + 4503599627370496 := ⟨_, rfl⟩
  obtain ⟨D, hD⟩ : ∃ D, D = b / 4503599627370496 := ⟨_, rfl⟩
  rw [← hM, ← hD]
  have hlog : (4503599627370496 * M).log2 = 104 := log2_eq (by omega) (by omega)
  unfold Format.nearest
  rw [if_neg (by omega)]
  have hf : (Ieee.double.fractionBits : Int) = 52 := rfl
  simp only [dbl_binade, dbl_inf, dbl_least, hf, hlog]
  have hp : max ((-36 : Int) + ((D : Int) - 1075) + ((104 : Nat) : Int) - 52) (-1074) = (D : Int) - 1059 := by omega
  rw [hp, show ((-36 : Int) + ((D : Int) - 1075) - ((D : Int) - 1059)).toNat = 0 by omega, show (((D : Int) - 1059) - ((-36 : Int) + ((D : Int) - 1075))).toNat = 52 by omega, shl_eq, Nat.pow_zero, Nat.mul_one, show (((D : Int) - 1059) - -1074).toNat = D + 15 by omega]
  have hcut : Toward.even.cut (false ^^ false) (4503599627370496 * M) 52 = M := by
    have h52 : (2 : Nat) ^ 52 = 4503599627370496 := by decide
    have := cut_even (n := 4503599627370496 * M) (d := 52) (by rw [h52]; exact Nat.mul_mod_right _ _) (by rw [hlog]; decide)
    rw [h52, Nat.mul_div_cancel_left _ (by decide)] at this
    exact this
  rw [hcut, mul_word (by omega), show (D + 15) * 4503599627370496 + M = b + 72057594037927936 by omega]
  rfl
set_option maxHeartbeats 800000 in
/-- Of one of the smallest it is below 1. -/
theorem mul16_small {b : Nat} (h0 : 0 < b) (h2 : b < 4503599627370496) : ∃ g, Ieee.double.mul 4679240012837945344 b = some g ∧ g < 4607182418800017408 := by
  have hl := log2_lt52 h0 h2
  have hm : mantN b = b := by unfold mantN; rw [if_pos (by omega)]; omega
  have hx : expoN b = -1074 := by unfold expoN; rw [if_pos (by omega)]
  have e1 : 2 ^ b.log2 ≤ b := Nat.log2_self_le (by omega)
  have e2 : b < 2 ^ (b.log2 + 1) := Nat.lt_log2_self
  have h52 : (2 : Nat) ^ 52 = 4503599627370496 := by decide
  have hlog : (4503599627370496 * b).log2 = b.log2 + 52 := by
    rw [Nat.mul_comm]
    refine log2_eq ?_ ?_
    · rw [Nat.pow_add, h52]; exact Nat.mul_le_mul_right _ e1
    · rw [show b.log2 + 52 + 1 = b.log2 + 1 + 52 by omega, Nat.pow_add, h52]; exact Nat.mul_lt_mul_of_pos_right e2 (by decide)
  obtain ⟨L, hL⟩ : ∃ L, L = b.log2 := ⟨_, rfl⟩
  obtain ⟨d, hd⟩ : ∃ d, d = (max ((-1110 : Int) + ((L + 52 : Nat) : Int) - 52) (-1074) - -1110).toNat := ⟨_, rfl⟩
  have hd52 : d ≤ 52 := by rw [← hL] at hl; omega
  have hdl : L ≤ d := by omega
  obtain ⟨P, hP⟩ : ∃ P, P = (max ((-1110 : Int) + ((L + 52 : Nat) : Int) - 52) (-1074) - -1074).toNat := ⟨_, rfl⟩
  have hP16 : P ≤ 15 := by rw [← hL] at hl; omega
  have hsplit : 4503599627370496 * b = b * 2 ^ (52 - d) * 2 ^ d := by
    rw [Nat.mul_assoc, ← Nat.pow_add, show 52 - d + d = 52 by omega, h52, Nat.mul_comm]
  have hk : b * 2 ^ (52 - d) < 9007199254740992 := by
    calc b * 2 ^ (52 - d) < 2 ^ (L + 1) * 2 ^ (52 - d) := Nat.mul_lt_mul_of_pos_right (by rw [hL]; exact e2) (Nat.two_pow_pos _)
      _ = 2 ^ (L + 1 + (52 - d)) := (Nat.pow_add ..).symm
      _ ≤ 2 ^ 53 := Nat.pow_le_pow_right (by decide) (by omega)
  have hcut : Toward.even.cut (false ^^ false) (4503599627370496 * b) d = b * 2 ^ (52 - d) := by
    have := cut_even (n := 4503599627370496 * b) (d := d) (by rw [hsplit]; exact Nat.mul_mod_left _ _) (by rw [hlog]; omega)
    rw [hsplit, Nat.mul_div_cancel _ (Nat.two_pow_pos _), ← hsplit] at this
    exact this
  refine ⟨P * 4503599627370496 + b * 2 ^ (52 - d), ?_, by omega⟩
  unfold Format.mul
  rw [read_65536, read_fin (by unfold infBits; omega), hm, hx]
  simp only [Datum.product, Option.map_some, Option.some.injEq]
  show Ieee.double.nearest (false ^^ false) _ _ = _
  unfold Format.nearest
  rw [if_neg (by omega)]
  have hf : (Ieee.double.fractionBits : Int) = 52 := rfl
  simp only [dbl_binade, dbl_inf, dbl_least, hf, hlog, ← hL, show (-36 : Int) + -1074 = -1110 from rfl]
  rw [← hd, ← hP, show ((-1110 : Int) - max ((-1110 : Int) + ((L + 52 : Nat) : Int) - 52) (-1074)).toNat = 0 by omega, shl_eq, Nat.pow_zero, Nat.mul_one, hcut, mul_word (by omega)]
  rfl
/-- A rate that is not too great, in 65536ths. -/
theorem fixed_mul {b : Nat} (h0 : 0 < b) (h : b ≤ 4679240012837945344) : ∃ g, Ieee.double.mul 4679240012837945344 b = some g ∧ (Ieee.double.read g).toInt .zero = some ((fixedN b : Nat) : Int) ∧ fixedN b ≤ 4294967296 := by
  have hp : posN b = true := by
    unfold posN infBits
    rw [Bool.and_eq_true, decide_eq_true_eq, decide_eq_true_eq]
    omega
  by_cases he : b = 4679240012837945344
  · subst he
    exact ⟨4751297606875873280, by decide +kernel, by decide +kernel, by decide +kernel⟩
  · have hf : fixedN b = scaleF (mantN b) (expoN b + 16) := by
      unfold fixedN
      rw [hp, if_pos rfl, if_neg (by omega)]
    rcases Nat.lt_or_ge b 4503599627370496 with hs | hs
    · obtain ⟨g, hg, hlt⟩ := mul16_small h0 hs
      have hz : fixedN b = 0 := by
        rw [hf]
        have hm : mantN b = b := by unfold mantN; rw [if_pos (by omega)]; omega
        have hx : expoN b = -1074 := by unfold expoN; rw [if_pos (by omega)]
        rw [hm, hx]
        unfold scaleF
        rw [if_neg (by decide)]
        exact Nat.div_eq_of_lt (Nat.lt_of_lt_of_le (by omega : b < 2 ^ 52) (Nat.pow_le_pow_right (by decide) (by decide)))
      exact ⟨g, hg, by rw [toInt_small hlt, hz]; rfl, by rw [hz]; omega⟩
    · refine ⟨_, mul16 hs (by omega), ?_, ?_⟩
      · rw [toInt_fin (by unfold infBits; omega), hf]
        have q1 : (b + 72057594037927936) / 4503599627370496 = b / 4503599627370496 + 16 := by omega
        have q2 : (b + 72057594037927936) % 4503599627370496 = b % 4503599627370496 := by omega
        have em : mantN (b + 72057594037927936) = mantN b := by
          unfold mantN
          rw [q1, q2, if_neg (by omega), if_neg (by omega)]
        have ex : expoN (b + 72057594037927936) = expoN b + 16 := by
          unfold expoN
          rw [q1, if_neg (by omega), if_neg (by omega)]
          omega
        rw [em, ex]
      · rw [hf]
        have hm := mant_lt b
        have hx : expoN b = ((b / 4503599627370496 : Nat) : Int) - 1075 := by unfold expoN; rw [if_neg (by omega)]; omega
        unfold scaleF
        rw [hx, if_neg (by omega)]
        refine Nat.div_le_of_le_mul ?_
        have : (2 : Nat) ^ 21 ≤ 2 ^ (-(((b / 4503599627370496 : Nat) : Int) - 1075 + 16)).toNat := Nat.pow_le_pow_right (by decide) (by omega)
        obtain ⟨X, hX⟩ : ∃ X, X = 2 ^ (-(((b / 4503599627370496 : Nat) : Int) - 1075 + 16)).toNat := ⟨_, rfl⟩
        rw [← hX] at this ⊢
        omega

end Go.Proofs.Ytcliampjgbmeaaa
