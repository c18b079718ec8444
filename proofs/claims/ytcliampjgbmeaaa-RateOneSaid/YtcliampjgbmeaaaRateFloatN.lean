/-
  Whole numbers over 65536 as numbers of 64 bits, and back. No program is spoken of here.
-/
import Derived.Test.YtcliampjgbmeaaaWeighScale
import Derived.Test.YtcliampjgbmeaaaRateSpec
namespace Go.Proofs.Ytcliampjgbmeaaa
open Ieee

theorem read_65536 : Ieee.double.read 4679240012837945344 = .number false 4503599627370496 (-36) := by decide
/-- What is written of a number is a number, or it is infinite. -/
theorem read_word (neg : Bool) {rung : Nat} (h : rung ≤ 9218868437227405312) : (∃ s m e, Ieee.double.read (Ieee.double.word neg rung) = .number s m e) ∨ ∃ s, Ieee.double.read (Ieee.double.word neg rung) = .infinity s := by
  have h1 : Ieee.double.word neg rung % 9223372036854775808 = rung := by
    unfold Format.word
    rw [dbl_sign]
    cases neg
    · simp; omega
    · simp; omega
  unfold Format.read
  simp only [dbl_binade, dbl_sign, dbl_inf, dbl_least, h1]
  by_cases h3 : rung < 4503599627370496
  · rw [if_pos h3]; exact .inl ⟨_, _, _, rfl⟩
  · rw [if_neg h3]
    by_cases h4 : rung < 9218868437227405312
    · rw [if_pos h4]; exact .inl ⟨_, _, _, rfl⟩
    · rw [if_neg h4, if_pos (by omega)]; exact .inr ⟨_, rfl⟩
theorem read_near (neg : Bool) (m : Nat) (p : Int) : (∃ s m' e, Ieee.double.read (Ieee.double.nearest neg m p) = .number s m' e) ∨ ∃ s, Ieee.double.read (Ieee.double.nearest neg m p) = .infinity s := by
  unfold Format.nearest
  by_cases h0 : m = 0
  · rw [if_pos h0]; exact read_word neg (by decide)
  · rw [if_neg h0]
    refine read_word neg ?_
    rw [dbl_inf]
    exact Nat.min_le_right _ _
/-- Any whole number over 65536. -/
theorem float_div (n : Int) : Ieee.double.div (floatOfInt .f64 n) 4679240012837945344 = some (floatN n) := by
  have h : ∃ y, Ieee.double.div (floatOfInt .f64 n) 4679240012837945344 = some y := by
    unfold Format.div
    rw [read_65536]
    rcases read_near (n < 0) n.natAbs 0 with ⟨s, m, e, h⟩ | ⟨s, h⟩
    · rw [show Ieee.double.read (floatOfInt .f64 n) = _ from h]
      exact ⟨_, rfl⟩
    · rw [show Ieee.double.read (floatOfInt .f64 n) = _ from h]
      exact ⟨_, rfl⟩
  obtain ⟨y, h⟩ := h
  have : floatN n = (Ieee.double.div (floatOfInt .f64 n) 4679240012837945344).getD 0 := rfl
  rw [this, h]; rfl
theorem word_ok2 {L m : Nat} (h1 : L ≤ 31) (h3 : m < 9007199254740992) : min ((L + 1006) * 4503599627370496 + m) 9218868437227405312 = (L + 1006) * 4503599627370496 + m := by omega
set_option maxHeartbeats 800000 in
theorem float_mid {n : Nat} (h0 : n ≠ 0) (h : n < 4294967296) : floatN (n : Int) = (n.log2 + 1006) * 4503599627370496 + n * 2 ^ (52 - n.log2) := by
  obtain ⟨h1, h2, h3⟩ := nat_mant h0 h
  have hd := float_div (n : Int)
  have hf : floatOfInt .f64 (n : Int) = natBits n := (show floatOfInt .f64 (n : Int) = Ieee.double.write (.number false n 0) from rfl).trans (write_nat h)
  rw [hf] at hd
  have hn := nat_fin h
  obtain ⟨p1, p2⟩ := nat_parts h0 h
  unfold Format.div at hd
  rw [read_65536, read_fin (by unfold infBits; omega), p1, p2] at hd
  obtain ⟨m, hm⟩ : ∃ m, m = n * 2 ^ (52 - n.log2) := ⟨_, rfl⟩
  rw [← hm] at h2 h3 hd ⊢
  have l1 : m.log2 = 52 := log2_eq (by omega) (by omega)
  have l2 : (4503599627370496 : Nat).log2 = 52 := log2_eq (by decide) (by decide)
  have hfb : Ieee.double.fractionBits = 52 := rfl
  simp only [Datum.quotient, if_neg (show ¬ (4503599627370496 : Nat) = 0 by decide), l1, l2, hfb, shl_eq, Option.map_some, Option.some.injEq] at hd
  have e54 : (2 : Nat) ^ (52 + 2 + 52 - 52) = 18014398509481984 := by decide
  rw [e54] at hd
  have e1 : m * 18014398509481984 / 4503599627370496 = 4 * m := by omega
  have e2 : m * 18014398509481984 % 4503599627370496 = 0 := by omega
  rw [e1, e2] at hd
  rw [← hd]
  show Ieee.double.nearest _ _ _ = _
  have e3 : 2 * (4 * m) + ((0 : Nat) != 0).toNat = 8 * m := by simp; omega
  rw [e3]
  have l3 : (8 * m).log2 = 55 := log2_eq (by omega) (by omega)
  unfold Format.nearest
  rw [if_neg (by omega)]
  have hfi : (Ieee.double.fractionBits : Int) = 52 := rfl
  simp only [dbl_binade, dbl_inf, dbl_least, hfi, l3]
  have hl : max ((((n.log2 : Nat) : Int) - 52 - -36 - ((52 + 2 + 52 - 52 : Nat) : Int) - 1) + ((55 : Nat) : Int) - 52) (-1074) = (n.log2 : Nat) - 68 := by omega
  rw [hl, show ((((n.log2 : Nat) : Int) - 52 - -36 - ((52 + 2 + 52 - 52 : Nat) : Int) - 1) - (((n.log2 : Nat) : Int) - 68)).toNat = 0 by omega, show ((((n.log2 : Nat) : Int) - 68) - (((n.log2 : Nat) : Int) - 52 - -36 - ((52 + 2 + 52 - 52 : Nat) : Int) - 1)).toNat = 3 by omega, shl_eq, Nat.pow_zero, Nat.mul_one]
  have hcut : Toward.even.cut (false ^^ false) (8 * m) 3 = m := by
    have := cut_even (n := 8 * m) (d := 3) (by omega) (by rw [l3]; decide)
    rw [show (2 : Nat) ^ 3 = 8 from rfl, Nat.mul_div_cancel_left _ (by decide)] at this
    exact this
  rw [hcut, show (((n.log2 : Nat) : Int) - 68 - -1074).toNat = n.log2 + 1006 by omega, word_ok2 h1 h3]
  rfl
/-- Back it is the rate. -/
theorem fixed_float {n : Nat} (h : n ≤ 4294967296) : fixedN (floatN (n : Int)) = n := by
  by_cases h4 : n = 4294967296
  · subst h4; decide +kernel
  · by_cases h0 : n = 0
    · subst h0; decide +kernel
    · have hlt : n < 4294967296 := by omega
      obtain ⟨h1, h2, h3⟩ := nat_mant h0 hlt
      have hm : n * 2 ^ (52 - n.log2) / 2 ^ (52 - n.log2) = n := Nat.mul_div_cancel _ (Nat.two_pow_pos _)
      rw [float_mid h0 hlt]
      obtain ⟨L, hL⟩ : ∃ L, L = n.log2 := ⟨_, rfl⟩
      rw [← hL] at h1 h2 h3 hm ⊢
      obtain ⟨m, hmm⟩ : ∃ m, m = n * 2 ^ (52 - L) := ⟨_, rfl⟩
      rw [← hmm] at h2 h3 hm ⊢
      obtain ⟨f, hf⟩ : ∃ f, f = (L + 1006) * 4503599627370496 + m := ⟨_, rfl⟩
      rw [← hf]
      have q1 : f / 4503599627370496 = L + 1007 := by omega
      have q2 : f % 4503599627370496 + 4503599627370496 = m := by omega
      have hp : posN f = true := by
        unfold posN infBits
        rw [Bool.and_eq_true, decide_eq_true_eq, decide_eq_true_eq]
        omega
      unfold fixedN
      rw [hp, if_pos rfl, if_neg (by omega)]
      unfold mantN expoN
      rw [q1, if_neg (by omega), if_neg (by omega), q2]
      unfold scaleF
      rw [if_neg (by omega), show (-(((((L + 1007) % 2048 : Nat) : Int) - 1075) + 16)).toNat = 52 - L by omega]
      exact hm

end Go.Proofs.Ytcliampjgbmeaaa
