/-
  Whole numbers as weights, and twice as much: their units are alike. No program is spoken of here.
-/
import Derived.Test.YtcliampjgbmeaaaWeighFloat
namespace Go.Proofs.Ytcliampjgbmeaaa
open Ieee

/-- The bits of a whole number. -/
def natBits (n : Nat) : Nat := if n = 0 then 0 else (n.log2 + 1022) * 4503599627370496 + n * 2 ^ (52 - n.log2)
theorem nat_mant {n : Nat} (h0 : n ≠ 0) (h : n < 4294967296) : n.log2 ≤ 31 ∧ 4503599627370496 ≤ n * 2 ^ (52 - n.log2) ∧ n * 2 ^ (52 - n.log2) < 9007199254740992 := by
  have h1 : 2 ^ n.log2 ≤ n := Nat.log2_self_le h0
  have h2 : n < 2 ^ (n.log2 + 1) := Nat.lt_log2_self
  have h3 : n.log2 ≤ 31 := by
    rcases Nat.lt_or_ge n.log2 32 with g | g
    · omega
    · have := Nat.pow_le_pow_right (n := 2) (by decide) g
      omega
  refine ⟨h3, ?_, ?_⟩
  · calc 4503599627370496 = 2 ^ (n.log2 + (52 - n.log2)) := by rw [show n.log2 + (52 - n.log2) = 52 by omega]
      _ = 2 ^ n.log2 * 2 ^ (52 - n.log2) := Nat.pow_add ..
      _ ≤ n * 2 ^ (52 - n.log2) := Nat.mul_le_mul_right _ h1
  · calc n * 2 ^ (52 - n.log2) < 2 ^ (n.log2 + 1) * 2 ^ (52 - n.log2) := Nat.mul_lt_mul_of_pos_right h2 (Nat.two_pow_pos _)
      _ = 2 ^ (n.log2 + 1 + (52 - n.log2)) := (Nat.pow_add ..).symm
      _ = 9007199254740992 := by rw [show n.log2 + 1 + (52 - n.log2) = 53 by omega]
theorem log2_eq {m k : Nat} (h1 : 2 ^ k ≤ m) (h2 : m < 2 ^ (k + 1)) : m.log2 = k := by
  have hm : m ≠ 0 := by have := Nat.two_pow_pos k; omega
  have a := Nat.log2_self_le hm
  have b := @Nat.lt_log2_self m
  rcases Nat.lt_trichotomy m.log2 k with g | g | g
  · have := Nat.pow_le_pow_right (n := 2) (by decide) (show m.log2 + 1 ≤ k from g)
    omega
  · exact g
  · have := Nat.pow_le_pow_right (n := 2) (by decide) (show k + 1 ≤ m.log2 from g)
    omega
theorem cut_even {n d : Nat} (h : n % 2 ^ d = 0) (hd : d ≤ n.log2 + 2) : Toward.even.cut false n d = n / 2 ^ d := by
  unfold Toward.cut
  rw [Nat.min_eq_left hd, shl_eq, Nat.one_mul]
  have hp := Nat.two_pow_pos d
  simp only [h, Nat.mul_zero]
  have e1 : decide (2 ^ d < 0) = false := decide_eq_false (by omega)
  have e2 : (2 ^ d == 0) = false := beq_eq_false_iff_ne.2 (by omega)
  rw [e1, e2]; rfl
theorem write_nat {n : Nat} (h : n < 4294967296) : Ieee.double.write (.number false n 0) = natBits n := by
  show Ieee.double.nearest false n 0 = _
  unfold Format.nearest natBits
  by_cases h0 : n = 0
  · rw [if_pos h0, if_pos h0]; rfl
  · obtain ⟨h1, h2, h3⟩ := nat_mant h0 h
    rw [if_neg h0, if_neg h0]
    have hf : (Ieee.double.fractionBits : Int) = 52 := rfl
    simp only [dbl_binade, dbl_inf, dbl_least, hf]
    have hl : max ((0 : Int) + (n.log2 : Nat) - 52) (-1074) = (n.log2 : Nat) - 52 := by omega
    rw [hl, show ((0 : Int) - ((n.log2 : Nat) - 52)).toNat = 52 - n.log2 by omega, show (((n.log2 : Nat) : Int) - 52 - 0).toNat = 0 by omega, shl_eq, cut_even (by simp [Nat.mod_one]) (by omega)]
    rw [show (((n.log2 : Nat) : Int) - 52 - -1074).toNat = n.log2 + 1022 by omega, Nat.pow_zero, Nat.div_one]
    have : min ((n.log2 + 1022) * 4503599627370496 + n * 2 ^ (52 - n.log2)) 9218868437227405312 = (n.log2 + 1022) * 4503599627370496 + n * 2 ^ (52 - n.log2) := by omega
    rw [this]; rfl
/-- Twice as much. -/
def twiceB (b : Nat) : Nat := if b = 0 then 0 else b + 4503599627370496
theorem nat_fin {n : Nat} (h : n < 4294967296) : natBits n < 9000000000000000000 := by
  unfold natBits
  by_cases h0 : n = 0
  · rw [if_pos h0]; decide
  · obtain ⟨h1, h2, h3⟩ := nat_mant h0 h
    rw [if_neg h0]; omega
theorem nat_parts {n : Nat} (h0 : n ≠ 0) (h : n < 4294967296) : mantN (natBits n) = n * 2 ^ (52 - n.log2) ∧ expoN (natBits n) = (n.log2 : Nat) - 52 := by
  obtain ⟨h1, h2, h3⟩ := nat_mant h0 h
  obtain ⟨m, hm⟩ : ∃ m, m = n * 2 ^ (52 - n.log2) := ⟨_, rfl⟩
  have hb : natBits n = (n.log2 + 1022) * 4503599627370496 + m := by unfold natBits; rw [if_neg h0, hm]
  rw [← hm] at h2 h3 ⊢
  have h4 : natBits n / 4503599627370496 % 2048 = n.log2 + 1023 := by rw [hb]; omega
  unfold mantN expoN
  rw [h4, if_neg (by omega), if_neg (by omega), hb]
  constructor <;> omega
theorem word_ok {L m : Nat} (h1 : L ≤ 31) (h3 : m < 9007199254740992) : min ((L + 1023) * 4503599627370496 + m) 9218868437227405312 = (L + 1023) * 4503599627370496 + m := by omega
theorem twice_word {L m : Nat} (h2 : 4503599627370496 ≤ m) : twiceB ((L + 1022) * 4503599627370496 + m) = (L + 1023) * 4503599627370496 + m := by
  unfold twiceB
  rw [if_neg (by omega)]
  omega
set_option maxHeartbeats 800000 in
theorem mul_two {n : Nat} (h : n < 4294967296) : Ieee.double.mul 4611686018427387904 (natBits n) = some (twiceB (natBits n)) := by
  have hr : Ieee.double.read 4611686018427387904 = .number false 4503599627370496 (-51) := by decide
  have hn := nat_fin h
  unfold Format.mul
  rw [hr, read_fin (by unfold infBits; omega)]
  simp only [Datum.product, Option.map_some, Option.some.injEq]
  show Ieee.double.nearest (false ^^ false) _ _ = _
  by_cases h0 : n = 0
  · subst h0; decide
  · obtain ⟨h1, h2, h3⟩ := nat_mant h0 h
    obtain ⟨p1, p2⟩ := nat_parts h0 h
    rw [p1, p2]
    obtain ⟨m, hm⟩ : ∃ m, m = n * 2 ^ (52 - n.log2) := ⟨_, rfl⟩
    have hb : natBits n = (n.log2 + 1022) * 4503599627370496 + m := by unfold natBits; rw [if_neg h0, hm]
    rw [← hm] at h2 h3 ⊢
    have hlog : (4503599627370496 * m).log2 = 104 := log2_eq (by omega) (by omega)
    unfold Format.nearest
    rw [if_neg (by omega)]
    have hf : (Ieee.double.fractionBits : Int) = 52 := rfl
    simp only [dbl_binade, dbl_inf, dbl_least, hf, hlog]
    have hl : max ((-51 : Int) + (((n.log2 : Nat) : Int) - 52) + ((104 : Nat) : Int) - 52) (-1074) = (n.log2 : Nat) - 51 := by omega
    rw [hl, show ((-51 : Int) + (((n.log2 : Nat) : Int) - 52) - (((n.log2 : Nat) : Int) - 51)).toNat = 0 by omega, show ((((n.log2 : Nat) : Int) - 51) - ((-51 : Int) + (((n.log2 : Nat) : Int) - 52))).toNat = 52 by omega, shl_eq, Nat.pow_zero, Nat.mul_one]
    have hcut : Toward.even.cut (false ^^ false) (4503599627370496 * m) 52 = m := by
      have h52 : (2 : Nat) ^ 52 = 4503599627370496 := by decide
      have := cut_even (n := 4503599627370496 * m) (d := 52) (by rw [h52]; exact Nat.mul_mod_right _ _) (by rw [hlog]; decide)
      rw [h52, Nat.mul_div_cancel_left _ (by decide)] at this
      exact this
    rw [hcut, show (((n.log2 : Nat) : Int) - 51 - -1074).toNat = n.log2 + 1023 by omega]
    rw [word_ok h1 h3, hb, twice_word h2]
    rfl
/-- Their units are alike. -/
theorem twice_parts {n : Nat} (h0 : n ≠ 0) (h : n < 4294967296) : mantN (twiceB (natBits n)) = mantN (natBits n) ∧ expoN (twiceB (natBits n)) = expoN (natBits n) + 1 := by
  obtain ⟨h1, h2, h3⟩ := nat_mant h0 h
  obtain ⟨m, hm⟩ : ∃ m, m = n * 2 ^ (52 - n.log2) := ⟨_, rfl⟩
  have hb : natBits n = (n.log2 + 1022) * 4503599627370496 + m := by unfold natBits; rw [if_neg h0, hm]
  rw [← hm] at h2 h3
  have ht : twiceB (natBits n) = (n.log2 + 1023) * 4503599627370496 + m := by unfold twiceB; rw [if_neg (by rw [hb]; omega), hb]; omega
  have h4 : natBits n / 4503599627370496 % 2048 = n.log2 + 1023 := by rw [hb]; omega
  have h5 : twiceB (natBits n) / 4503599627370496 % 2048 = n.log2 + 1024 := by rw [ht]; omega
  unfold mantN expoN
  rw [h4, h5, if_neg (by omega), if_neg (by omega), if_neg (by omega), if_neg (by omega), ht, hb]
  constructor <;> omega
theorem nat_zero (n : Nat) : natBits n = 0 ↔ n = 0 := by
  unfold natBits
  by_cases h : n = 0
  · rw [if_pos h]; exact ⟨fun _ => h, fun _ => rfl⟩
  · rw [if_neg h]
    exact ⟨fun e => by omega, fun e => absurd e h⟩
theorem nat_flags {n : Nat} (h : n < 4294967296) : posN (natBits n) = decide (n ≠ 0) ∧ infN (natBits n) = false ∧ posN (twiceB (natBits n)) = decide (n ≠ 0) ∧ infN (twiceB (natBits n)) = false := by
  have hn := nat_fin h
  have hz := nat_zero n
  have ht : twiceB (natBits n) < 9100000000000000000 := by unfold twiceB; split <;> omega
  have ht0 : twiceB (natBits n) = 0 ↔ n = 0 := by
    unfold twiceB
    by_cases h0 : natBits n = 0
    · rw [if_pos h0]; exact ⟨fun _ => hz.1 h0, fun _ => rfl⟩
    · rw [if_neg h0]; exact ⟨fun e => by omega, fun e => absurd (hz.2 e) h0⟩
  refine ⟨?_, ?_, ?_, ?_⟩
  · unfold posN infBits
    rw [Bool.eq_iff_iff]
    simp only [Bool.and_eq_true, decide_eq_true_eq]
    omega
  · unfold infN infBits
    rw [beq_eq_false_iff_ne]; omega
  · unfold posN infBits
    rw [Bool.eq_iff_iff]
    simp only [Bool.and_eq_true, decide_eq_true_eq]
    omega
  · unfold infN infBits
    rw [beq_eq_false_iff_ne]; omega
theorem most_twice : ∀ {l : List Nat}, (∀ n ∈ l, n < 4294967296) → mostN (l.map fun n => twiceB (natBits n)) = (mostN (l.map natBits)).map (· + 1)
  | [], _ => rfl
  | n :: l, h => by
    have ih := most_twice fun m hm => h m (List.mem_cons_of_mem _ hm)
    obtain ⟨f1, f2, f3, f4⟩ := nat_flags (h n (List.mem_cons_self ..))
    simp only [List.map_cons, mostN, f1, f2, f3, f4, ih]
    by_cases h0 : n = 0
    · subst h0; rfl
    · have hd : decide (n ≠ 0) = true := decide_eq_true h0
      obtain ⟨t1, t2⟩ := twice_parts h0 (h n (List.mem_cons_self ..))
      have htop : topN (twiceB (natBits n)) = topN (natBits n) + 1 := by unfold topN; rw [t1, t2]; omega
      rw [hd]
      simp only [Bool.not_false, Bool.and_self, if_true]
      cases mostN (l.map natBits) with
      | none => simp [htop]
      | some t => simp only [Option.map_some, htop, Option.some.injEq]; omega
theorem units_twice {l : List Nat} (h : ∀ n ∈ l, n < 4294967296) : unitsN (l.map fun n => twiceB (natBits n)) = unitsN (l.map natBits) := by
  unfold unitsN
  rw [List.map_map, List.map_map]
  refine List.map_congr_left fun n hn => ?_
  have hi : anyInf (l.map natBits) = false := by
    unfold anyInf
    rw [List.any_eq_false]
    intro b hb
    obtain ⟨m, hm, rfl⟩ := List.mem_map.1 hb
    rw [(nat_flags (h m hm)).2.1]; decide
  have hi2 : anyInf (l.map fun n => twiceB (natBits n)) = false := by
    unfold anyInf
    rw [List.any_eq_false]
    intro b hb
    obtain ⟨m, hm, rfl⟩ := List.mem_map.1 hb
    rw [(nat_flags (h m hm)).2.2.2]; decide
  obtain ⟨f1, f2, f3, f4⟩ := nat_flags (h n hn)
  show unitN _ _ (twiceB (natBits n)) = unitN _ _ (natBits n)
  unfold unitN
  rw [hi, hi2, f1, f3]
  simp only [Bool.false_eq_true, if_false]
  by_cases h0 : n = 0
  · subst h0; rfl
  · rw [decide_eq_true h0]
    simp only [if_true]
    rw [most_twice h]
    obtain ⟨t, ht, _⟩ := most_ge (List.mem_map_of_mem (f := natBits) hn) (by rw [f1]; exact decide_eq_true h0) f2
    rw [ht]
    obtain ⟨t1, t2⟩ := twice_parts h0 (h n hn)
    show scaledN _ _ = scaledN _ _
    unfold scaledN
    rw [t1, t2]
    simp only [Option.map_some, Option.getD_some]
    rw [show expoN (natBits n) + 1 + (31 - (t + 1)) = expoN (natBits n) + (31 - t) by omega]

end Go.Proofs.Ytcliampjgbmeaaa
