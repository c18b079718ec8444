/-
  Numbers of 64 bits above 0: their order is their bits' order; a number as a part of 53 bits and a power of 2. No program is spoken of here.
-/
import Derived.Test.YtcliampjgbmeaaaWeighScale
namespace Go.Proofs.Ytcliampjgbmeaaa
open Ieee

/-- The greater bits are the greater number. -/
theorem value_lt {b b' : Nat} (h : b < b') (hi : b' < infBits) {base : Int} (h1 : base ≤ expoN b) (h2 : base ≤ expoN b') : mantN b * 2 ^ (expoN b - base).toNat < mantN b' * 2 ^ (expoN b' - base).toNat := by
  obtain ⟨E, hE⟩ : ∃ E, E = b / 4503599627370496 := ⟨_, rfl⟩
  obtain ⟨E', hE'⟩ : ∃ E, E = b' / 4503599627370496 := ⟨_, rfl⟩
  have hle : E ≤ E' := by omega
  have hE'l : E' < 2047 := by unfold infBits at hi; omega
  have hm : E % 2048 = E := by omega
  have hm' : E' % 2048 = E' := by omega
  by_cases he : E = E'
  · have hx : expoN b = expoN b' := by unfold expoN; rw [← hE, ← hE', he]
    rw [hx]
    refine Nat.mul_lt_mul_of_pos_right ?_ (Nat.two_pow_pos _)
    unfold mantN
    rw [← hE, ← hE', he]
    split <;> omega
  · have hlt : E < E' := by omega
    have hx' : expoN b' = (E' : Int) - 1075 := by unfold expoN; rw [← hE', hm', if_neg (by omega)]
    have hmm' : 4503599627370496 ≤ mantN b' := by unfold mantN; rw [← hE', hm', if_neg (by omega)]; omega
    by_cases h0 : E = 0
    · have hx : expoN b = -1074 := by unfold expoN; rw [← hE, hm, if_pos h0]
      have hmm : mantN b < 4503599627370496 := by unfold mantN; rw [← hE, hm, if_pos h0]; omega
      have h3 : 2 ^ (expoN b - base).toNat ≤ 2 ^ (expoN b' - base).toNat := Nat.pow_le_pow_right (by decide) (by omega)
      calc mantN b * 2 ^ (expoN b - base).toNat < 4503599627370496 * 2 ^ (expoN b - base).toNat := Nat.mul_lt_mul_of_pos_right hmm (Nat.two_pow_pos _)
        _ ≤ mantN b' * 2 ^ (expoN b' - base).toNat := Nat.mul_le_mul hmm' h3
    · have hx : expoN b = (E : Int) - 1075 := by unfold expoN; rw [← hE, hm, if_neg h0]
      have hb := mant_lt b
      have h3 : 2 ^ ((expoN b - base).toNat + 1) ≤ 2 ^ (expoN b' - base).toNat := Nat.pow_le_pow_right (by decide) (by omega)
      calc mantN b * 2 ^ (expoN b - base).toNat < 2 ^ 53 * 2 ^ (expoN b - base).toNat := Nat.mul_lt_mul_of_pos_right hb (Nat.two_pow_pos _)
        _ = 4503599627370496 * 2 ^ ((expoN b - base).toNat + 1) := by rw [Nat.pow_succ]; omega
        _ ≤ mantN b' * 2 ^ (expoN b' - base).toNat := Nat.mul_le_mul hmm' h3
theorem ord_fin {b b' : Nat} (h : b < infBits) (h' : b' < infBits) : Ieee.double.order b b' = some (compare b b') := by
  unfold Format.order
  rw [read_fin h, read_fin h']
  simp only [Datum.order, signed, shl_eq, Bool.false_eq_true, if_false, Option.some.injEq]
  rcases Nat.lt_trichotomy b b' with g | g | g
  · have := value_lt g h' (base := min (expoN b) (expoN b')) (by omega) (by omega)
    rw [Nat.compare_eq_lt.2 g, Int.compare_eq_lt]; omega
  · subst g
    rw [Nat.compare_eq_eq.2 rfl, Int.compare_eq_eq]
  · have := value_lt g h (base := min (expoN b) (expoN b')) (by omega) (by omega)
    rw [Nat.compare_eq_gt.2 g, Int.compare_eq_gt]; omega
/-- Of numbers that are not below 0 the order is that of their bits. -/
theorem ord_nat {b b' : Nat} (h : b ≤ infBits) (h' : b' ≤ infBits) : Ieee.double.order b b' = some (compare b b') := by
  rcases Nat.lt_or_eq_of_le h with g | g
  · rcases Nat.lt_or_eq_of_le h' with g' | g'
    · exact ord_fin g g'
    · unfold Format.order
      rw [read_fin g, g', read_inf]
      simp only [Datum.order, Bool.false_eq_true, if_false, Option.some.injEq]
      exact (Nat.compare_eq_lt.2 g).symm
  · rcases Nat.lt_or_eq_of_le h' with g' | g'
    · unfold Format.order
      rw [read_fin g', g, read_inf]
      simp only [Datum.order, Bool.false_eq_true, if_false, Option.some.injEq]
      exact (Nat.compare_eq_gt.2 g').symm
    · rw [g, g']; decide
/-- What is not above 0 is no number, or no more than 0. -/
theorem ord_none {b : Nat} (hb : b < 18446744073709551616) (hp : posN b = false) : ((Ieee.double.order b b != some .eq) || (Ieee.double.order b 0 == some .lt || Ieee.double.order b 0 == some .eq)) = true := by
  rcases Nat.eq_zero_or_pos b with h0 | h0
  · subst h0; decide
  · have hi : infBits < b := by
      rcases Nat.lt_or_ge infBits b with h | h
      · exact h
      · exfalso
        have : posN b = true := by unfold posN; simp; omega
        rw [this] at hp; cases hp
    unfold Format.order
    rcases read_else hi with ⟨s, t, e⟩ | e
    · rw [e]; rfl
    · rcases e hb with ⟨m, x, e⟩ | e
      · rw [e, read_zero]
        have hc : compare (signed true m (x - min x (-1074)).toNat) (signed false 0 (-1074 - min x (-1074)).toNat) ≠ .gt := by
          simp only [signed, shl_eq, if_true, Bool.false_eq_true, if_false, Nat.zero_mul]
          rw [Ne, Int.compare_eq_gt]; omega
        have ho : Datum.order (.number true m x) (.number false 0 (-1074)) = some (compare (signed true m (x - min x (-1074)).toNat) (signed false 0 (-1074 - min x (-1074)).toNat)) := rfl
        rw [ho]
        cases h9 : compare (signed true m (x - min x (-1074)).toNat) (signed false 0 (-1074 - min x (-1074)).toNat) with
        | gt => exact absurd h9 hc
        | lt => simp
        | eq => simp
      · rw [e, read_zero]; decide

/-! ### A part of 53 bits and a power of 2 -/
/-- The bits of the number that is so many powers of 2 as make it no smallest one. -/
def normB (b : Nat) : Nat := if b < 4503599627370496 then b.log2 * 4503599627370496 + b * 2 ^ (52 - b.log2) else b
def normE (b : Nat) : Int := if b < 4503599627370496 then -52 else 0
/-- The part of 53 bits. -/
def partN (b : Nat) : Nat := mantN b * 2 ^ (52 - (mantN b).log2)
theorem part_bounds {b : Nat} (h0 : 0 < b) (hi : b < infBits) : 4503599627370496 ≤ partN b ∧ partN b < 9007199254740992 := by
  have hm := mant_pos h0 hi
  have hl := mant_lt b
  have h1 : 2 ^ (mantN b).log2 ≤ mantN b := Nat.log2_self_le (by omega)
  have h2 : mantN b < 2 ^ ((mantN b).log2 + 1) := Nat.lt_log2_self
  have h3 : (mantN b).log2 ≤ 52 := by
    rcases Nat.lt_or_ge (mantN b).log2 53 with g | g
    · omega
    · have := Nat.pow_le_pow_right (n := 2) (by decide) g
      omega
  unfold partN
  constructor
  · calc 4503599627370496 = 2 ^ ((mantN b).log2 + (52 - (mantN b).log2)) := by rw [show (mantN b).log2 + (52 - (mantN b).log2) = 52 by omega]
      _ = 2 ^ (mantN b).log2 * 2 ^ (52 - (mantN b).log2) := Nat.pow_add ..
      _ ≤ mantN b * 2 ^ (52 - (mantN b).log2) := Nat.mul_le_mul_right _ h1
  · calc mantN b * 2 ^ (52 - (mantN b).log2) < 2 ^ ((mantN b).log2 + 1) * 2 ^ (52 - (mantN b).log2) := Nat.mul_lt_mul_of_pos_right h2 (Nat.two_pow_pos _)
      _ = 2 ^ ((mantN b).log2 + 1 + (52 - (mantN b).log2)) := (Nat.pow_add ..).symm
      _ = 9007199254740992 := by rw [show (mantN b).log2 + 1 + (52 - (mantN b).log2) = 53 by omega]
theorem log2_53 {m : Nat} (h1 : 4503599627370496 ≤ m) (h2 : m < 9007199254740992) : m.log2 = 52 := log2_eq (by omega) (by omega)
theorem log2_lt52 {m : Nat} (h0 : 0 < m) (h2 : m < 4503599627370496) : m.log2 ≤ 51 := by
  rcases Nat.lt_or_ge m.log2 52 with g | g
  · omega
  · have h1 : 2 ^ m.log2 ≤ m := Nat.log2_self_le (by omega)
    have := Nat.pow_le_pow_right (n := 2) (by decide) g
    omega
/-- What the number's bits are behind that. -/
theorem norm_parts {b : Nat} (h0 : 0 < b) (hi : b < infBits) : normB b % 4503599627370496 = partN b - 4503599627370496 ∧ normE b + ((normB b / 4503599627370496 : Nat) : Int) - 1022 = topN b + 1 ∧ 1 ≤ normB b / 4503599627370496 ∧ normB b / 4503599627370496 < 2047 := by
  obtain ⟨p1, p2⟩ := part_bounds h0 hi
  unfold infBits at hi
  by_cases hs : b < 4503599627370496
  · have hm : mantN b = b := by unfold mantN; rw [if_pos (by omega)]; omega
    have hx : expoN b = -1074 := by unfold expoN; rw [if_pos (by omega)]
    have hl := log2_lt52 h0 hs
    unfold topN
    rw [hx, hm]
    unfold normB normE
    rw [if_pos hs, if_pos hs]
    unfold partN at p1 p2 ⊢
    rw [hm] at p1 p2 ⊢
    obtain ⟨M, hM⟩ : ∃ M, M = b * 2 ^ (52 - b.log2) := ⟨_, rfl⟩
    rw [← hM] at p1 p2 ⊢
    refine ⟨?_, ?_, ?_, ?_⟩ <;> omega
  · have hm : mantN b = b % 4503599627370496 + 4503599627370496 := by unfold mantN; rw [if_neg (by omega)]
    have hx : expoN b = ((b / 4503599627370496 % 2048 : Nat) : Int) - 1075 := by unfold expoN; rw [if_neg (by omega)]
    have hl : (mantN b).log2 = 52 := log2_53 (by omega) (by omega)
    unfold topN
    rw [hx, hl]
    unfold normB normE partN
    rw [if_neg hs, if_neg hs, hl, hm]
    refine ⟨?_, ?_, ?_, ?_⟩ <;> omega
/-- A smallest number times 2^52. -/
theorem norm_word {L m : Nat} (h1 : L ≤ 51) (h3 : m < 9007199254740992) : min (L * 4503599627370496 + m) 9218868437227405312 = L * 4503599627370496 + m := by omega
set_option maxHeartbeats 800000 in
theorem norm_mul {b : Nat} (h0 : 0 < b) (hs : b < 4503599627370496) : Ieee.double.mul b 4841369599423283200 = some (b.log2 * 4503599627370496 + b * 2 ^ (52 - b.log2)) := by
  have hr : Ieee.double.read 4841369599423283200 = .number false 4503599627370496 0 := by decide
  have hl := log2_lt52 h0 hs
  have hm : mantN b = b := by unfold mantN; rw [if_pos (by omega)]; omega
  have hx : expoN b = -1074 := by unfold expoN; rw [if_pos (by omega)]
  obtain ⟨p1, p2⟩ := part_bounds h0 (by unfold infBits; omega)
  unfold partN at p1 p2
  rw [hm] at p1 p2
  unfold Format.mul
  rw [hr, read_fin (by unfold infBits; omega), hm, hx]
  simp only [Datum.product, Option.map_some, Option.some.injEq]
  show Ieee.double.nearest (false ^^ false) _ _ = _
  have hlog : (b * 4503599627370496).log2 = b.log2 + 52 := by
    have e1 : 2 ^ b.log2 ≤ b := Nat.log2_self_le (by omega)
    have e2 : b < 2 ^ (b.log2 + 1) := Nat.lt_log2_self
    have h52 : (2 : Nat) ^ 52 = 4503599627370496 := by decide
    refine log2_eq ?_ ?_
    · rw [Nat.pow_add, h52]; exact Nat.mul_le_mul_right _ e1
    · rw [show b.log2 + 52 + 1 = b.log2 + 1 + 52 by omega, Nat.pow_add, h52]; exact Nat.mul_lt_mul_of_pos_right e2 (by decide)
  unfold Format.nearest
  rw [if_neg (by omega)]
  have hf : (Ieee.double.fractionBits : Int) = 52 := rfl
  simp only [dbl_binade, dbl_inf, dbl_least, hf, hlog]
  obtain ⟨L, hL⟩ : ∃ L, L = b.log2 := ⟨_, rfl⟩
  rw [← hL] at hl hlog p1 p2 ⊢
  have hp : max ((-1074 : Int) + 0 + ((L + 52 : Nat) : Int) - 52) (-1074) = (L : Int) - 1074 := by omega
  rw [hp, show ((-1074 : Int) + 0 - ((L : Int) - 1074)).toNat = 0 by omega, show (((L : Int) - 1074) - ((-1074 : Int) + 0)).toNat = L by omega, shl_eq, Nat.pow_zero, Nat.mul_one, show (((L : Int) - 1074) - -1074).toNat = L by omega]
  have hsplit : b * 4503599627370496 = b * 2 ^ (52 - L) * 2 ^ L := by
    rw [Nat.mul_assoc, ← Nat.pow_add, show 52 - L + L = 52 by omega]
  have hcut : Toward.even.cut (false ^^ false) (b * 4503599627370496) L = b * 2 ^ (52 - L) := by
    have := cut_even (n := b * 4503599627370496) (d := L) (by rw [hsplit]; exact Nat.mul_mod_left _ _) (by rw [hlog]; omega)
    rw [hsplit, Nat.mul_div_cancel _ (Nat.two_pow_pos _), ← hsplit] at this
    exact this
  rw [hcut, norm_word hl p2]; rfl
/-- A whole number of 53 bits, times 1, and as an integer. -/
theorem one_mul53 {t : Nat} (ht : t < 4503599627370496) : Ieee.double.mul 4607182418800017408 (4841369599423283200 + t) = some (4841369599423283200 + t) := by
  have hr : Ieee.double.read 4607182418800017408 = .number false 4503599627370496 (-52) := by decide
  have hb : 4841369599423283200 + t < infBits := by unfold infBits; omega
  have hm : mantN (4841369599423283200 + t) = 4503599627370496 + t := by unfold mantN; rw [if_neg (by omega)]; omega
  have hx : expoN (4841369599423283200 + t) = 0 := by unfold expoN; rw [if_neg (by omega)]; omega
  unfold Format.mul
  rw [hr, read_fin hb, hm, hx]
  simp only [Datum.product, Option.map_some, Option.some.injEq]
  show Ieee.double.nearest (false ^^ false) _ _ = _
  obtain ⟨M, hM⟩ : ∃ M, M = 4503599627370496 + t := ⟨_, rfl⟩
  rw [← hM]
  have hlog : (4503599627370496 * M).log2 = 104 := log2_eq (by omega) (by omega)
  unfold Format.nearest
  rw [if_neg (by omega)]
  have hf : (Ieee.double.fractionBits : Int) = 52 := rfl
  simp only [dbl_binade, dbl_inf, dbl_least, hf, hlog]
  have hp : max ((-52 : Int) + 0 + ((104 : Nat) : Int) - 52) (-1074) = 0 := by omega
  rw [hp, show ((-52 : Int) + 0 - 0).toNat = 0 by omega, show ((0 : Int) - ((-52 : Int) + 0)).toNat = 52 by omega, shl_eq, Nat.pow_zero, Nat.mul_one, show ((0 : Int) - -1074).toNat = 1074 by omega]
  have hcut : Toward.even.cut (false ^^ false) (4503599627370496 * M) 52 = M := by
    have h52 : (2 : Nat) ^ 52 = 4503599627370496 := by decide
    have := cut_even (n := 4503599627370496 * M) (d := 52) (by rw [h52]; exact Nat.mul_mod_right _ _) (by rw [hlog]; decide)
    rw [h52, Nat.mul_div_cancel_left _ (by decide)] at this
    exact this
  rw [hcut, show min (1074 * 4503599627370496 + M) 9218868437227405312 = 1074 * 4503599627370496 + M by omega, show 1074 * 4503599627370496 + M = 4841369599423283200 + t by omega]
  rfl
theorem int53 {t : Nat} (ht : t < 4503599627370496) : (Ieee.double.read (4841369599423283200 + t)).toInt .zero = some (((4503599627370496 + t : Nat) : Nat) : Int) := by
  have hb : 4841369599423283200 + t < infBits := by unfold infBits; omega
  have hm : mantN (4841369599423283200 + t) = 4503599627370496 + t := by unfold mantN; rw [if_neg (by omega)]; omega
  have hx : expoN (4841369599423283200 + t) = 0 := by unfold expoN; rw [if_neg (by omega)]; omega
  rw [read_fin hb, hm, hx]
  simp [Datum.toInt, Datum.integral, signed, Toward.cut]
/-- A number's unit, of its part of 53 bits. -/
theorem part_scaled {b : Nat} (h0 : 0 < b) (hi : b < infBits) {k : Nat} {T : Int} (hk : (k : Int) = 21 + T - topN b) : partN b / 2 ^ k = scaledN b (31 - T) := by
  have hm := mant_pos h0 hi
  have h3 : (mantN b).log2 ≤ 52 := by
    have hl := mant_lt b
    have h1 : 2 ^ (mantN b).log2 ≤ mantN b := Nat.log2_self_le (by omega)
    rcases Nat.lt_or_ge (mantN b).log2 53 with g | g
    · omega
    · have := Nat.pow_le_pow_right (n := 2) (by decide) g
      omega
  unfold topN at hk
  unfold partN scaledN scaleF
  by_cases h : 0 ≤ expoN b + (31 - T)
  · rw [if_pos h]
    have e : 52 - (mantN b).log2 = (expoN b + (31 - T)).toNat + k := by omega
    rw [e, Nat.pow_add, ← Nat.mul_assoc, Nat.mul_div_cancel _ (Nat.two_pow_pos _)]
  · rw [if_neg h]
    have e : k = (52 - (mantN b).log2) + (-(expoN b + (31 - T))).toNat := by omega
    rw [e, Nat.pow_add, ← Nat.div_div_eq_div_mul, Nat.mul_div_cancel _ (Nat.two_pow_pos _)]
theorem div_far {M : Nat} (h : M < 18446744073709551616) (k : Nat) : M / 2 ^ (min k 64) = M / 2 ^ k := by
  rcases Nat.le_total k 64 with g | g
  · rw [Nat.min_eq_left g]
  · rw [Nat.min_eq_right g]
    have h1 : (2 : Nat) ^ 64 ≤ 2 ^ k := Nat.pow_le_pow_right (by decide) g
    have h2 : (2 : Nat) ^ 64 = 18446744073709551616 := by decide
    rw [Nat.div_eq_of_lt (by omega), Nat.div_eq_of_lt (by omega)]

/-! ### The greatest one -/
def grN (l : List Nat) : Nat := l.foldl (fun g b => if posN b then max g b else g) 0
theorem grN_snoc (l : List Nat) (b : Nat) : grN (l ++ [b]) = if posN b then max (grN l) b else grN l := by
  unfold grN
  rw [List.foldl_append]; rfl
theorem grN_spec : ∀ l : List Nat, grN l ≤ infBits ∧ (∀ b ∈ l, posN b = true → b ≤ grN l) ∧ (grN l = 0 ∨ (grN l ∈ l ∧ posN (grN l) = true)) := by
  intro l
  obtain ⟨n, hn⟩ : ∃ n, n = l.length := ⟨_, rfl⟩
  induction n generalizing l with
  | zero =>
    have : l = [] := List.eq_nil_of_length_eq_zero hn.symm
    subst this
    exact ⟨Nat.zero_le _, fun b hb => (by cases hb), .inl rfl⟩
  | succ n ih =>
    obtain ⟨m, x, rfl⟩ : ∃ m x, l = m ++ [x] := ⟨l.dropLast, l.getLast (by intro e; subst e; cases hn), (List.dropLast_concat_getLast _).symm⟩
    obtain ⟨i1, i2, i3⟩ := ih m (by rw [List.length_append] at hn; simp at hn; omega)
    rw [grN_snoc]
    by_cases hp : posN x = true
    · rw [if_pos hp]
      have hx : 0 < x ∧ x ≤ infBits := by simpa [posN] using hp
      refine ⟨by omega, fun b hb hpb => ?_, ?_⟩
      · rcases List.mem_append.1 hb with h | h
        · have := i2 b h hpb; omega
        · rw [List.mem_singleton] at h; subst h; omega
      · right
        rcases Nat.le_total (grN m) x with g | g
        · rw [Nat.max_eq_right g]; exact ⟨by simp, hp⟩
        · rw [Nat.max_eq_left g]
          rcases i3 with e | ⟨e1, e2⟩
          · omega
          · exact ⟨List.mem_append_left _ e1, e2⟩
    · rw [if_neg hp]
      refine ⟨i1, fun b hb hpb => ?_, ?_⟩
      · rcases List.mem_append.1 hb with h | h
        · exact i2 b h hpb
        · rw [List.mem_singleton] at h; subst h; exact absurd hpb hp
      · rcases i3 with e | ⟨e1, e2⟩
        · exact .inl e
        · exact .inr ⟨List.mem_append_left _ e1, e2⟩
theorem top_mono {b b' : Nat} (h0 : 0 < b) (h : b ≤ b') (hi : b' < infBits) : topN b ≤ topN b' := by
  rcases Int.lt_or_le (topN b') (topN b) with g | g
  · exfalso
    have hm := mant_pos h0 (Nat.lt_of_le_of_lt h hi)
    have h1 : 2 ^ 31 ≤ scaledN b (31 - topN b) := scaleF_ge (by omega) (by unfold topN; omega)
    have h2 := scaled_mono h hi (31 - topN b)
    have h3 : scaledN b' (32 - topN b) < 2 ^ 32 := scaleF_lt (by unfold topN at g ⊢; omega)
    have h4 : 2 ^ 31 ≤ scaledN b' (31 - topN b) := by omega
    -- one place more is twice as much
    have h5 : 2 ^ 32 ≤ scaledN b (32 - topN b) := by
      have e : (Nat.log2 (mantN b) : Int) + (expoN b + (32 - topN b)) = 32 := by unfold topN; omega
      unfold scaledN scaleF
      have hm2 : 2 ^ Nat.log2 (mantN b) ≤ mantN b := Nat.log2_self_le (by omega)
      by_cases hz : 0 ≤ expoN b + (32 - topN b)
      · rw [if_pos hz]
        calc 2 ^ 32 = 2 ^ (Nat.log2 (mantN b) + (expoN b + (32 - topN b)).toNat) := by congr 1; omega
          _ = 2 ^ Nat.log2 (mantN b) * 2 ^ (expoN b + (32 - topN b)).toNat := Nat.pow_add ..
          _ ≤ mantN b * 2 ^ (expoN b + (32 - topN b)).toNat := Nat.mul_le_mul_right _ hm2
      · rw [if_neg hz, Nat.le_div_iff_mul_le (Nat.two_pow_pos _), ← Nat.pow_add]
        exact Nat.le_trans (Nat.pow_le_pow_right (by decide) (by omega)) hm2
    have h6 := scaled_mono h hi (32 - topN b)
    omega
  · exact g
/-- What the greatest one tells. -/
theorem grN_inf (l : List Nat) : anyInf l = (grN l == infBits) := by
  obtain ⟨i1, i2, i3⟩ := grN_spec l
  rw [Bool.eq_iff_iff, beq_iff_eq]
  unfold anyInf
  rw [List.any_eq_true]
  constructor
  · rintro ⟨b, hb, hi⟩
    have e : b = infBits := by simpa [infN] using hi
    subst e
    have := i2 _ hb (by decide)
    omega
  · intro e
    rcases i3 with h | ⟨h, _⟩
    · rw [e] at h; exact absurd h (by decide)
    · exact ⟨grN l, h, by simp [infN, e]⟩
theorem grN_most {l : List Nat} (hi : grN l < infBits) (hp : 0 < grN l) : (mostN l).getD 0 = topN (grN l) := by
  obtain ⟨i1, i2, i3⟩ := grN_spec l
  rcases i3 with h | ⟨h, hpp⟩
  · omega
  · have hni : infN (grN l) = false := by unfold infN; rw [beq_eq_false_iff_ne]; omega
    obtain ⟨t, ht, hle⟩ := most_ge h hpp hni
    rw [ht, Option.getD_some]
    obtain ⟨b, hb, hb1, hb2, hb3⟩ := most_at ht
    have := i2 b hb hb1
    have hb0 : 0 < b ∧ b ≤ infBits := by simpa [posN] using hb1
    have := top_mono hb0.1 this hi
    omega

end Go.Proofs.Ytcliampjgbmeaaa
