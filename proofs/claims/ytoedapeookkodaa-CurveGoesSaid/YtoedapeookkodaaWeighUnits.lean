/-
  Plain arithmetic of weights: a number by its bits, its greatest power of 2, its unit. No program is spoken of here.
-/
import Derived.WalkKit
namespace Go.Proofs.Ytoedapeookkodaa

def infBits : Nat := 9218868437227405312
def infN (b : Nat) : Bool := b == infBits
def posN (b : Nat) : Bool := decide (0 < b) && decide (b ≤ infBits)
def mantN (b : Nat) : Nat := if b / 4503599627370496 % 2048 = 0 then b % 4503599627370496 else b % 4503599627370496 + 4503599627370496
def expoN (b : Nat) : Int := if b / 4503599627370496 % 2048 = 0 then -1074 else ((b / 4503599627370496 % 2048 : Nat) : Int) - 1075
def topN (b : Nat) : Int := expoN b + (Nat.log2 (mantN b) : Nat)
/-- m times 2^e, without its fraction. -/
def scaleF (m : Nat) (e : Int) : Nat := if 0 ≤ e then m * 2 ^ e.toNat else m / 2 ^ (-e).toNat
def scaledN (b : Nat) (n : Int) : Nat := scaleF (mantN b) (expoN b + n)
theorem scaleF_mono {m m' : Nat} {e e' : Int} (he : e ≤ e') (h : m ≤ m' * 2 ^ (e' - e).toNat) : scaleF m e ≤ scaleF m' e' := by
  unfold scaleF
  by_cases h0 : 0 ≤ e
  · rw [if_pos h0, if_pos (by omega)]
    have e1 : e'.toNat = (e' - e).toNat + e.toNat := by omega
    rw [e1, Nat.pow_add, ← Nat.mul_assoc]
    exact Nat.mul_le_mul_right _ h
  · rw [if_neg h0]
    by_cases h1 : 0 ≤ e'
    · rw [if_pos h1]
      have e1 : (e' - e).toNat = e'.toNat + (-e).toNat := by omega
      rw [e1, Nat.pow_add, ← Nat.mul_assoc] at h
      exact Nat.div_le_of_le_mul (by rw [Nat.mul_comm]; exact h)
    · rw [if_neg h1]
      have e1 : (-e).toNat = (-e').toNat + (e' - e).toNat := by omega
      rw [e1, Nat.pow_add, Nat.mul_comm (2 ^ (-e').toNat), ← Nat.div_div_eq_div_mul]
      refine Nat.div_le_div_right (Nat.div_le_of_le_mul ?_)
      rw [Nat.mul_comm]; exact h
theorem scaleF_lt {m : Nat} {e : Int} (h : (Nat.log2 m : Nat) + e ≤ 31) : scaleF m e < 2 ^ 32 := by
  have hm : m < 2 ^ (Nat.log2 m + 1) := Nat.lt_log2_self
  unfold scaleF
  by_cases h0 : 0 ≤ e
  · rw [if_pos h0]
    calc m * 2 ^ e.toNat < 2 ^ (Nat.log2 m + 1) * 2 ^ e.toNat := Nat.mul_lt_mul_of_pos_right hm (Nat.two_pow_pos _)
      _ = 2 ^ (Nat.log2 m + 1 + e.toNat) := (Nat.pow_add ..).symm
      _ ≤ 2 ^ 32 := Nat.pow_le_pow_right (by decide) (by omega)
  · rw [if_neg h0]
    refine Nat.div_lt_of_lt_mul ?_
    rw [← Nat.pow_add]
    exact Nat.lt_of_lt_of_le hm (Nat.pow_le_pow_right (by decide) (by omega))
theorem scaleF_ge {m : Nat} {e : Int} (hm0 : m ≠ 0) (h : (Nat.log2 m : Nat) + e = 31) : 2 ^ 31 ≤ scaleF m e := by
  have hm : 2 ^ Nat.log2 m ≤ m := Nat.log2_self_le hm0
  unfold scaleF
  by_cases h0 : 0 ≤ e
  · rw [if_pos h0]
    calc 2 ^ 31 = 2 ^ (Nat.log2 m + e.toNat) := by congr 1; omega
      _ = 2 ^ Nat.log2 m * 2 ^ e.toNat := Nat.pow_add ..
      _ ≤ m * 2 ^ e.toNat := Nat.mul_le_mul_right _ hm
  · rw [if_neg h0, Nat.le_div_iff_mul_le (Nat.two_pow_pos _), ← Nat.pow_add]
    exact Nat.le_trans (Nat.pow_le_pow_right (by decide) (by omega)) hm
theorem mant_pos {b : Nat} (h : 0 < b) (hi : b < infBits) : 0 < mantN b := by
  unfold mantN infBits at *
  split <;> omega
theorem mant_lt (b : Nat) : mantN b < 2 ^ 53 := by
  unfold mantN
  split <;> omega
/-- Greater numbers have greater units. -/
theorem scaled_mono {b b' : Nat} (h : b ≤ b') (hi : b' < infBits) (n : Int) : scaledN b n ≤ scaledN b' n := by
  unfold scaledN
  obtain ⟨E, hE⟩ : ∃ E, E = b / 4503599627370496 := ⟨_, rfl⟩
  obtain ⟨E', hE'⟩ : ∃ E, E = b' / 4503599627370496 := ⟨_, rfl⟩
  have hle : E ≤ E' := by omega
  have hE'l : E' < 2047 := by unfold infBits at hi; omega
  have hm : E % 2048 = E := by omega
  have hm' : E' % 2048 = E' := by omega
  by_cases he : E = E'
  · refine scaleF_mono (by unfold expoN; rw [← hE, ← hE', he]; exact Int.le_refl _) ?_
    have : expoN b = expoN b' := by unfold expoN; rw [← hE, ← hE', he]
    rw [this, Int.sub_self, show (0 : Int).toNat = 0 from rfl, Nat.pow_zero, Nat.mul_one]
    unfold mantN
    rw [← hE, ← hE', he]
    split <;> omega
  · have hlt : E < E' := by omega
    have hx' : expoN b' = (E' : Int) - 1075 := by unfold expoN; rw [← hE', hm', if_neg (by omega)]
    have hmm' : 4503599627370496 ≤ mantN b' := by unfold mantN; rw [← hE', hm', if_neg (by omega)]; omega
    by_cases h0 : E = 0
    · have hx : expoN b = -1074 := by unfold expoN; rw [← hE, hm, if_pos h0]
      have hmm : mantN b < 4503599627370496 := by unfold mantN; rw [← hE, hm, if_pos h0]; omega
      refine scaleF_mono (by rw [hx, hx']; omega) ?_
      exact Nat.le_trans (by omega) (Nat.le_mul_of_pos_right _ (Nat.two_pow_pos _))
    · have hx : expoN b = (E : Int) - 1075 := by unfold expoN; rw [← hE, hm, if_neg h0]
      refine scaleF_mono (by rw [hx, hx']; omega) ?_
      have hb := mant_lt b
      have h1 : 1 ≤ (expoN b' + n - (expoN b + n)).toNat := by rw [hx, hx']; omega
      have h2 : 2 ^ 1 ≤ 2 ^ (expoN b' + n - (expoN b + n)).toNat := Nat.pow_le_pow_right (by decide) h1
      have h3 := Nat.mul_le_mul hmm' h2
      omega

/-- The greatest power of 2 of those that weigh, if any does. -/
def mostN : List Nat → Option Int
  | [] => none
  | b :: l => if posN b && !infN b then (match mostN l with | none => some (topN b) | some t => some (max (topN b) t)) else mostN l
def anyInf (l : List Nat) : Bool := l.any infN
def unitN (inf : Bool) (most : Int) (b : Nat) : Nat := if inf then (if infN b then 1 else 0) else if posN b then scaledN b (31 - most) else 0
def unitsN (l : List Nat) : List Nat := l.map (unitN (anyInf l) ((mostN l).getD 0))
theorem unitsN_len (l : List Nat) : (unitsN l).length = l.length := by simp [unitsN]
theorem most_ge : ∀ {l : List Nat} {b : Nat}, b ∈ l → posN b = true → infN b = false → ∃ t, mostN l = some t ∧ topN b ≤ t
  | a :: l, b, hb, hp, hi => by
    rcases List.mem_cons.1 hb with rfl | hb
    · simp only [mostN, hp, hi, Bool.not_false, Bool.and_self, if_true]
      cases mostN l with
      | none => exact ⟨_, rfl, Int.le_refl _⟩
      | some t => exact ⟨_, rfl, Int.le_max_left _ _⟩
    · obtain ⟨t, ht, hle⟩ := most_ge hb hp hi
      simp only [mostN, ht]
      split
      · exact ⟨_, rfl, Int.le_trans hle (Int.le_max_right _ _)⟩
      · exact ⟨_, rfl, hle⟩
theorem most_at : ∀ {l : List Nat} {t : Int}, mostN l = some t → ∃ b ∈ l, posN b = true ∧ infN b = false ∧ topN b = t
  | [], t, h => by cases h
  | a :: l, t, h => by
    simp only [mostN] at h
    by_cases ha : (posN a && !infN a) = true
    · rw [if_pos ha] at h
      have hp : posN a = true ∧ infN a = false := by simpa using ha
      cases hl : mostN l with
      | none => rw [hl] at h; injection h with h; exact ⟨a, by simp, hp.1, hp.2, h⟩
      | some s =>
        rw [hl] at h
        injection h with h
        rcases Int.le_total s (topN a) with hs | hs
        · rw [Int.max_eq_left hs] at h
          exact ⟨a, by simp, hp.1, hp.2, h⟩
        · rw [Int.max_eq_right hs] at h
          obtain ⟨b, hb, h1, h2, h3⟩ := most_at hl
          exact ⟨b, by simp [hb], h1, h2, by omega⟩
    · rw [if_neg ha] at h
      obtain ⟨b, hb, h1⟩ := most_at h
      exact ⟨b, by simp [hb], h1⟩
/-- The greatest power of 2 does not hang on the order. -/
theorem most_same {l l' : List Nat} (h : ∀ b, b ∈ l ↔ b ∈ l') : mostN l = mostN l' := by
  cases h1 : mostN l with
  | none =>
    cases h2 : mostN l' with
    | none => rfl
    | some t =>
      obtain ⟨b, hb, hp, hi, _⟩ := most_at h2
      obtain ⟨t', ht, _⟩ := most_ge ((h b).2 hb) hp hi
      rw [h1] at ht; cases ht
  | some t =>
    obtain ⟨b, hb, hp, hi, hbt⟩ := most_at h1
    obtain ⟨t', ht, hle⟩ := most_ge ((h b).1 hb) hp hi
    obtain ⟨b', hb', hp', hi', hbt'⟩ := most_at ht
    obtain ⟨t2, ht2, hle2⟩ := most_ge ((h b').2 hb') hp' hi'
    rw [h1] at ht2
    injection ht2 with ht2
    rw [ht, show t = t' by omega]
theorem anyInf_same {l l' : List Nat} (h : ∀ b, b ∈ l ↔ b ∈ l') : anyInf l = anyInf l' := by
  unfold anyInf
  rw [Bool.eq_iff_iff, List.any_eq_true, List.any_eq_true]
  exact ⟨fun ⟨x, hx, hi⟩ => ⟨x, (h x).1 hx, hi⟩, fun ⟨x, hx, hi⟩ => ⟨x, (h x).2 hx, hi⟩⟩
theorem unit_lt {l : List Nat} {b : Nat} (hb : b ∈ l) : unitN (anyInf l) ((mostN l).getD 0) b < 2 ^ 32 := by
  unfold unitN
  by_cases hi : anyInf l = true
  · rw [if_pos hi]
    split <;> decide
  · rw [if_neg hi]
    by_cases hp : posN b = true
    · rw [if_pos hp]
      have hib : infN b = false := by
        cases h : infN b with
        | false => rfl
        | true => exact absurd (List.any_eq_true.2 ⟨b, hb, h⟩) hi
      obtain ⟨t, ht, hle⟩ := most_ge hb hp hib
      rw [ht, Option.getD_some]
      refine scaleF_lt ?_
      unfold topN at hle
      omega
    · rw [if_neg hp]; decide
/-- Of finite weights the greatest has a unit of 32 bits. -/
theorem unit_most {l : List Nat} {t : Int} (hi : anyInf l = false) (ht : mostN l = some t) : ∃ b ∈ l, 2 ^ 31 ≤ unitN (anyInf l) ((mostN l).getD 0) b := by
  obtain ⟨b, hb, hp, hib, hbt⟩ := most_at ht
  refine ⟨b, hb, ?_⟩
  unfold unitN
  rw [hi, if_neg (by simp), if_pos hp, ht, Option.getD_some]
  have hp' : 0 < b ∧ b ≤ infBits := by simpa [posN] using hp
  have hib' : b ≠ infBits := by simpa [infN] using hib
  refine scaleF_ge ?_ ?_
  · have := mant_pos hp'.1 (by omega); omega
  · unfold topN at hbt; omega
theorem unit_mono {inf : Bool} {most : Int} {b b' : Nat} (hb : posN b = true) (h : b ≤ b') (hb' : b' ≤ infBits) (hn : inf = false → b' ≠ infBits) : unitN inf most b ≤ unitN inf most b' := by
  have hp : 0 < b ∧ b ≤ infBits := by simpa [posN] using hb
  have hp' : posN b' = true := by simp [posN]; omega
  unfold unitN
  cases inf with
  | true =>
    simp only [if_true]
    by_cases h1 : infN b = true
    · have h2 : infN b' = true := by simp [infN] at h1 ⊢; omega
      rw [if_pos h1, if_pos h2]; exact Nat.le_refl _
    · rw [if_neg h1]; exact Nat.zero_le _
  | false =>
    simp only [Bool.false_eq_true, if_false, hb, hp', if_true]
    exact scaled_mono h (by have := hn rfl; omega) _
theorem unit_none {inf : Bool} {most : Int} {b : Nat} (hb : posN b = false) : unitN inf most b = 0 := by
  unfold unitN
  have hi : infN b = false := by
    cases h : infN b with
    | false => rfl
    | true =>
      have h1 : b = infBits := by simpa [infN] using h
      rw [h1] at hb
      exact absurd hb (by decide)
  rw [hi, hb]
  cases inf <;> rfl
/-- The units in another order. -/
theorem units_turn {l l' : List Nat} (h : ∀ b, b ∈ l ↔ b ∈ l') {i k : Nat} (hi : i < l.length) (hk : k < l'.length) (he : l.getD i 0 = l'.getD k 0) : (unitsN l).getD i 0 = (unitsN l').getD k 0 := by
  have e : ∀ (m : List Nat) (j : Nat), j < m.length → (unitsN m).getD j 0 = unitN (anyInf m) ((mostN m).getD 0) (m.getD j 0) := fun m j hj => by simp [unitsN, List.getD_eq_getElem?_getD, hj]
  rw [e l i hi, e l' k hk, anyInf_same h, most_same h, he]

theorem scaleF_twice {m : Nat} {e : Int} (h : 0 < e) : scaleF (m * 2) (e - 1) = scaleF m e := by
  unfold scaleF
  rw [if_pos (by omega), if_pos (by omega), Nat.mul_assoc]
  congr 1
  have : e.toNat = (e - 1).toNat + 1 := by omega
  rw [this, Nat.pow_succ, Nat.mul_comm]
theorem scaleF_half {m : Nat} {e : Int} (h : e < 0) : scaleF (m / 2) (e + 1) = scaleF m e := by
  unfold scaleF
  rw [if_neg (show ¬ 0 ≤ e by omega)]
  by_cases h1 : 0 ≤ e + 1
  · have h2 : e = -1 := by omega
    subst h2
    rw [if_pos h1]; simp
  · rw [if_neg h1, Nat.div_div_eq_div_mul]
    congr 1
    have : (-e).toNat = (-(e + 1)).toNat + 1 := by omega
    rw [this, Nat.pow_succ, Nat.mul_comm]
theorem scaleF_zero (m : Nat) : scaleF m 0 = m := by unfold scaleF; simp
theorem scaleF_none (e : Int) : scaleF 0 e = 0 := by
  unfold scaleF
  split <;> simp
theorem scaleF_up {m : Nat} {e : Int} (h : 0 ≤ e) : m ≤ scaleF m e := by
  unfold scaleF
  rw [if_pos h]
  exact Nat.le_mul_of_pos_right _ (Nat.two_pow_pos _)

end Go.Proofs.Ytoedapeookkodaa
