/-
  Numbers of 64 bits: what is nearest keeps the order; whole numbers over one another. No program is spoken of here.
-/
import Derived.Test.YtoedapeookkodaaWeighFloat
import Derived.Test.YtoedapeookkodaaCurveNums
namespace Go.Proofs.Ytoedapeookkodaa
open Ieee

theorem cut_spec {N d : Nat} (hd : d ≤ N.log2 + 2) : 2 * (Toward.even.cut false N d * 2 ^ d) ≤ 2 * N + 2 ^ d ∧ 2 * N ≤ 2 * (Toward.even.cut false N d * 2 ^ d) + 2 ^ d ∧
    (2 * (Toward.even.cut false N d * 2 ^ d) = 2 * N + 2 ^ d → Toward.even.cut false N d % 2 = 0) ∧ (2 * N = 2 * (Toward.even.cut false N d * 2 ^ d) + 2 ^ d → Toward.even.cut false N d % 2 = 0) := by
  have hc : Toward.even.cut false N d = N / 2 ^ d + (decide (2 ^ d < 2 * (N % 2 ^ d)) || (2 ^ d == 2 * (N % 2 ^ d) && N / 2 ^ d % 2 == 1)).toNat := by
    unfold Toward.cut
    rw [Nat.min_eq_left hd, shl_eq, Nat.one_mul]
  have hG := Nat.two_pow_pos d
  have hN := Nat.div_add_mod N (2 ^ d)
  have hr := Nat.mod_lt N hG
  obtain ⟨k, hk⟩ : ∃ k, k = Toward.even.cut false N d := ⟨_, rfl⟩
  rw [← hk] at hc ⊢
  obtain ⟨G, hGe⟩ : ∃ G, G = 2 ^ d := ⟨_, rfl⟩
  rw [← hGe] at hc hG hN hr ⊢
  obtain ⟨low, hl⟩ : ∃ l, l = N / G := ⟨_, rfl⟩
  obtain ⟨r, hre⟩ : ∃ r, r = N % G := ⟨_, rfl⟩
  rw [← hl, ← hre] at hc hN
  rw [← hre] at hr
  clear hk hGe hl hre
  have hP : low * G = G * low := Nat.mul_comm ..
  have h1 : (low + 1) * G = low * G + G := Nat.succ_mul ..
  by_cases c1 : G < 2 * r
  · rw [decide_eq_true c1] at hc
    have hk : k = low + 1 := hc
    subst hk
    refine ⟨by omega, by omega, fun h => by omega, fun h => by omega⟩
  · rw [decide_eq_false c1, Bool.false_or] at hc
    by_cases c2 : G = 2 * r
    · have hb : (G == 2 * r) = true := by rw [beq_iff_eq]; exact c2
      rw [hb, Bool.true_and] at hc
      by_cases c3 : low % 2 = 1
      · have hb2 : (low % 2 == 1) = true := by rw [beq_iff_eq]; exact c3
        rw [hb2] at hc
        have hk : k = low + 1 := hc
        subst hk
        refine ⟨by omega, by omega, fun h => by omega, fun h => by omega⟩
      · have hb2 : (low % 2 == 1) = false := by rw [beq_eq_false_iff_ne]; exact c3
        rw [hb2] at hc
        have hk : k = low := hc
        subst hk
        refine ⟨by omega, by omega, fun h => by omega, fun h => by omega⟩
    · have hb : (G == 2 * r) = false := by rw [beq_eq_false_iff_ne]; exact c2
      rw [hb, Bool.false_and] at hc
      have hk : k = low := hc
      subst hk
      refine ⟨by omega, by omega, fun h => by omega, fun h => by omega⟩

/-- The nearest whole numbers keep the order. -/
theorem rne_mono {N D N' D' k k' : Nat} (hD : 0 < D) (hD' : 0 < D') (h : N * D' ≤ N' * D) (h1 : 2 * (k * D) ≤ 2 * N + D) (h1e : 2 * (k * D) = 2 * N + D → k % 2 = 0) (h2 : 2 * N' ≤ 2 * (k' * D') + D') (h2e : 2 * N' = 2 * (k' * D') + D' → k' % 2 = 0) : k ≤ k' := by
  apply Decidable.byContradiction
  intro hlt
  obtain ⟨j, rfl⟩ : ∃ j, k = k' + 1 + j := ⟨k - k' - 1, by omega⟩
  have a1 : 2 * ((k' + 1 + j) * D) * D' ≤ (2 * N + D) * D' := Nat.mul_le_mul_right _ h1
  have a2 : (2 * N') * D ≤ (2 * (k' * D') + D') * D := Nat.mul_le_mul_right _ h2
  obtain ⟨P, hP⟩ : ∃ P, P = D * D' := ⟨_, rfl⟩
  have hP0 : 0 < P := by rw [hP]; exact Nat.mul_pos hD hD'
  have e1 : 2 * ((k' + 1 + j) * D) * D' = 2 * (k' * P) + 2 * P + 2 * (j * P) := by rw [hP]; simp only [Nat.add_mul, Nat.mul_assoc, Nat.one_mul, Nat.mul_add]
  have e2 : (2 * N + D) * D' = 2 * (N * D') + P := by rw [hP]; simp only [Nat.add_mul, Nat.mul_assoc]
  have e3 : (2 * N') * D = 2 * (N' * D) := Nat.mul_assoc ..
  have e4 : (2 * (k' * D') + D') * D = 2 * (k' * P) + P := by rw [hP, Nat.add_mul, Nat.mul_assoc 2, Nat.mul_assoc k', Nat.mul_comm D' D]
  rw [e1, e2] at a1
  rw [e3, e4] at a2
  have hj : j * P = 0 := by omega
  have hj0 : j = 0 := by
    rcases Nat.mul_eq_zero.1 hj with q | q
    · exact q
    · omega
  subst hj0
  have t1 : 2 * ((k' + 1 + 0) * D) = 2 * N + D := by
    apply Nat.eq_of_mul_eq_mul_right hD'
    rw [e1, e2]; omega
  have t2 : 2 * N' = 2 * (k' * D') + D' := by
    apply Nat.eq_of_mul_eq_mul_right hD
    rw [e3, e4]; omega
  have := h1e t1
  have := h2e t2
  omega

/-- What is nearest to a number that is neither too small nor too great. -/
theorem near_at {m : Nat} {p : Int} (hm : m ≠ 0) (h1 : -1022 ≤ p + (m.log2 : Nat)) (h2 : p + (m.log2 : Nat) ≤ 900) : ∃ k, Ieee.double.nearest false m p = (p + (m.log2 : Nat) + 1022).toNat * 4503599627370496 + k ∧ 4503599627370496 ≤ k ∧ k ≤ 9007199254740992 ∧
    2 * (k * 2 ^ (m.log2 - 52)) ≤ 2 * (m * 2 ^ (52 - m.log2)) + 2 ^ (m.log2 - 52) ∧ 2 * (m * 2 ^ (52 - m.log2)) ≤ 2 * (k * 2 ^ (m.log2 - 52)) + 2 ^ (m.log2 - 52) ∧
    (2 * (k * 2 ^ (m.log2 - 52)) = 2 * (m * 2 ^ (52 - m.log2)) + 2 ^ (m.log2 - 52) → k % 2 = 0) ∧ (2 * (m * 2 ^ (52 - m.log2)) = 2 * (k * 2 ^ (m.log2 - 52)) + 2 ^ (m.log2 - 52) → k % 2 = 0) := by
  have a := Nat.log2_self_le hm
  have b := @Nat.lt_log2_self m
  obtain ⟨L, hL⟩ : ∃ L, L = m.log2 := ⟨_, rfl⟩
  have hlast : max (p + ((m.log2 : Nat) : Int) - 52) (-1074) = p + (L : Int) - 52 := by rw [← hL] at h1 ⊢; omega
  have hf : (Ieee.double.fractionBits : Int) = 52 := rfl
  have hx : (p - (p + (L : Int) - 52)).toNat = 52 - L := by omega
  have hd : (p + (L : Int) - 52 - p).toNat = L - 52 := by omega
  have hr : (p + (L : Int) - 52 - -1074).toNat = (p + (L : Int) + 1022).toNat := by omega
  rw [← hL] at a b
  -- the number's top
  have hpow : 2 ^ (L + 1) = 2 * 2 ^ L := by rw [Nat.pow_succ]; omega
  have hNl : (m * 2 ^ (52 - L)).log2 + 2 ≥ L - 52 := by
    rcases Nat.lt_or_ge L 53 with g | g
    · omega
    · rw [show 52 - L = 0 by omega, Nat.pow_zero, Nat.mul_one, ← hL]; omega
  have hs := cut_spec hNl
  obtain ⟨k, hk⟩ : ∃ k, k = Toward.even.cut false (m * 2 ^ (52 - L)) (L - 52) := ⟨_, rfl⟩
  rw [← hk] at hs
  obtain ⟨s1, s2, s3, s4⟩ := hs
  have hkb : 4503599627370496 ≤ k ∧ k ≤ 9007199254740992 := by
    have h52 : (2 : Nat) ^ 52 = 4503599627370496 := by decide
    have h53 : (2 : Nat) ^ 53 = 9007199254740992 := by decide
    have lo : 2 ^ 52 * 2 ^ (L - 52) ≤ m * 2 ^ (52 - L) := by
      rw [← Nat.pow_add]
      calc 2 ^ (52 + (L - 52)) = 2 ^ (L + (52 - L)) := by congr 1; omega
        _ = 2 ^ L * 2 ^ (52 - L) := Nat.pow_add ..
        _ ≤ m * 2 ^ (52 - L) := Nat.mul_le_mul_right _ a
    have hi : m * 2 ^ (52 - L) < 2 ^ 53 * 2 ^ (L - 52) := by
      calc m * 2 ^ (52 - L) < 2 ^ (L + 1) * 2 ^ (52 - L) := Nat.mul_lt_mul_of_pos_right b (Nat.two_pow_pos _)
        _ = 2 ^ (L + 1 + (52 - L)) := (Nat.pow_add ..).symm
        _ = 2 ^ (53 + (L - 52)) := by congr 1; omega
        _ = 2 ^ 53 * 2 ^ (L - 52) := Nat.pow_add ..
    rw [h52] at lo
    rw [h53] at hi
    have hG := Nat.two_pow_pos (L - 52)
    generalize 2 ^ (L - 52) = G at s1 s2 lo hi hG
    generalize m * 2 ^ (52 - L) = N at s1 s2 lo hi
    constructor
    · apply Decidable.byContradiction
      intro hlt
      have : k * G + G ≤ 4503599627370496 * G := by
        rw [← Nat.succ_mul]; exact Nat.mul_le_mul_right _ (by omega)
      omega
    · apply Decidable.byContradiction
      intro hlt
      have : 9007199254740992 * G + G ≤ k * G := by
        rw [← Nat.succ_mul]; exact Nat.mul_le_mul_right _ (by omega)
      omega
  refine ⟨k, ?_, hkb.1, hkb.2, by rw [← hL]; exact s1, by rw [← hL]; exact s2, by rw [← hL]; exact s3, by rw [← hL]; exact s4⟩
  unfold Format.nearest
  rw [if_neg hm]
  simp only [dbl_binade, dbl_inf, dbl_least, hf]
  rw [hlast, hx, hd, hr, shl_eq, ← hk, ← hL]
  have : (p + (L : Int) + 1022).toNat * 4503599627370496 + k ≤ 9218868437227405312 := by rw [← hL] at h2; omega
  rw [Nat.min_eq_left this]
  rfl

theorem near_mono {m m' : Nat} {p p' b : Int} (hm : m ≠ 0) (hm' : m' ≠ 0) (h1 : -1022 ≤ p + (m.log2 : Nat)) (h2' : p' + (m'.log2 : Nat) ≤ 900) (hb : b ≤ p) (hb' : b ≤ p')
    (hv : m * 2 ^ (p - b).toNat ≤ m' * 2 ^ (p' - b).toNat) : Ieee.double.nearest false m p ≤ Ieee.double.nearest false m' p' := by
  obtain ⟨P, rfl⟩ : ∃ P : Nat, p = b + P := ⟨(p - b).toNat, by omega⟩
  obtain ⟨P', rfl⟩ : ∃ P : Nat, p' = b + P := ⟨(p' - b).toNat, by omega⟩
  rw [show (b + (P : Int) - b).toNat = P by omega, show (b + (P' : Int) - b).toNat = P' by omega] at hv
  have a := Nat.log2_self_le hm
  have b' := @Nat.lt_log2_self m'
  have hle : m.log2 + P ≤ m'.log2 + P' := by
    have q : 2 ^ (m.log2 + P) < 2 ^ (m'.log2 + 1 + P') := by
      rw [Nat.pow_add, Nat.pow_add]
      calc 2 ^ m.log2 * 2 ^ P ≤ m * 2 ^ P := Nat.mul_le_mul_right _ a
        _ ≤ m' * 2 ^ P' := hv
        _ < 2 ^ (m'.log2 + 1) * 2 ^ P' := Nat.mul_lt_mul_of_pos_right b' (Nat.two_pow_pos _)
    have := (Nat.pow_lt_pow_iff_right (by decide : 1 < 2)).1 q
    omega
  obtain ⟨k, e1, l1, u1, s1, _, s3, _⟩ := near_at hm h1 (by omega)
  obtain ⟨k', e2, l2, u2, _, t2, _, t4⟩ := near_at hm' (by omega) h2'
  rw [e1, e2]
  rcases Nat.lt_or_ge (m.log2 + P) (m'.log2 + P') with g | g
  · have : (b + (P : Int) + (m.log2 : Nat) + 1022).toNat + 1 ≤ (b + (P' : Int) + (m'.log2 : Nat) + 1022).toNat := by omega
    omega
  · have he : (b + (P : Int) + (m.log2 : Nat) + 1022).toNat = (b + (P' : Int) + (m'.log2 : Nat) + 1022).toNat := by omega
    rw [he]
    refine Nat.add_le_add_left (rne_mono (Nat.two_pow_pos _) (Nat.two_pow_pos _) ?_ s1 s3 t2 t4) _
    -- m 2^(52-L) 2^(L'-52) ≤ m' 2^(52-L') 2^(L-52)
    rw [Nat.mul_assoc, Nat.mul_assoc, ← Nat.pow_add, ← Nat.pow_add]
    obtain ⟨L, hL⟩ : ∃ L, L = m.log2 := ⟨_, rfl⟩
    obtain ⟨L', hL'⟩ : ∃ L, L = m'.log2 := ⟨_, rfl⟩
    rw [← hL, ← hL'] at hle g ⊢
    have hx : 52 - L + (L' - 52) + P' = 52 - L' + (L - 52) + P := by omega
    rcases Nat.le_total P (52 - L + (L' - 52)) with q | q
    · obtain ⟨t, ht⟩ : ∃ t, 52 - L + (L' - 52) = P + t := ⟨_, (Nat.add_sub_cancel' q).symm⟩
      rw [ht, show 52 - L' + (L - 52) = P' + t by omega, Nat.pow_add, Nat.pow_add, ← Nat.mul_assoc, ← Nat.mul_assoc]
      exact Nat.mul_le_mul_right _ hv
    · obtain ⟨t, ht⟩ : ∃ t, P = 52 - L + (L' - 52) + t := ⟨_, (Nat.add_sub_cancel' q).symm⟩
      have ht' : P' = 52 - L' + (L - 52) + t := by omega
      rw [ht, ht', Nat.pow_add 2 (52 - L + (L' - 52)) t, Nat.pow_add 2 (52 - L' + (L - 52)) t, ← Nat.mul_assoc, ← Nat.mul_assoc] at hv
      exact Nat.le_of_mul_le_mul_right hv (Nat.two_pow_pos _)

/-! ### Whole numbers, and these over one another -/
def flo (x : Nat) : Nat := floatOfInt .f64 (x : Int)
theorem flo_eq (x : Nat) : flo x = Ieee.double.nearest false x 0 := rfl
theorem flo_at {x : Nat} (h0 : 1 ≤ x) (h1 : x < 18446744073709551616) : 4503599627370496 * 1000 ≤ flo x ∧ flo x ≤ 4503599627370496 * 1100 := by
  have hL : x.log2 < 64 := (Nat.log2_lt (by omega)).2 (by simpa using h1)
  obtain ⟨k, e, l, u, _⟩ := near_at (m := x) (p := 0) (by omega) (by omega) (by omega)
  rw [flo_eq, e]
  omega
theorem flo_mono {x y : Nat} (h0 : 1 ≤ x) (h : x ≤ y) (h1 : y < 18446744073709551616) : flo x ≤ flo y := by
  have hL : y.log2 < 64 := (Nat.log2_lt (by omega)).2 (by simpa using h1)
  rw [flo_eq, flo_eq]
  exact near_mono (b := 0) (by omega) (by omega) (by omega) (by omega) (Int.le_refl _) (Int.le_refl _) (by simpa using h)
theorem parts_at {b : Nat} (h0 : 4503599627370496 * 1000 ≤ b) (h1 : b ≤ 4503599627370496 * 1100) : Ieee.double.read b = .number false (4503599627370496 + b % 4503599627370496) ((b / 4503599627370496 : Nat) - 1075) := by
  rw [read_fin (by unfold infBits; omega)]
  have : b / 4503599627370496 % 2048 = b / 4503599627370496 := by omega
  unfold mantN expoN
  rw [this, if_neg (by omega), if_neg (by omega), Nat.add_comm]
theorem log_52 {m : Nat} (h0 : 4503599627370496 ≤ m) (h1 : m < 9007199254740992) : m.log2 = 52 := by
  have a : m.log2 < 53 := (Nat.log2_lt (by omega)).2 (by simpa using h1)
  have b := @Nat.lt_log2_self m
  rcases Nat.lt_or_ge m.log2 52 with g | g
  · have : 2 ^ (m.log2 + 1) ≤ 2 ^ 52 := Nat.pow_le_pow_right (by decide) (by omega)
    have e : (2 : Nat) ^ 52 = 4503599627370496 := by decide
    omega
  · omega
def quoT (T m n : Nat) : Nat := 2 * (m * T / n) + (m * T % n != 0).toNat
theorem toNat_le (b : Bool) : b.toNat ≤ 1 := by cases b <;> decide
theorem quoT_le (T m n : Nat) : 2 * (m * T / n) ≤ quoT T m n ∧ quoT T m n ≤ 2 * (m * T / n) + 1 := by
  unfold quoT
  have := toNat_le (m * T % n != 0)
  omega
theorem quoT_bounds {T m n : Nat} (hT : T = 18014398509481984) (hm0 : 4503599627370496 ≤ m) (hm1 : m < 9007199254740992) (hn0 : 4503599627370496 ≤ n) (hn1 : n < 9007199254740992) : 18014398509481984 ≤ quoT T m n ∧ quoT T m n < 72057594037927936 := by
  obtain ⟨a, b⟩ := quoT_le T m n
  obtain ⟨q, hq⟩ : ∃ q, q = m * T / n := ⟨_, rfl⟩
  have lo : 9007199254740992 ≤ q := by
    rw [hq, Nat.le_div_iff_mul_le (by omega)]
    have h1 : 9007199254740992 * n ≤ 81129638414606681695789005144064 := by omega
    have h2 : 4503599627370496 * T ≤ m * T := Nat.mul_le_mul_right _ hm0
    omega
  have hi : q < 36028797018963968 := by
    rw [hq, Nat.div_lt_iff_lt_mul (by omega)]
    have h1 : 162259276829213363391578010288128 ≤ 36028797018963968 * n := by omega
    have h2 : (m + 1) * T ≤ 9007199254740992 * T := Nat.mul_le_mul_right _ (by omega)
    have h3 : (m + 1) * T = m * T + T := Nat.succ_mul ..
    omega
  rw [← hq] at a b
  omega
theorem quoT_mono {T m m' n : Nat} (h : m ≤ m') : quoT T m n ≤ quoT T m' n := by
  have hA : m * T ≤ m' * T := Nat.mul_le_mul_right _ h
  unfold quoT
  generalize m * T = A at hA ⊢
  generalize m' * T = A' at hA ⊢
  have h1 : A / n ≤ A' / n := Nat.div_le_div_right hA
  have b := toNat_le (A % n != 0)
  rcases Nat.lt_or_ge (A / n) (A' / n) with g | g
  · omega
  · have e : A / n = A' / n := by omega
    have d := Nat.div_add_mod A n
    have d' := Nat.div_add_mod A' n
    rw [e] at d ⊢
    by_cases hz : A % n = 0
    · rw [hz]; simp
    · have h1 : (A % n != 0) = true := by rw [bne_iff_ne]; exact hz
      have h2 : (A' % n != 0) = true := by rw [bne_iff_ne]; omega
      rw [h1, h2]; exact Nat.le_refl _
theorem quoT_jump {T m m' n : Nat} (hT : T = 18014398509481984) (hm1 : m < 9007199254740992) (hm0' : 4503599627370496 ≤ m') (hn0 : 4503599627370496 ≤ n) (hn1 : n < 9007199254740992) : quoT T m n ≤ quoT T m' n * 2 := by
  have a := (quoT_le T m n).2
  have a' := (quoT_le T m' n).1
  have d := Nat.div_add_mod (m * T) n
  have d' := Nat.div_add_mod (m' * T) n
  have r' := Nat.mod_lt (m' * T) (show 0 < n by omega)
  have hA : m * T + T ≤ 2 * (m' * T) := by
    have h2 : (m + 1) * T ≤ 9007199254740992 * T := Nat.mul_le_mul_right _ (by omega)
    have h3 : (m + 1) * T = m * T + T := Nat.succ_mul ..
    have h4 : 4503599627370496 * T ≤ m' * T := Nat.mul_le_mul_right _ hm0'
    omega
  obtain ⟨q, hq⟩ : ∃ q, q = m * T / n := ⟨_, rfl⟩
  obtain ⟨q', hq'⟩ : ∃ q, q = m' * T / n := ⟨_, rfl⟩
  rw [← hq] at a d
  rw [← hq'] at a' d'
  generalize m * T = A at d hA
  generalize m' * T = A' at d' hA r'
  have : q + 1 ≤ 2 * q' := by
    apply Decidable.byContradiction
    intro hlt
    have h1 : n * (2 * q') ≤ n * q := Nat.mul_le_mul_left _ (by omega)
    have e1 : n * (2 * q') = 2 * (n * q') := by rw [Nat.mul_left_comm]
    omega
  omega
def two54 : Nat := 18014398509481984
theorem div_at {b1 b2 : Nat} (h0 : 4503599627370496 * 1000 ≤ b1) (h1 : b1 ≤ 4503599627370496 * 1100) (g0 : 4503599627370496 * 1000 ≤ b2) (g1 : b2 ≤ 4503599627370496 * 1100) :
    Ieee.double.div b1 b2 = some (Ieee.double.nearest false (quoT two54 (4503599627370496 + b1 % 4503599627370496) (4503599627370496 + b2 % 4503599627370496)) ((b1 / 4503599627370496 : Nat) - 1075 - ((b2 / 4503599627370496 : Nat) - 1075) - 55)) := by
  have p1 := parts_at h0 h1
  have p2 := parts_at g0 g1
  obtain ⟨m, hm⟩ : ∃ m, m = 4503599627370496 + b1 % 4503599627370496 := ⟨_, rfl⟩
  obtain ⟨n, hn⟩ : ∃ m, m = 4503599627370496 + b2 % 4503599627370496 := ⟨_, rfl⟩
  obtain ⟨i, hi⟩ : ∃ i : Int, i = (b1 / 4503599627370496 : Nat) - 1075 := ⟨_, rfl⟩
  obtain ⟨j, hj⟩ : ∃ i : Int, i = (b2 / 4503599627370496 : Nat) - 1075 := ⟨_, rfl⟩
  have l1 : m.log2 = 52 := log_52 (by omega) (by omega)
  have l2 : n.log2 = 52 := log_52 (by omega) (by omega)
  have n0 : n ≠ 0 := by omega
  rw [← hm, ← hi] at p1
  rw [← hn, ← hj] at p2
  rw [← hm, ← hn, ← hi, ← hj]
  clear hm hn hi hj h0 h1 g0 g1
  unfold Format.div
  rw [p1, p2]
  have hmore : Ieee.double.fractionBits + 2 + n.log2 - m.log2 = 54 := by rw [l1, l2]; rfl
  simp only [Datum.quotient, n0, if_false, hmore, shl_eq, Option.map_some, Option.some.injEq]
  rw [show (2 : Nat) ^ 54 = two54 by decide]
  show Ieee.double.nearest (false ^^ false) (quoT two54 m n) _ = _
  congr 1
  omega
theorem div_mono {b1 b1' b2 : Nat} (h0 : 4503599627370496 * 1000 ≤ b1) (h : b1 ≤ b1') (h1 : b1' ≤ 4503599627370496 * 1100) (g0 : 4503599627370496 * 1000 ≤ b2) (g1 : b2 ≤ 4503599627370496 * 1100) :
    ∃ r r', Ieee.double.div b1 b2 = some r ∧ Ieee.double.div b1' b2 = some r' ∧ r ≤ r' := by
  refine ⟨_, _, div_at h0 (by omega) g0 g1, div_at (by omega) h1 g0 g1, ?_⟩
  obtain ⟨m, hm⟩ : ∃ m, m = 4503599627370496 + b1 % 4503599627370496 := ⟨_, rfl⟩
  obtain ⟨m', hm'⟩ : ∃ m, m = 4503599627370496 + b1' % 4503599627370496 := ⟨_, rfl⟩
  obtain ⟨n, hn⟩ : ∃ m, m = 4503599627370496 + b2 % 4503599627370496 := ⟨_, rfl⟩
  obtain ⟨e, he⟩ : ∃ m, m = b1 / 4503599627370496 := ⟨_, rfl⟩
  obtain ⟨e', he'⟩ : ∃ m, m = b1' / 4503599627370496 := ⟨_, rfl⟩
  obtain ⟨f, hf⟩ : ∃ m, m = b2 / 4503599627370496 := ⟨_, rfl⟩
  have hx : e ≤ e' ∧ (e = e' → m ≤ m') ∧ 1000 ≤ e ∧ e' ≤ 1100 ∧ 1000 ≤ f ∧ f ≤ 1100 := by omega
  have hmb : 4503599627370496 ≤ m ∧ m < 9007199254740992 ∧ 4503599627370496 ≤ m' ∧ m' < 9007199254740992 ∧ 4503599627370496 ≤ n ∧ n < 9007199254740992 := by omega
  rw [← hm, ← hm', ← hn, ← he, ← he', ← hf]
  clear hm hm' hn he he' hf h0 h h1 g0 g1
  obtain ⟨m0, m1, m0', m1', n0, n1⟩ := hmb
  obtain ⟨x0, x1, x2, x3, x4, x5⟩ := hx
  obtain ⟨q0, q1⟩ := quoT_bounds (T := two54) rfl m0 m1 n0 n1
  obtain ⟨q0', q1'⟩ := quoT_bounds (T := two54) rfl m0' m1' n0 n1
  have hq : quoT two54 m n * 2 ^ 0 ≤ quoT two54 m' n * 2 ^ (e' - e) := by
    rw [Nat.pow_zero, Nat.mul_one]
    rcases Nat.lt_or_ge e e' with g | g
    · have := quoT_jump (T := two54) rfl m1 m0' n0 n1
      have e9 : 2 ^ 1 ≤ 2 ^ (e' - e) := Nat.pow_le_pow_right (by decide) (by omega)
      exact Nat.le_trans this (Nat.mul_le_mul_left _ e9)
    · have e9 : e = e' := by omega
      rw [e9, Nat.sub_self, Nat.pow_zero, Nat.mul_one]
      exact quoT_mono (x1 e9)
  generalize quoT two54 m n = Q at q0 q1 hq
  generalize quoT two54 m' n = Q' at q0' q1' hq
  have L0 : 54 ≤ Q.log2 := (Nat.le_log2 (by omega)).2 (by simpa using q0)
  have L1 : Q'.log2 < 56 := (Nat.log2_lt (by omega)).2 (by simpa using q1')
  refine near_mono (b := (e : Int) - 1075 - ((f : Int) - 1075) - 55) (by omega) (by omega) (by omega) (by omega) (Int.le_refl _) (by omega) ?_
  rw [Int.sub_self, show ((e' : Int) - 1075 - ((f : Int) - 1075) - 55 - ((e : Int) - 1075 - ((f : Int) - 1075) - 55)).toNat = e' - e by omega]
  exact hq
theorem near_one : Ieee.double.nearest false 36028797018963968 (-55) = 4607182418800017408 := by decide
theorem div_self {b : Nat} (h0 : 4503599627370496 * 1000 ≤ b) (h1 : b ≤ 4503599627370496 * 1100) : Ieee.double.div b b = some 4607182418800017408 := by
  rw [div_at h0 h1 h0 h1]
  have hq : ∀ T n : Nat, 0 < n → quoT T n n = 2 * T := fun T n hn => by
    unfold quoT
    rw [Nat.mul_div_cancel_left _ hn, Nat.mul_mod_right]
    rfl
  rw [hq _ _ (by omega), show 2 * two54 = 36028797018963968 from rfl, show ((b / 4503599627370496 : Nat) : Int) - 1075 - ((b / 4503599627370496 : Nat) - 1075) - 55 = -55 by omega, near_one]
/-- A part of a whole. -/
theorem part_at {x y : Nat} (h0 : 1 ≤ x) (h : x ≤ y) (h1 : y < 18446744073709551616) : ∃ r, Ieee.double.div (flo x) (flo y) = some r ∧ r ≤ 4607182418800017408 := by
  obtain ⟨a0, a1⟩ := flo_at h0 (by omega)
  obtain ⟨b0, b1⟩ := flo_at (show 1 ≤ y by omega) h1
  obtain ⟨r, r', e, e', hr⟩ := div_mono a0 (flo_mono h0 h h1) b1 b0 b1
  rw [div_self b0 b1] at e'
  injection e' with e'
  exact ⟨r, e, by omega⟩
theorem part_mono {x x' y : Nat} (h0 : 1 ≤ x) (hx : x ≤ x') (h : x' ≤ y) (h1 : y < 18446744073709551616) : ∃ r r', Ieee.double.div (flo x) (flo y) = some r ∧ Ieee.double.div (flo x') (flo y) = some r' ∧ r ≤ r' := by
  obtain ⟨a0, a1⟩ := flo_at h0 (by omega)
  obtain ⟨c0, c1⟩ := flo_at (show 1 ≤ x' by omega) (by omega)
  obtain ⟨b0, b1⟩ := flo_at (show 1 ≤ y by omega) h1
  exact div_mono a0 (flo_mono h0 hx (by omega)) c1 b0 b1

end Go.Proofs.Ytoedapeookkodaa
