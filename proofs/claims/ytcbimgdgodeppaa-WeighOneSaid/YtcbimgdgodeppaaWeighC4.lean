/-
  math's Frexp and Ldexp where weigh asks them; a weight's unit by its bits.
-/
import Derived.Test.YtcbimgdgodeppaaWeighF1
import Derived.Test.YtcbimgdgodeppaaWeighRef
namespace Go.Proofs.Ytcbimgdgodeppaa
open Go.RowKit Ieee

theorem pos_bounds {b : Nat} (h : posN b = true) : 0 < b ∧ b ≤ infBits := by simpa [posN] using h
theorem cmp_eq (b : Nat) : compare b b = Ordering.eq := Nat.compare_eq_eq.2 rfl

set_option maxHeartbeats 800000 in
/-- No NaN is none. -/
theorem isNaN_no (b : Nat) (w : World) (h : b ≤ infBits) : Calls Try.prog 39 #[.float .f64 b] w fun e w' => e = .returned (.bool false) ∧ w' = w := by
  have ho : FloatKind.f64.format.order b b = some .eq := by
    rw [show FloatKind.f64.format = Ieee.double from rfl, ord_nat h h, cmp_eq]
  go_enter Try.func39, Try.ntmps39
  go_wp2
  go_ret
  exact ⟨rfl, rfl⟩
set_option maxHeartbeats 800000 in
theorem isNaN_any (b : Nat) (w : World) : Calls Try.prog 39 #[.float .f64 b] w fun e w' => e = .returned (.bool (Ieee.double.order b b != some .eq)) ∧ w' = w := by
  go_enter Try.func39, Try.ntmps39
  go_wp2
  go_ret
  exact ⟨rfl, rfl⟩
/-! ### Bits -/
theorem bits_sign {b : Nat} (h : b < 9223372036854775808) : bits .andNot .u64 (b : Int) 9223372036854775808 = (b : Int) := by
  have h1 := u64_andNot_nat b 9223372036854775808 (by omega) (by decide)
  have h2 : b &&& (18446744073709551615 - 9223372036854775808) = b := by
    rw [show 18446744073709551615 - 9223372036854775808 = 2 ^ 63 - 1 by decide, Nat.and_two_pow_sub_one_eq_mod]
    exact Nat.mod_eq_of_lt (by omega)
  rw [h2] at h1; exact h1
theorem bits_low {x : Nat} (h : x < 9223372036854775808) : bits .andNot .u64 (x : Int) 9218868437227405312 = ((x % 4503599627370496 : Nat) : Int) := by
  have h1 := u64_andNot_nat x 9218868437227405312 (by omega) (by decide)
  have h2 : x &&& (18446744073709551615 - 9218868437227405312) = x % 4503599627370496 := by
    have e1 : x = x &&& (2 ^ 63 - 1) := by
      rw [Nat.and_two_pow_sub_one_eq_mod]; exact (Nat.mod_eq_of_lt (by omega)).symm
    have e2 : (2 ^ 63 - 1) &&& (18446744073709551615 - 9218868437227405312) = 2 ^ 52 - 1 := by decide
    have e3 : x &&& (18446744073709551615 - 9218868437227405312) = (x &&& (2 ^ 63 - 1)) &&& (18446744073709551615 - 9218868437227405312) := by rw [← e1]
    rw [e3, Nat.and_assoc, e2, Nat.and_two_pow_sub_one_eq_mod]
  rw [h2] at h1; exact h1
theorem bits_field {x : Nat} (h : x < 2048) : bits .and .u64 (x : Int) 2047 = (x : Int) := by
  have h1 := u64_and_nat x 2047 (by omega) (by decide)
  have h2 : x &&& 2047 = x := by
    rw [show 2047 = 2 ^ 11 - 1 by decide, Nat.and_two_pow_sub_one_eq_mod]
    exact Nat.mod_eq_of_lt (by omega)
  rw [h2] at h1; exact h1
theorem bits_put {t : Nat} (h : t < 4503599627370496) (k : Nat) (hk : k < 2048) : bits .or .u64 (t : Int) ((k * 4503599627370496 : Nat) : Int) = ((k * 4503599627370496 + t : Nat) : Int) := by
  have h1 := u64_or_nat t (k * 4503599627370496) (by omega) (by omega)
  have h2 : t ||| k * 4503599627370496 = k * 4503599627370496 + t := by
    have := Nat.two_pow_add_eq_or_of_lt (i := 52) (b := t) (by rw [show (2 : Nat) ^ 52 = 4503599627370496 by decide]; exact h) k
    rw [show (2 : Nat) ^ 52 = 4503599627370496 by decide, Nat.mul_comm] at this
    rw [Nat.or_comm, ← this]
  rw [h2] at h1; exact h1

set_option maxHeartbeats 800000 in
theorem abs_any (b : Nat) (w : World) (h : b < 9223372036854775808) : Calls Try.prog 32 #[.float .f64 b] w fun e w' => e = .returned (.float .f64 b) ∧ w' = w := by
  have hcb := callBits b
  have hcf := callFrom b
  have hbs := bits_sign h
  clear h
  go_enter Try.func32, Try.ntmps32
  go_wp2
  go_ret
  exact ⟨rfl, rfl⟩
set_option maxHeartbeats 800000 in
theorem normalize_any (b : Nat) (w : World) (h0 : 0 < b) (hi : b < infBits) : Calls Try.prog 50 #[.float .f64 b] w fun e w' => e = .returned (.tuple #[.float .f64 (normB b), .int .i64 (normE b)]) ∧ w' = w := by
  have HA := Lib.hid (fun W => abs_any b W (by unfold infBits at hi; omega))
  have ho : FloatKind.f64.format.order b 4503599627370496 = some (compare b 4503599627370496) := ord_nat (Nat.le_of_lt hi) (by decide)
  by_cases hs : b < 4503599627370496
  · rw [Nat.compare_eq_lt.2 hs] at ho
    have hm0 : Ieee.double.mul b 4841369599423283200 = some (normB b) := by
      rw [norm_mul h0 hs]; unfold normB; rw [if_pos hs]
    have hm := fun W : World => run_float_arith (P := Try.prog) W .mul 35 .f64 b 4841369599423283200 (normB b) hm0
    have HE : Hid (normE b = -52) := by unfold Hid normE; rw [if_pos hs]
    clear hi hs hm0
    obtain ⟨n, hn⟩ : ∃ n, n = normB b := ⟨_, rfl⟩
    rw [← hn] at hm ⊢
    clear hn
    go_enter Try.func50, Try.ntmps50
    go_wp2_with (go_at_call 32; with_reducible (refine Calls.mono (HA.out _) ?_); rintro e w' ⟨rfl, rfl⟩)
    go_ret2
    exact ⟨by rw [HE.out]; rfl, rfl⟩
  · have hc : compare b 4503599627370496 ≠ .lt := by rw [Ne, Nat.compare_eq_lt]; exact hs
    have HE : Hid (normE b = 0) := by unfold Hid normE; rw [if_neg hs]
    have HB : Hid (normB b = b) := by unfold Hid normB; rw [if_neg hs]
    rcases Nat.lt_or_eq_of_le (Nat.le_of_not_lt hs) with g | g
    · rw [Nat.compare_eq_gt.2 g] at ho
      clear hi hs hc
      go_enter Try.func50, Try.ntmps50
      go_wp2_with (go_at_call 32; with_reducible (refine Calls.mono (HA.out _) ?_); rintro e w' ⟨rfl, rfl⟩)
      go_ret2
      exact ⟨by rw [HE.out, HB.out]; rfl, rfl⟩
    · rw [Nat.compare_eq_eq.2 g.symm] at ho
      clear hi hs hc g
      go_enter Try.func50, Try.ntmps50
      go_wp2_with (go_at_call 32; with_reducible (refine Calls.mono (HA.out _) ?_); rintro e w' ⟨rfl, rfl⟩)
      go_ret2
      exact ⟨by rw [HE.out, HB.out]; rfl, rfl⟩

/-! ### Frexp -/
/-- A number's fraction: from a half up to 1. -/
def fracB (b : Nat) : Nat := 4602678819172646912 + (partN b - 4503599627370496)
set_option maxHeartbeats 1600000 in
theorem isInf0_any (b : Nat) (w : World) (hi : b < infBits) : Calls Try.prog 21 #[.float .f64 b, .int .i64 0] w fun e w' => e = .returned (.bool false) ∧ w' = w := by
  have HA := Lib.hid (fun W => abs_any b W (by unfold infBits at hi; omega))
  have ho : FloatKind.f64.format.order b 9218868437227405311 = some (compare b 9218868437227405311) := ord_nat (Nat.le_of_lt hi) (by decide)
  have hc : (FloatKind.f64.format.order b 9218868437227405311 == some .gt) = false := by
    rw [ho, beq_eq_false_iff_ne, Ne, Option.some.injEq, Nat.compare_eq_gt]
    unfold infBits at hi; omega
  clear ho hi
  go_enter Try.func21, Try.ntmps21
  go_wp2_with (go_at_call 32; with_reducible (refine Calls.mono (HA.out _) ?_); rintro e w' ⟨rfl, rfl⟩)
  go_ret
  exact ⟨by rw [← hc]; rfl, rfl⟩
set_option maxHeartbeats 1600000 in
theorem isInf1_any (b : Nat) (w : World) (hi : b ≤ infBits) : Calls Try.prog 21 #[.float .f64 b, .int .i64 1] w fun e w' => e = .returned (.bool (b == infBits)) ∧ w' = w := by
  have ho : FloatKind.f64.format.order b 9218868437227405311 = some (compare b 9218868437227405311) := ord_nat hi (by decide)
  have hc : (FloatKind.f64.format.order b 9218868437227405311 == some .gt) = (b == infBits) := by
    rw [ho, Bool.eq_iff_iff, beq_iff_eq, beq_iff_eq, Option.some.injEq, Nat.compare_eq_gt]
    unfold infBits at hi ⊢; omega
  clear ho hi
  go_enter Try.func21, Try.ntmps21
  go_wp2
  go_ret
  exact ⟨by rw [← hc]; rfl, rfl⟩

set_option maxHeartbeats 3200000 in
set_option maxRecDepth 20000 in
theorem frexp_any (b : Nat) (w : World) (h0 : 0 < b) (hi : b < infBits) : Calls Try.prog 45 #[.float .f64 b] w fun e w' => e = .returned (.tuple #[.float .f64 (fracB b), .int .i64 (topN b + 1)]) ∧ w' = w := by
  have HI := Lib.hid (fun W => isInf0_any b W hi)
  have HN := Lib.hid (fun W => isNaN_no b W (Nat.le_of_lt hi))
  have HM := Lib.hid (fun W => normalize_any b W h0 hi)
  obtain ⟨q1, q2, q3, q4⟩ := norm_parts h0 hi
  have ho : FloatKind.f64.format.order b 0 = some (compare b 0) := ord_nat (Nat.le_of_lt hi) (by decide)
  rw [Nat.compare_eq_gt.2 h0] at ho
  obtain ⟨p1, p2⟩ := part_bounds h0 hi
  have hne : -52 ≤ normE b ∧ normE b ≤ 0 := by unfold normE; split <;> omega
  have hF : fracB b = 1022 * 4503599627370496 + (partN b - 4503599627370496) := by unfold fracB; omega
  have HF := Lib.hid hF
  obtain ⟨n, hn⟩ : ∃ n, n = normB b := ⟨_, rfl⟩
  obtain ⟨x, hx⟩ : ∃ n, n = normE b := ⟨_, rfl⟩
  obtain ⟨t, ht⟩ : ∃ t, t = partN b - 4503599627370496 := ⟨_, rfl⟩
  obtain ⟨T, hT⟩ : ∃ t, t = topN b := ⟨_, rfl⟩
  rw [← hn, ← hx] at HM
  rw [← hn] at q1 q2 q3 q4
  rw [← hx] at q2 hne
  rw [← hT] at q2 ⊢
  rw [← ht] at q1 HF
  have hcb := callBits n
  have hl := bits_low (x := n) (by omega)
  rw [q1] at hl
  have hp := bits_put (t := t) (by omega) 1022 (by decide)
  rw [← HF.out] at hp
  have hp' : bits .or .u64 (t : Int) 4602678819172646912 = ((fracB b : Nat) : Int) := hp
  have hcf := callFrom (fracB b)
  obtain ⟨E, hE⟩ : ∃ E, E = n / 4503599627370496 := ⟨_, rfl⟩
  rw [← hE] at q2 q3 q4
  have g1 : (n : Int) / 4503599627370496 = (E : Int) := by omega
  have g2 := bits_field (x := E) (by omega)
  have g3 : IntKind.i64.wrap (E : Int) = (E : Int) := IntWalk.i64_in _ (by omega)
  have g4 : IntKind.i64.wrap ((E : Int) - 1023) = (E : Int) - 1023 := IntWalk.i64_in _ (by omega)
  have g5 : IntKind.i64.wrap ((E : Int) - 1023 + 1) = (E : Int) - 1023 + 1 := IntWalk.i64_in _ (by omega)
  have g6 : IntKind.i64.wrap (x + ((E : Int) - 1023 + 1)) = T + 1 := by rw [IntWalk.i64_in _ (by omega)]; omega
  clear h0 hi q1 q2 q3 q4 p1 p2 hne hF HF hn hx ht hT hE hp
  obtain ⟨F, hF⟩ : ∃ F, F = fracB b := ⟨_, rfl⟩
  rw [← hF] at hp' hcf ⊢
  clear hF
  go_enter Try.func45, Try.ntmps45
  go_wp2_with (first
    | (go_at_call 21; with_reducible (refine Calls.mono (HI.out _) ?_); rintro e w' ⟨rfl, rfl⟩)
    | (go_at_call 39; with_reducible (refine Calls.mono (HN.out _) ?_); rintro e w' ⟨rfl, rfl⟩)
    | (go_at_call 50; with_reducible (refine Calls.mono (HM.out _) ?_); rintro e w' ⟨rfl, rfl⟩))
  go_ret2
  exact ⟨rfl, rfl⟩
set_option maxHeartbeats 1600000 in
theorem Frexp_any (b : Nat) (w : World) (h0 : 0 < b) (hi : b < infBits) : Calls Try.prog 40 #[.float .f64 b] w fun e w' => e = .returned (.tuple #[.float .f64 (fracB b), .int .i64 (topN b + 1)]) ∧ w' = w := by
  have H := Lib.hid (fun W => frexp_any b W h0 hi)
  clear h0 hi
  go_enter Try.func40, Try.ntmps40
  go_wp2_with (go_at_call 45; with_reducible (refine Calls.mono (H.out _) ?_); rintro e w' ⟨rfl, rfl⟩)
  go_ret2
  exact ⟨rfl, rfl⟩

/-! ### Ldexp, of a fraction, as a number of 53 bits -/
set_option maxHeartbeats 3200000 in
set_option maxRecDepth 20000 in
theorem ldexp_any (t : Nat) (w : World) (ht : t < 4503599627370496) : Calls Try.prog 47 #[.float .f64 (4602678819172646912 + t), .int .i64 53] w fun e w' => e = .returned (.float .f64 (4841369599423283200 + t)) ∧ w' = w := by
  have h0 : 0 < 4602678819172646912 + t := by omega
  have hi : 4602678819172646912 + t < infBits := by unfold infBits; omega
  have HI := Lib.hid (fun W => isInf0_any _ W hi)
  have HN := Lib.hid (fun W => isNaN_no _ W (Nat.le_of_lt hi))
  have HM := fun W => normalize_any _ W h0 hi
  have e1 : normB (4602678819172646912 + t) = 4602678819172646912 + t := by unfold normB; rw [if_neg (by omega)]
  have e2 : normE (4602678819172646912 + t) = 0 := by unfold normE; rw [if_neg (by omega)]
  rw [e1, e2] at HM
  replace HM := Lib.hid HM
  have ho : FloatKind.f64.format.order (4602678819172646912 + t) 0 = some (compare (4602678819172646912 + t) 0) := ord_nat (Nat.le_of_lt hi) (by decide)
  rw [Nat.compare_eq_gt.2 h0] at ho
  have hcb := callBits (4602678819172646912 + t)
  have hl := bits_low (x := 4602678819172646912 + t) (by omega)
  rw [show (4602678819172646912 + t) % 4503599627370496 = t by omega] at hl
  have hp := bits_put (t := t) (by omega) 1075 (by decide)
  rw [show 1075 * 4503599627370496 + t = 4841369599423283200 + t by omega] at hp
  have hp' : bits .or .u64 (t : Int) 4841369599423283200 = ((4841369599423283200 + t : Nat) : Int) := hp
  have hcf := callFrom (4841369599423283200 + t)
  have hm := fun W : World => run_float_arith (P := Try.prog) W .mul 35 .f64 4607182418800017408 (4841369599423283200 + t) (4841369599423283200 + t) (one_mul53 ht)
  obtain ⟨n, hn⟩ : ∃ n, n = 4602678819172646912 + t := ⟨_, rfl⟩
  obtain ⟨F, hF⟩ : ∃ n, n = 4841369599423283200 + t := ⟨_, rfl⟩
  rw [← hn] at HI HN HM ho hcb hl ⊢
  rw [← hF] at hp' hcf hm ⊢
  have g1 : (n : Int) / 4503599627370496 = 1022 := by omega
  have g2 : bits .and .i64 1022 2047 = 1022 := by decide
  clear h0 hi e1 e2 hp hn hF ht
  go_enter Try.func47, Try.ntmps47
  go_wp2_with (first
    | (go_at_call 21; with_reducible (refine Calls.mono (HI.out _) ?_); rintro e w' ⟨rfl, rfl⟩)
    | (go_at_call 39; with_reducible (refine Calls.mono (HN.out _) ?_); rintro e w' ⟨rfl, rfl⟩)
    | (go_at_call 50; with_reducible (refine Calls.mono (HM.out _) ?_); rintro e w' ⟨rfl, rfl⟩))
  go_ret
  exact ⟨rfl, rfl⟩
set_option maxHeartbeats 1600000 in
theorem Ldexp_any (t : Nat) (w : World) (ht : t < 4503599627370496) : Calls Try.prog 41 #[.float .f64 (4602678819172646912 + t), .int .i64 53] w fun e w' => e = .returned (.float .f64 (4841369599423283200 + t)) ∧ w' = w := by
  have H := Lib.hid (fun W => ldexp_any t W ht)
  obtain ⟨n, hn⟩ : ∃ n, n = 4602678819172646912 + t := ⟨_, rfl⟩
  obtain ⟨F, hF⟩ : ∃ n, n = 4841369599423283200 + t := ⟨_, rfl⟩
  rw [← hn, ← hF] at H ⊢
  clear hn hF ht
  go_enter Try.func41, Try.ntmps41
  go_wp2_with (go_at_call 47; with_reducible (refine Calls.mono (H.out _) ?_); rintro e w' ⟨rfl, rfl⟩)
  go_ret
  exact ⟨rfl, rfl⟩

end Go.Proofs.Ytcbimgdgodeppaa
