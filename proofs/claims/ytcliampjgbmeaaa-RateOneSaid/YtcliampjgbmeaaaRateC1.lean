/-
  rate's Fixed and Float.
-/
import Derived.Test.YtcliampjgbmeaaaRateF1
import Derived.Test.YtcliampjgbmeaaaRateFloat
namespace Go.Proofs.Ytcliampjgbmeaaa
open Go.RowKit Ieee

set_option maxHeartbeats 800000 in
theorem rIsNaN_any (b : Nat) (w : World) : Calls Try.prog 28 #[.float .f64 b] w fun e w' => e = .returned (.bool (Ieee.double.order b b != some .eq)) ∧ w' = w := by
  go_enter Try.func28, Try.ntmps28
  go_wp2
  go_ret
  exact ⟨rfl, rfl⟩
theorem cmp_eq9 (b : Nat) : compare b b = Ordering.eq := Nat.compare_eq_eq.2 rfl
theorem conv_fixed (g R : Nat) (w : World) (h : (Ieee.double.read g).toInt .zero = some ((R : Nat) : Int)) (hR : R ≤ 4294967296) : (convert 23 3 (.float .f64 g)).run Try.prog w = .ok (.int .i64 (R : Int)) w := by
  refine run_convert_float_int w 23 3 .f64 .i64 _ _ (by rw [Try.underlying23]; rfl) Try.underlying3 ?_
  have hd : (FloatKind.f64.decode g) = Ieee.double.read g := rfl
  unfold floatToIntVal
  rw [hd, h]
  have hb : IntKind.i64.min ≤ (R : Int) ∧ (R : Int) ≤ IntKind.i64.max := by
    have e1 : IntKind.i64.min = -9223372036854775808 := by decide
    have e2 : IntKind.i64.max = 9223372036854775807 := by decide
    rw [e1, e2]; omega
  simp only [hb]
  simp

set_option maxHeartbeats 1600000 in
theorem fixed_any (f : Nat) (w : World) (hf : f < 18446744073709551616) : Calls Try.prog 16 #[.float .f64 f] w fun e w' => e = .returned (.int .i64 (fixedN f : Nat)) ∧ w' = w := by
  have HN := Lib.hid (fun W => rIsNaN_any f W)
  by_cases hp : posN f = true
  · have hpp : 0 < f ∧ f ≤ infBits := by simpa [posN] using hp
    obtain ⟨p0, p1⟩ := hpp
    have h1 : (Ieee.double.order f f != some .eq) = false := by rw [ord_nat p1 p1, cmp_eq9]; rfl
    have ho : FloatKind.f64.format.order f 0 = some .gt := by
      rw [show FloatKind.f64.format = Ieee.double from rfl, ord_nat p1 (by decide), Nat.compare_eq_gt.2 p0]
    have hq : FloatKind.f64.format.order f 4679240012837945344 = some (compare f 4679240012837945344) := ord_nat p1 (by decide)
    rw [h1] at HN
    by_cases hg : 4679240012837945344 < f
    · rw [Nat.compare_eq_gt.2 hg] at hq
      have HE : Hid (fixedN f = 4294967296) := by
        unfold Hid fixedN
        rw [hp, if_pos rfl, if_pos (by omega)]
      clear hp p0 p1 h1 hf hg
      go_enter Try.func16, Try.ntmps16
      go_wp2_with (go_at_call 28; with_reducible (refine Calls.mono (HN.out _) ?_); rintro e w' ⟨rfl, rfl⟩)
      go_ret
      exact ⟨by rw [HE.out]; rfl, rfl⟩
    · obtain ⟨g, m1, m2, m3⟩ := fixed_mul p0 (Nat.le_of_not_lt hg)
      have hcv := fun W => conv_fixed g (fixedN f) W m2 m3
      have hm := fun W : World => run_float_arith (P := Try.prog) W .mul 23 .f64 4679240012837945344 f g m1
      obtain ⟨R, hR⟩ : ∃ R, R = fixedN f := ⟨_, rfl⟩
      rw [← hR] at hcv ⊢
      have hle : compare f 4679240012837945344 = .lt ∨ compare f 4679240012837945344 = .eq := by
        rcases Nat.lt_trichotomy f 4679240012837945344 with g | g | g
        · exact .inl (Nat.compare_eq_lt.2 g)
        · exact .inr (Nat.compare_eq_eq.2 g)
        · exact absurd g hg
      clear hp p0 p1 h1 hf hg m1 m2 m3 hR
      rcases hle with hc | hc
      · rw [hc] at hq
        clear hc
        go_enter Try.func16, Try.ntmps16
        go_wp2_with (go_at_call 28; with_reducible (refine Calls.mono (HN.out _) ?_); rintro e w' ⟨rfl, rfl⟩)
        go_ret
        exact ⟨rfl, rfl⟩
      · rw [hc] at hq
        clear hc
        go_enter Try.func16, Try.ntmps16
        go_wp2_with (go_at_call 28; with_reducible (refine Calls.mono (HN.out _) ?_); rintro e w' ⟨rfl, rfl⟩)
        go_ret
        exact ⟨rfl, rfl⟩
  · rw [Bool.not_eq_true] at hp
    have h := ord_none hf hp
    have HE : Hid (fixedN f = 0) := by unfold Hid fixedN; rw [hp]; rfl
    cases h1 : (Ieee.double.order f f != some .eq) with
    | true =>
      rw [h1] at HN
      clear hp h h1 hf
      go_enter Try.func16, Try.ntmps16
      go_wp2_with (go_at_call 28; with_reducible (refine Calls.mono (HN.out _) ?_); rintro e w' ⟨rfl, rfl⟩)
      go_ret
      exact ⟨by rw [HE.out]; rfl, rfl⟩
    | false =>
      rw [h1] at HN h
      rw [Bool.false_or] at h
      have h2 : (FloatKind.f64.format.order f 0 == some .lt || FloatKind.f64.format.order f 0 == some .eq) = true := h
      rw [Bool.or_eq_true, beq_iff_eq, beq_iff_eq] at h2
      clear hp h h1 hf
      rcases h2 with ho | ho
      · go_enter Try.func16, Try.ntmps16
        go_wp2_with (go_at_call 28; with_reducible (refine Calls.mono (HN.out _) ?_); rintro e w' ⟨rfl, rfl⟩)
        go_ret
        exact ⟨by rw [HE.out]; rfl, rfl⟩
      · go_enter Try.func16, Try.ntmps16
        go_wp2_with (go_at_call 28; with_reducible (refine Calls.mono (HN.out _) ?_); rintro e w' ⟨rfl, rfl⟩)
        go_ret
        exact ⟨by rw [HE.out]; rfl, rfl⟩

set_option maxHeartbeats 800000 in
theorem float_any (n : Int) (w : World) : Calls Try.prog 18 #[.int .i64 n] w fun e w' => e = .returned (.float .f64 (floatN n)) ∧ w' = w := by
  have hfm := fun W : World => run_float_arith (P := Try.prog) W .quo 23 .f64 (floatOfInt .f64 n) 4679240012837945344 (floatN n) (float_div n)
  obtain ⟨y, hy⟩ : ∃ y, y = floatOfInt .f64 n := ⟨_, rfl⟩
  obtain ⟨F, hF⟩ : ∃ F, F = floatN n := ⟨_, rfl⟩
  have hfx := hy.symm
  rw [← hF] at hfm ⊢
  rw [← hy] at hfm
  clear hy hF
  go_enter Try.func18, Try.ntmps18
  go_wp2
  go_ret
  exact ⟨rfl, rfl⟩

end Go.Proofs.Ytcliampjgbmeaaa
