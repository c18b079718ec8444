/-
  RateFloat: a rate that was in 65536ths is that number; back it is the rate.
-/
import Derived.Test.YtcliampjgbmeaaaRateFixed
import Derived.Test.YtcliampjgbmeaaaRateFloatN
namespace Go.Proofs.Ytcliampjgbmeaaa
open Go.RowKit

theorem floatN_lt (n : Int) : floatN n < 18446744073709551616 := by
  have h := floatBits_wf (op := .quo) (k := .f64) (x := floatOfInt .f64 n) (y := 4679240012837945344) (r := floatN n) (float_div n)
  simpa [Lit.wf] using h

set_option maxHeartbeats 800000 in
theorem rateFloat_go (n : Int) (w : World) (HS : RateSpec w) (hn : I64 n) : Calls Try.prog 4 #[.int .i64 n] w fun e w' => e = .returned (.bool true) ∧ Below w.heap.size w w' := by
  have HA := Lib.hid (rateAwake HS)
  have H1 := Lib.hid (fun (W : World) (h : Below w.heap.size w W) => HS.float n W h hn)
  have H2 := Lib.hid (fun (W : World) (h : Below w.heap.size w W) => HS.fixed (floatN n) W h (floatN_lt n))
  have hcb := callBits9 (floatN n)
  have hfm := fun W : World => run_float_arith (P := Try.prog) W .quo 23 .f64 (floatOfInt .f64 n) 4679240012837945344 (floatN n) (float_div n)
  by_cases h1 : 0 ≤ n ∧ n ≤ 4294967296
  · obtain ⟨m, rfl⟩ := Int.eq_ofNat_of_zero_le h1.1
    have hff : fixedN (floatN (m : Int)) = m := fixed_float (by omega)
    rw [hff] at H2
    obtain ⟨g1, g2⟩ := h1
    obtain ⟨y, hy⟩ : ∃ y, y = floatOfInt .f64 (m : Int) := ⟨_, rfl⟩
    obtain ⟨F, hF⟩ : ∃ F, F = floatN (m : Int) := ⟨_, rfl⟩
    have hfx := hy.symm
    rw [← hF] at H1 H2 hcb hfm
    rw [← hy] at hfm
    have hb0 : Below w.heap.size w w := Below.refl _ _
    clear HS hff hy hF hn
    go_enter Try.func4, Try.ntmps4
    go_wp2_with (first
      | (go_at_call 18; with_reducible (refine Calls.mono (H1.out _ hb0) ?_); rintro e w1 ⟨rfl, hb1⟩; have hx1 := chain hb0 hb1)
      | (go_at_call 16; with_reducible (refine Calls.mono (H2.out _ hx1) ?_); rintro e w2 ⟨rfl, hb2⟩; have hx2 := chain hx1 hb2)
      | (go_at_call 15; with_reducible (refine Calls.mono (HA.out _ hx2) ?_); rintro e w3 ⟨rfl, hb3⟩; have hx3 := chain hx2 hb3))
    go_ret
    exact ⟨rfl, hx3⟩
  · obtain ⟨y, hy⟩ : ∃ y, y = floatOfInt .f64 n := ⟨_, rfl⟩
    obtain ⟨F, hF⟩ : ∃ F, F = floatN n := ⟨_, rfl⟩
    have hfx := hy.symm
    rw [← hF] at H1 hcb hfm
    rw [← hy] at hfm
    have hb0 : Below w.heap.size w w := Below.refl _ _
    clear HS H2 hy hF hn
    by_cases h2 : 0 ≤ n
    · have h3 : ¬ n ≤ 4294967296 := fun h => h1 ⟨h2, h⟩
      clear h1
      go_enter Try.func4, Try.ntmps4
      go_wp2_with (first
        | (go_at_call 18; with_reducible (refine Calls.mono (H1.out _ hb0) ?_); rintro e w1 ⟨rfl, hb1⟩; have hx1 := chain hb0 hb1)
        | (go_at_call 15; with_reducible (refine Calls.mono (HA.out _ hx1) ?_); rintro e w3 ⟨rfl, hb3⟩; have hx3 := chain hx1 hb3))
      go_ret
      exact ⟨rfl, hx3⟩
    · clear h1
      go_enter Try.func4, Try.ntmps4
      go_wp2_with (first
        | (go_at_call 18; with_reducible (refine Calls.mono (H1.out _ hb0) ?_); rintro e w1 ⟨rfl, hb1⟩; have hx1 := chain hb0 hb1)
        | (go_at_call 15; with_reducible (refine Calls.mono (HA.out _ hx1) ?_); rintro e w3 ⟨rfl, hb3⟩; have hx3 := chain hx1 hb3))
      go_ret
      exact ⟨rfl, hx3⟩

end Go.Proofs.Ytcliampjgbmeaaa
