/-
  RateFixed: any number as a rate.
-/
import Derived.Test.YtcliampjgbmeaaaRateSpec
import Derived.Test.YtcliampjgbmeaaaChecked
import Derived.Tactics
import Derived.Tactics2
import Derived.LoopTactic
import Derived.OpenShut
import Derived.WalkLawsBesides
import Derived.BigQuiet
namespace Go.Proofs.Ytcliampjgbmeaaa
open Go.RowKit

theorem callBits9 (b : Nat) (w : World) : (callFunc 19 #[.float .f64 b]).run Try.prog w = .ok (.value (.int .u64 (b : Int))) w := by kernel_rfl
theorem callFrom9 (b : Nat) (w : World) : (callFunc 14 #[.int .u64 (b : Int)]).run Try.prog w = .ok (.value (.float .f64 b)) w := by kernel_rfl

theorem fixed_no {f : Nat} (h : f = 0 ∨ 9218868437227405312 < f) : fixedN f = 0 := by
  have hp : posN f = false := by
    unfold posN infBits
    rw [Bool.and_eq_false_iff, decide_eq_false_iff_not, decide_eq_false_iff_not]
    omega
  unfold fixedN
  rw [hp]; rfl
theorem pos_of {f : Nat} (h0 : f ≠ 0) (h1 : f ≤ 9218868437227405312) : posN f = true := by
  unfold posN infBits
  rw [Bool.and_eq_true, decide_eq_true_eq, decide_eq_true_eq]
  omega
theorem fixed_most {f : Nat} (h0 : f ≠ 0) (h1 : f ≤ 9218868437227405312) (h : 1039 ≤ f / 4503599627370496) : fixedN f = 4294967296 := by
  unfold fixedN
  rw [pos_of h0 h1, if_pos rfl, if_pos h]
theorem fixed_mid {f : Nat} (h0 : f ≠ 0) (h1 : f ≤ 9218868437227405312) (h : ¬ 1039 ≤ f / 4503599627370496) : fixedN f = if f / 4503599627370496 = 0 then scaleF (f % 4503599627370496) (-1058) else scaleF (f % 4503599627370496 + 4503599627370496) ((f / 4503599627370496 : Nat) - 1059) := by
  unfold fixedN
  rw [pos_of h0 h1, if_pos rfl, if_neg h]
  have hm : f / 4503599627370496 % 2048 = f / 4503599627370496 := by omega
  unfold mantN expoN
  rw [hm]
  by_cases hd : f / 4503599627370496 = 0
  · rw [if_pos hd, if_pos hd, if_pos hd]; rfl
  · rw [if_neg hd, if_neg hd, if_neg hd]
    congr 1
    omega

set_option maxHeartbeats 800000 in
theorem refFixed_any (f : Nat) (w : World) (hf : f < 18446744073709551616) : Calls Try.prog 17 #[.float .f64 f] w fun e w' => e = .returned (.int .i64 (fixedN f : Nat)) ∧ w = w' := by
  have hcb := callBits9 f
  by_cases h0 : f = 0
  · have e := Lib.hid (fixed_no (f := f) (.inl h0))
    have g0 : (f : Int) = 0 := by omega
    clear h0
    go_enter Try.func17, Try.ntmps17
    go_wp2
    go_ret
    exact ⟨by rw [e.out]; rfl, rfl⟩
  · by_cases h1 : 9218868437227405312 < f
    · have e := Lib.hid (fixed_no (f := f) (.inr h1))
      have g0 : ¬ (f : Int) = 0 := by omega
      have g1 : (9218868437227405312 : Int) < (f : Int) := by omega
      clear h0 h1
      go_enter Try.func17, Try.ntmps17
      go_wp2
      go_ret
      exact ⟨by rw [e.out]; rfl, rfl⟩
    · have g0 : ¬ (f : Int) = 0 := by omega
      have g1 : ¬ (9218868437227405312 : Int) < (f : Int) := by omega
      have q1 : (f : Int).tmod 4503599627370496 = ((f % 4503599627370496 : Nat) : Int) := by rw [Int.tmod_eq_emod_of_nonneg (by omega)]; omega
      have q2 : (f : Int) / 4503599627370496 = ((f / 4503599627370496 : Nat) : Int) := by omega
      have q5 : (f : Int) % 4503599627370496 = ((f % 4503599627370496 : Nat) : Int) := by omega
      by_cases h2 : 1039 ≤ f / 4503599627370496
      · have e := Lib.hid (fixed_most h0 (by omega) h2)
        obtain ⟨d, hd⟩ : ∃ d, d = f / 4503599627370496 := ⟨_, rfl⟩
        obtain ⟨m, hm⟩ : ∃ m, m = f % 4503599627370496 := ⟨_, rfl⟩
        have hd2 : d < 4096 := by omega
        rw [← hd] at q2 h2
        rw [← hm] at q1 q5
        have v1 : IntKind.i64.wrap (d : Int) = (d : Int) := IntWalk.i64_in _ (by omega)
        have g2 : (1039 : Int) ≤ (d : Int) := by omega
        clear hd hm h0 h1
        go_enter Try.func17, Try.ntmps17
        go_wp2
        go_ret
        exact ⟨by rw [e.out]; rfl, rfl⟩
      · have hR := fixed_mid h0 (by omega) h2
        obtain ⟨R, hRR⟩ : ∃ R, R = fixedN f := ⟨_, rfl⟩
        rw [← hRR] at hR ⊢
        obtain ⟨d, hd⟩ : ∃ d, d = f / 4503599627370496 := ⟨_, rfl⟩
        obtain ⟨m, hm⟩ : ∃ m, m = f % 4503599627370496 := ⟨_, rfl⟩
        have hm2 : m < 4503599627370496 := by omega
        rw [← hd] at q2 h2 hR
        rw [← hm] at q1 q5 hR
        have v1 : IntKind.i64.wrap (d : Int) = (d : Int) := IntWalk.i64_in _ (by omega)
        have g2 : ¬ (1039 : Int) ≤ (d : Int) := by omega
        clear hd hm h0 h1 hRR
        by_cases h3 : d = 0
        · rw [if_pos h3] at hR
          replace hR := Lib.hid hR
          have g3 : ¬ (0 : Int) < (d : Int) := by omega
          clear h3
          go_enter Try.func17, Try.ntmps17
          go_wp2
          go_loop [4, 5] (fun v i => ∃ (m : Nat) (e : Int), v = .int .u64 (m : Int) ∧ i = .int .i64 e ∧ R = scaleF m e ∧ m < 9007199254740992 ∧ -5000 ≤ e ∧ e ≤ 0) (fun _ i => (-(intOf i)).toNat)
          case atStart => exact ⟨m, -1058, by first | rfl | (rw [Int.natCast_add]; rfl), by first | rfl | (congr 1; omega), hR.out, by omega, by omega, by omega⟩
          case round =>
            clear hR q1 q2 q5 v1 g2 g3 hm2 h2
            obtain ⟨m, e, rfl, rfl, hR, hm1, hx1, hx2⟩ := hrel
            by_cases h1 : e < 0
            · by_cases h2 : 0 < m
              · have ht : R = scaleF (m / 2) (e + 1) := by rw [scaleF_half h1]; exact hR
                have g1 : (0 : Int) < (m : Int) := by omega
                have g2 : (m : Int).tdiv 2 = ((m / 2 : Nat) : Int) := by rw [Int.tdiv_eq_ediv_of_nonneg (by omega)]; omega
                have g3 : (m : Int) / 2 = ((m / 2 : Nat) : Int) := by omega
                have HT : Hid (R = scaleF (m / 2) (e + 1) ∧ m / 2 < 9007199254740992) := ⟨ht, by omega⟩
                obtain ⟨k, hk⟩ : ∃ k, k = m / 2 := ⟨_, rfl⟩
                rw [← hk] at g2 g3 HT
                have v1 : IntKind.u64.wrap (k : Int) = (k : Int) := IntWalk.u64_in _ (by omega)
                clear ht hR hk
                go_wp2
                go_round
                case rel => exact ⟨k, e + 1, rfl, rfl, HT.out.1, HT.out.2, by omega, by omega⟩
                case measure => simp [intOf]; omega
              · have hm0 : m = 0 := by omega
                subst hm0
                rw [scaleF_none] at hR
                have HR := Lib.hid hR
                clear hR
                go_wp2
                go_ret
                exact ⟨by rw [HR.out]; rfl, rfl⟩
            · have he0 : e = 0 := by omega
              subst he0
              rw [scaleF_zero] at hR
              have HR := Lib.hid hR
              have v1 : IntKind.i64.wrap (m : Int) = (m : Int) := IntWalk.i64_in _ (by omega)
              clear hR
              go_wp2
              go_ret
              exact ⟨by rw [HR.out]; rfl, rfl⟩
        · rw [if_neg h3] at hR
          replace hR := Lib.hid hR
          have g3 : (0 : Int) < (d : Int) := by omega
          clear h3
          go_enter Try.func17, Try.ntmps17
          go_wp2
          go_loop [4, 5] (fun v i => ∃ (m : Nat) (e : Int), v = .int .u64 (m : Int) ∧ i = .int .i64 e ∧ R = scaleF m e ∧ m < 9007199254740992 ∧ -5000 ≤ e ∧ e ≤ 0) (fun _ i => (-(intOf i)).toNat)
          case atStart => exact ⟨m + 4503599627370496, (d : Int) - 1059, by first | rfl | (rw [Int.natCast_add]; rfl), by first | rfl | (congr 1; omega), hR.out, by omega, by omega, by omega⟩
          case round =>
            clear hR q1 q2 q5 v1 g2 g3 hm2 h2
            obtain ⟨m, e, rfl, rfl, hR, hm1, hx1, hx2⟩ := hrel
            by_cases h1 : e < 0
            · by_cases h2 : 0 < m
              · have ht : R = scaleF (m / 2) (e + 1) := by rw [scaleF_half h1]; exact hR
                have g1 : (0 : Int) < (m : Int) := by omega
                have g2 : (m : Int).tdiv 2 = ((m / 2 : Nat) : Int) := by rw [Int.tdiv_eq_ediv_of_nonneg (by omega)]; omega
                have g3 : (m : Int) / 2 = ((m / 2 : Nat) : Int) := by omega
                have HT : Hid (R = scaleF (m / 2) (e + 1) ∧ m / 2 < 9007199254740992) := ⟨ht, by omega⟩
                obtain ⟨k, hk⟩ : ∃ k, k = m / 2 := ⟨_, rfl⟩
                rw [← hk] at g2 g3 HT
                have v1 : IntKind.u64.wrap (k : Int) = (k : Int) := IntWalk.u64_in _ (by omega)
                clear ht hR hk
                go_wp2
                go_round
                case rel => exact ⟨k, e + 1, rfl, rfl, HT.out.1, HT.out.2, by omega, by omega⟩
                case measure => simp [intOf]; omega
              · have hm0 : m = 0 := by omega
                subst hm0
                rw [scaleF_none] at hR
                have HR := Lib.hid hR
                clear hR
                go_wp2
                go_ret
                exact ⟨by rw [HR.out]; rfl, rfl⟩
            · have he0 : e = 0 := by omega
              subst he0
              rw [scaleF_zero] at hR
              have HR := Lib.hid hR
              have v1 : IntKind.i64.wrap (m : Int) = (m : Int) := IntWalk.i64_in _ (by omega)
              clear hR
              go_wp2
              go_ret
              exact ⟨by rw [HR.out]; rfl, rfl⟩

set_option maxHeartbeats 800000 in
/-- RateFixed. -/
theorem rateFixed_go (f : Nat) (w : World) (HS : RateSpec w) (hf : f < 18446744073709551616) : Calls Try.prog 3 #[.int .u64 (f : Int)] w fun e w' => e = .returned (.bool true) ∧ Below w.heap.size w w' := by
  have HA := Lib.hid (rateAwake HS)
  have H1 := Lib.hid (fun (W : World) (h : Below w.heap.size w W) => HS.fixed f W h hf)
  have H2 := Lib.hid (fun (W : World) => refFixed_any f W hf)
  have hcb := callFrom9 f
  obtain ⟨R, hR⟩ : ∃ R, R = fixedN f := ⟨_, rfl⟩
  rw [← hR] at H1 H2
  have hb0 : Below w.heap.size w w := Below.refl _ _
  clear HS hR hf
  go_enter Try.func3, Try.ntmps3
  go_wp2_with (first
    | (go_at_call 15; with_reducible (refine Calls.mono (HA.out _ hb0) ?_); rintro e w1 ⟨rfl, hb1⟩; have hx1 := chain hb0 hb1)
    | (go_at_call 16; with_reducible (refine Calls.mono (H1.out _ hx1) ?_); rintro e w2 ⟨rfl, hb2⟩; have hx2 := chain hx1 hb2)
    | (go_at_call 17; with_reducible (refine Calls.mono (H2.out _) ?_); rintro e w3 ⟨rfl, rfl⟩))
  go_ret
  exact ⟨rfl, hx2⟩

end Go.Proofs.Ytcliampjgbmeaaa
