/-
  The document's own numbers by their bits (stowageref08): what the smaller functions answer; nothing is changed.
-/
import Derived.Test.YtcbimgdgodeppaaWeighScale
import Derived.Test.YtcbimgdgodeppaaWords
import Derived.Test.YtcbimgdgodeppaaChecked
import Derived.Tactics
import Derived.Tactics2
import Derived.LoopTactic
import Derived.OpenShut
import Derived.WalkLawsBesides
import Derived.BigQuiet
namespace Go.Proofs.Ytcbimgdgodeppaa
open Go.RowKit

theorem callBits (b : Nat) (w : World) : (callFunc 31 #[.float .f64 b]).run Try.prog w = .ok (.value (.int .u64 (b : Int))) w := by kernel_rfl
theorem callFrom (b : Nat) (w : World) : (callFunc 20 #[.int .u64 (b : Int)]).run Try.prog w = .ok (.value (.float .f64 b)) w := by kernel_rfl

set_option maxHeartbeats 800000 in
/-- 'parts'. -/
theorem refParts_any (b : Nat) (w : World) (hb : b < 18446744073709551616) : Calls Try.prog 35 #[.float .f64 b] w fun e w' => e = .returned (.tuple #[.int .u64 (mantN b : Nat), .int .i64 (expoN b)]) ∧ w = w' := by
  have hcb := callBits b
  have hE : mantN b = if b / 4503599627370496 % 2048 = 0 then b % 4503599627370496 else b % 4503599627370496 + 4503599627370496 := rfl
  have hX : expoN b = if b / 4503599627370496 % 2048 = 0 then -1074 else ((b / 4503599627370496 % 2048 : Nat) : Int) - 1075 := rfl
  obtain ⟨E, hEe⟩ : ∃ E, E = b / 4503599627370496 % 2048 := ⟨_, rfl⟩
  rw [← hEe] at hE hX
  have q1 : (b : Int).tmod 4503599627370496 = ((b % 4503599627370496 : Nat) : Int) := by rw [Int.tmod_eq_emod_of_nonneg (by omega)]; omega
  have q2 : (b : Int) / 4503599627370496 = ((b / 4503599627370496 : Nat) : Int) := by omega
  have q3 : ((b / 4503599627370496 : Nat) : Int).tmod 2048 = (E : Int) := by rw [Int.tmod_eq_emod_of_nonneg (by omega)]; omega
  have q4 : ((b / 4503599627370496 : Nat) : Int) % 2048 = (E : Int) := by omega
  have q5 : (b : Int) % 4503599627370496 = ((b % 4503599627370496 : Nat) : Int) := by omega
  have hm : b % 4503599627370496 < 4503599627370496 := Nat.mod_lt _ (by decide)
  have hq : b / 4503599627370496 < 4096 := by omega
  have hE2 : E < 2048 := by omega
  obtain ⟨m, hme⟩ : ∃ m, m = b % 4503599627370496 := ⟨_, rfl⟩
  obtain ⟨d, hde⟩ : ∃ d, d = b / 4503599627370496 := ⟨_, rfl⟩
  rw [← hme] at hE q1 q5 hm
  rw [← hde] at q2 q3 q4 hq
  by_cases h0 : E = 0
  · rw [if_pos h0] at hE hX
    have HE := Lib.hid hE
    have HX := Lib.hid hX
    have h1 : (E : Int) = 0 := by omega
    clear hE hX hEe hme hde
    go_enter Try.func35, Try.ntmps35
    go_wp2
    go_ret2
    exact ⟨by rw [HE.out, HX.out]; rfl, rfl⟩
  · rw [if_neg h0] at hE hX
    have HE := Lib.hid hE
    have HX := Lib.hid hX
    have h1 : ¬ (E : Int) = 0 := by omega
    clear hE hX hEe hme hde
    go_enter Try.func35, Try.ntmps35
    go_wp2
    go_ret2
    exact ⟨by rw [HE.out, HX.out]; rfl, rfl⟩

theorem refInf_any (b : Nat) (w : World) : Calls Try.prog 24 #[.float .f64 b] w fun e w' => e = .returned (.bool (infN b)) ∧ w = w' := by
  have hcb := callBits b
  have h : ((b : Int) == 9218868437227405312) = infN b := by
    unfold infN infBits
    rw [Bool.eq_iff_iff, beq_iff_eq, beq_iff_eq]; omega
  go_enter Try.func24, Try.ntmps24
  go_wp2
  go_ret
  exact ⟨by rw [← h]; rfl, rfl⟩
theorem refPos_any (b : Nat) (w : World) : Calls Try.prog 25 #[.float .f64 b] w fun e w' => e = .returned (.bool (posN b)) ∧ w = w' := by
  have hcb := callBits b
  by_cases h0 : 0 < b
  · by_cases h1 : b ≤ infBits
    · have hp : posN b = true := by simp [posN]; omega
      have g0 : (0 : Int) < (b : Int) := by omega
      have g1 : (b : Int) ≤ 9218868437227405312 := by unfold infBits at h1; omega
      have HP := Lib.hid hp
      clear hp h0 h1
      go_enter Try.func25, Try.ntmps25
      go_wp2
      go_ret
      exact ⟨by rw [HP.out]; rfl, rfl⟩
    · have hp : posN b = false := by simp [posN]; omega
      have g0 : (0 : Int) < (b : Int) := by omega
      have g1 : ¬ (b : Int) ≤ 9218868437227405312 := by unfold infBits at h1; omega
      have HP := Lib.hid hp
      clear hp h0 h1
      go_enter Try.func25, Try.ntmps25
      go_wp2
      go_ret
      exact ⟨by rw [HP.out]; rfl, rfl⟩
  · have hp : posN b = false := by simp [posN]; omega
    have g0 : ¬ (0 : Int) < (b : Int) := by omega
    have HP := Lib.hid hp
    clear hp h0
    go_enter Try.func25, Try.ntmps25
    go_wp2
    go_ret
    exact ⟨by rw [HP.out]; rfl, rfl⟩

theorem log2_half {m : Nat} (h : 1 < m) : m.log2 = (m / 2).log2 + 1 := by
  rw [Nat.log2_def m, if_pos (by omega)]
theorem log2_small {m : Nat} (h : ¬ 1 < m) : m.log2 = 0 := by
  rw [Nat.log2_def m, if_neg (by omega)]
theorem mant_bound (b : Nat) : mantN b < 9007199254740992 := mant_lt b
theorem expo_bound (b : Nat) : -1074 ≤ expoN b ∧ expoN b ≤ 972 := by
  unfold expoN
  split <;> omega
theorem log2_bound {m : Nat} (h : m < 9007199254740992) : m.log2 < 53 := by
  rcases Nat.eq_zero_or_pos m with h0 | h0
  · subst h0; decide
  · have := Nat.log2_self_le (n := m) (by omega)
    rcases Nat.lt_or_ge m.log2 53 with g | g
    · exact g
    · have := Nat.pow_le_pow_right (n := 2) (by decide) g
      omega

set_option maxHeartbeats 800000 in
/-- 'top'. -/
theorem refTop_any (b : Nat) (w : World) (hb : b < 18446744073709551616) : Calls Try.prog 26 #[.float .f64 b] w fun e w' => e = .returned (.int .i64 (topN b)) ∧ w = w' := by
  have HP := Lib.hid (fun W => refParts_any b W hb)
  have hm := mant_bound b
  obtain ⟨he1, he2⟩ := expo_bound b
  have hT : topN b = expoN b + ((mantN b).log2 : Nat) := rfl
  have hl := log2_bound hm
  obtain ⟨M, hM⟩ : ∃ M, M = mantN b := ⟨_, rfl⟩
  obtain ⟨E, hE⟩ : ∃ E, E = expoN b := ⟨_, rfl⟩
  simp only [← hM, ← hE] at HP hm he1 he2 hT hl
  have HT := Lib.hid hT
  clear hM hE hT
  go_enter Try.func26, Try.ntmps26
  go_wp2_with (go_at_call 35; with_reducible (refine Calls.mono (HP.out _) ?_); rintro e w' ⟨rfl, rfl⟩)
  go_loop [3, 4] (fun v i => ∃ (m : Nat) (e : Int), v = .int .u64 (m : Int) ∧ i = .int .i64 e ∧ m ≤ M ∧ e + (m.log2 : Nat) = E + (M.log2 : Nat) ∧ E ≤ e) (fun v _ => (intOf v).toNat)
  case atStart => exact ⟨M, E, rfl, rfl, Nat.le_refl _, rfl, Int.le_refl _⟩
  case round =>
    obtain ⟨m, e, rfl, rfl, hmM, hsum, hEe⟩ := hrel
    by_cases h1 : 1 < m
    · have hl2 := log2_half h1
      have g1 : (1 : Int) < (m : Int) := by omega
      have g2 : (m : Int).tdiv 2 = ((m / 2 : Nat) : Int) := by rw [Int.tdiv_eq_ediv_of_nonneg (by omega)]; omega
      have g3 : (m : Int) / 2 = ((m / 2 : Nat) : Int) := by omega
      have hlm : (m.log2 : Nat) < 53 := log2_bound (by omega)
      have g4 : e + 1 ≤ 2000 := by omega
      have g5 : -1074 ≤ e := by omega
      obtain ⟨k, hk⟩ : ∃ k, k = m / 2 := ⟨_, rfl⟩
      rw [← hk] at hl2 g2 g3
      have v1 : IntKind.u64.wrap (k : Int) = (k : Int) := IntWalk.u64_in _ (by omega)
      have R : Hid (k ≤ M ∧ e + 1 + (k.log2 : Nat) = E + (M.log2 : Nat) ∧ E ≤ e + 1) := ⟨by omega, by omega, by omega⟩
      have HK : Hid (k < m) := by unfold Hid; omega
      clear hk hl2 hsum hEe hmM hlm
      go_wp2
      go_round
      case rel => exact ⟨k, e + 1, rfl, rfl, R.out.1, R.out.2.1, R.out.2.2⟩
      case measure => have := HK.out; simp [intOf]; omega
    · have hl2 := log2_small h1
      have g1 : ¬ (1 : Int) < (m : Int) := by omega
      have R : Hid (topN b = e) := by unfold Hid; rw [HT.out]; omega
      clear hl2 hsum
      go_wp2
      go_ret
      exact ⟨by rw [R.out]; rfl, rfl⟩

set_option maxHeartbeats 800000 in
/-- 'scaled'. -/
theorem refScaled_any (b : Nat) (n : Int) (w : World) (hb : b < 18446744073709551616) (hn : -2000 ≤ n ∧ n ≤ 2000) (hs : scaledN b n < 4294967296) :
    Calls Try.prog 27 #[.float .f64 b, .int .i64 n] w fun e w' => e = .returned (.int .i64 (scaledN b n : Nat)) ∧ w = w' := by
  have HP := Lib.hid (fun W => refParts_any b W hb)
  have hm := mant_bound b
  obtain ⟨he1, he2⟩ := expo_bound b
  have hS : scaledN b n = scaleF (mantN b) (expoN b + n) := rfl
  obtain ⟨R, hR⟩ : ∃ R, R = scaledN b n := ⟨_, rfl⟩
  rw [← hR] at hs hS ⊢
  obtain ⟨M, hM⟩ : ∃ M, M = mantN b := ⟨_, rfl⟩
  obtain ⟨E, hE⟩ : ∃ E, E = expoN b := ⟨_, rfl⟩
  simp only [← hM, ← hE] at HP hm he1 he2 hS
  have HS := Lib.hid hS
  obtain ⟨hn1, hn2⟩ := hn
  clear hM hE hS hR
  go_enter Try.func27, Try.ntmps27
  go_wp2_with (go_at_call 35; with_reducible (refine Calls.mono (HP.out _) ?_); rintro e w' ⟨rfl, rfl⟩)
  go_loop [5, 6] (fun v i => ∃ (m : Nat) (e : Int), v = .int .u64 (m : Int) ∧ i = .int .i64 e ∧ R = scaleF m e ∧ m < 9007199254740992 ∧ -5000 ≤ e ∧ e ≤ 5000) (fun _ i => (intOf i).toNat)
  case atStart => exact ⟨M, E + n, rfl, rfl, HS.out, hm, by omega, by omega⟩
  case round =>
    obtain ⟨m, e, rfl, rfl, hR, hm1, hx1, hx2⟩ := hrel
    by_cases h1 : 0 < e
    · have hup := scaleF_up (m := m) (Int.le_of_lt h1)
      rw [← hR] at hup
      have ht : R = scaleF (m * 2) (e - 1) := by rw [scaleF_twice h1]; exact hR
      have v1 : IntKind.u64.wrap ((m : Int) * 2) = (m : Int) * 2 := IntWalk.u64_in _ (by omega)
      have HT : Hid (R = scaleF (m * 2) (e - 1) ∧ m * 2 < 9007199254740992) := ⟨ht, by omega⟩
      clear ht hR
      go_wp2
      go_round
      case rel => exact ⟨m * 2, e - 1, by first | rfl | (congr 1; omega) | (rw [Int.natCast_mul]; rfl), rfl, HT.out.1, HT.out.2, by omega, by omega⟩
      case measure => simp [intOf]; omega
    · have HR := Lib.hid hR
      clear hR HS
      go_wp2
      go_loop [5, 6] (fun v i => ∃ (m : Nat) (e : Int), v = .int .u64 (m : Int) ∧ i = .int .i64 e ∧ R = scaleF m e ∧ m < 9007199254740992 ∧ -5000 ≤ e ∧ e ≤ 0) (fun _ i => (-(intOf i)).toNat)
      case atStart => exact ⟨m, e, rfl, rfl, HR.out, hm1, hx1, by omega⟩
      case round =>
        clear HR h1 hm1 hx1 hx2
        obtain ⟨m, e, rfl, rfl, hR, hm1, hx1, hx2⟩ := hrel
        by_cases h1 : e < 0
        · by_cases h2 : 0 < m
          · have ht : R = scaleF (m / 2) (e + 1) := by rw [scaleF_half h1]; exact hR
            have g1 : (0 : Int) < (m : Int) := by omega
            have g2 : (m : Int).tdiv 2 = ((m / 2 : Nat) : Int) := by rw [Int.tdiv_eq_ediv_of_nonneg (by omega)]; omega
            have g3 : (m : Int) / 2 = ((m / 2 : Nat) : Int) := by omega
            have HT : Hid (R = scaleF (m / 2) (e + 1) ∧ m / 2 < 9007199254740992) := ⟨ht, by omega⟩
            obtain ⟨k, hk⟩ : ∃ k, k = m / 2 := ⟨_, rfl⟩
            rw [← hk] at g2 g3 HT
            have v1 : IntKind.u64.wrap (k : Int) = (k : Int) := IntWalk.u64_in _ (by omega)
            clear ht hR hk
            go_wp2
            go_round
            case rel => exact ⟨k, e + 1, rfl, rfl, HT.out.1, HT.out.2, by omega, by omega⟩
            case measure => simp [intOf]; omega
          · have hm0 : m = 0 := by omega
            subst hm0
            rw [scaleF_none] at hR
            have HR := Lib.hid hR
            clear hR
            go_wp2
            go_ret
            exact ⟨by rw [HR.out]; rfl, rfl⟩
        · have he0 : e = 0 := by omega
          subst he0
          rw [scaleF_zero] at hR
          have HR := Lib.hid hR
          have v1 : IntKind.i64.wrap (m : Int) = (m : Int) := IntWalk.i64_in _ (by omega)
          clear hR
          go_wp2
          go_ret
          exact ⟨by rw [HR.out]; rfl, rfl⟩

end Go.Proofs.Ytcbimgdgodeppaa
