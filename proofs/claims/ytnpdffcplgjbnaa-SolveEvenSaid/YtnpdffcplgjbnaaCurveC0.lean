/-
  The landed curve: sound, At.
-/
import Derived.Test.YtnpdffcplgjbnaaCurveRef
namespace Go.Proofs.Ytnpdffcplgjbnaa
open Go.RowKit

set_option maxHeartbeats 1600000 in
set_option maxRecDepth 20000 in
/-- 'sound'. -/
theorem soundC_any (A : Option Addr) (n : Nat) (c : List Int) (w : World) (h : Ints w w.heap.size .i64 A c) (hm : c.length ≤ 9223372036854775807) :
    Calls Try.prog 38 #[.slice A c.length n] w fun e w' => e = .returned (.bool (soundL c)) ∧ w = w' := by
  by_cases h1 : 1 ≤ c.length
  · obtain ⟨b, o, rfl, hb, hc⟩ := h.at_ h1
    have HC : Hid (∀ i, i < c.length → w.cell? ⟨b, o + i, none⟩ = some (.int .i64 (c.getD i 0))) := fun i hi => hc i hi
    have hs := soundL_iff c
    have HF := Lib.hid (fun (i : Nat) (hi : i < c.length) (q : soundAt c i = false) => soundL_false hi q)
    have HAt : Hid (∀ i, soundAt c i = (decide (c.getD i 0 ≤ 4503599627370496) && (decide (i = 0) || decide (c.getD (i - 1) 0 ≤ c.getD i 0)))) := fun i => rfl
    obtain ⟨S, hS⟩ : ∃ S, S = soundL c := ⟨_, rfl⟩
    rw [← hS] at hs
    simp only [← hS] at HF
    rw [← hS]
    obtain ⟨N, hN⟩ : ∃ N, N = c.length := ⟨_, rfl⟩
    simp only [← hN] at hs HF HC hm h1
    rw [← hN]
    obtain ⟨F, hFe⟩ : ∃ F : Nat → Int, F = fun i => c.getD i 0 := ⟨_, rfl⟩
    have hFF : ∀ i, c.getD i 0 = F i := fun i => by rw [hFe]
    simp only [hFF] at hs HC HAt
    obtain ⟨G, hG⟩ : ∃ G : Nat → Bool, G = soundAt c := ⟨_, rfl⟩
    rw [← hG] at hs HAt HF
    clear h hc hb hS hN hFe hFF hG
    have d8 : ((N : Int) == 0) = false := by rw [beq_eq_false_iff_ne]; omega
    have n0 : ¬ N = 0 := by omega
    by_cases h2 : N ≤ 4096
    · have g2 : decide ((4096 : Int) < (N : Int)) = false := decide_eq_false (by omega)
      have HT : Hid (0 ≤ F 0 → (∀ i, i < N → G i = true) → S = true) := fun h3 q => hs.2 ⟨h1, h2, h3, q⟩
      have HZ : Hid (F 0 < 0 → S = false) := fun h3 => by
        cases hS : S
        · rfl
        · exact absurd (hs.1 hS).2.2.1 (by omega)
      have HN1 := Lib.hid h1
      clear hs h1 h2
      go_enter Try.func38, Try.ntmps38
      go_wp2
      go_loop [3, 16] (fun v i => ∃ (k : Nat) (y : Int), k ≤ N ∧ i = .int .i64 k ∧ v = .int .i64 y ∧ Hid (y = (if k = 0 then 0 else F (k - 1))) ∧ Hid (0 < k → 0 ≤ F 0) ∧ Hid (∀ j, j < k → G j = true)) (fun _ i => N - (intOf i).toNat)
      case atStart => exact ⟨0, 0, Nat.zero_le _, rfl, rfl, rfl, fun h => absurd h (Nat.lt_irrefl 0), fun j hj => absurd hj (Nat.not_lt_zero j)⟩
      case round =>
        obtain ⟨k, y, hk, rfl, rfl, hy, h0, hall⟩ := hrel
        by_cases hlt : k < N
        · have q0 := HC.out k hlt
          have hat := HAt.out k
          have hno := HF.out k hlt
          have k1 : (k : Int) < (N : Int) := by omega
          have k0 : (0 : Int) ≤ (k : Int) := by omega
          obtain ⟨x, hx⟩ : ∃ x, x = F k := ⟨_, rfl⟩
          rw [← hx] at q0 hat
          by_cases hlo : y ≤ x
          · by_cases hhi : x ≤ 4503599627370496
            · have d1 : decide (x < y) = false := decide_eq_false (by omega)
              have d2 : decide ((4503599627370496 : Int) < x) = false := decide_eq_false (by omega)
              have R : Hid (Hid (x = (if k + 1 = 0 then 0 else F (k + 1 - 1))) ∧ Hid (0 < k + 1 → 0 ≤ F 0) ∧ Hid (∀ j, j < k + 1 → G j = true)) := by
                refine ⟨hx, fun _ => ?_, fun j hj => ?_⟩
                · by_cases hk0 : k = 0
                  · have e := hy.out
                    rw [if_pos hk0] at e
                    subst hk0; rw [← hx]; omega
                  · exact h0.out (by omega)
                · rcases Nat.lt_or_ge j k with g | g
                  · exact hall.out j g
                  · obtain rfl : j = k := by omega
                    rw [hat, decide_eq_true hhi]
                    by_cases hk0 : j = 0
                    · rw [decide_eq_true hk0]; rfl
                    · have e := hy.out
                      rw [if_neg hk0] at e
                      rw [← e, decide_eq_true hlo, Bool.or_true]; rfl
              clear hat hno hx hy h0 hall hlo hhi HT HZ HF HAt
              go_wp2
              go_round
              case rel => exact ⟨k + 1, x, by omega, by go_num, rfl, R.out.1, R.out.2.1, R.out.2.2⟩
              case measure => simp [intOf]; omega
            · have d1 : decide (x < y) = false := decide_eq_false (by omega)
              have d2 : decide ((4503599627370496 : Int) < x) = true := decide_eq_true (by omega)
              have hno2 := Lib.hid (hno (by rw [hat, decide_eq_false hhi]; rfl))
              clear hat hno hx hy h0 hall hlo hhi HT HZ HF HAt
              go_wp2
              go_ret
              exact ⟨by rw [hno2.out]; rfl, rfl⟩
          · have d1 : decide (x < y) = true := decide_eq_true (by omega)
            have hS : Hid (S = false) := by
              refine Lib.hid ?_
              have e := hy.out
              by_cases hk0 : k = 0
              · rw [if_pos hk0] at e
                subst hk0
                exact HZ.out (by rw [← hx]; omega)
              · rw [if_neg hk0] at e
                exact hno (by rw [hat, ← e, decide_eq_false hk0, decide_eq_false hlo]; simp)
            clear hat hno hx hy h0 hall hlo HT HZ HF HAt
            go_wp2
            go_ret
            exact ⟨by rw [hS.out]; rfl, rfl⟩
        · have hk8 : N = k := by omega
          have hD := Lib.hid (HT.out (h0.out (by have := HN1.out; omega)) (by rw [hk8]; exact hall.out))
          have k1 : ¬ (k : Int) < (N : Int) := by omega
          clear hall HT HF HZ HAt hy h0 hk8
          go_wp2
          go_ret
          exact ⟨by rw [hD.out]; rfl, rfl⟩
    · have hS : S = false := by
        cases hS : S
        · rfl
        · exact absurd (hs.1 hS).2.1 h2
      subst hS
      have g2 : decide ((4096 : Int) < (N : Int)) = true := decide_eq_true (by omega)
      clear hs
      go_enter Try.func38, Try.ntmps38
      go_wp2
      go_ret
      exact ⟨rfl, rfl⟩
  · have hS : soundL c = false := by
      cases hS : soundL c
      · rfl
      · exact absurd ((soundL_iff c).1 hS).1 h1
    have e0 : c.length = 0 := by omega
    rw [hS, e0]
    clear hS h h1 e0 hm
    go_enter Try.func38, Try.ntmps38
    go_wp2
    go_ret
    exact ⟨rfl, rfl⟩

set_option maxHeartbeats 800000 in
/-- 'At'. -/
theorem atC_any (A : Option Addr) (n : Nat) (c : List Int) (z : Int) (w : World) (h : Ints w w.heap.size .i64 A c) (hm : c.length ≤ 9223372036854775807) :
    Calls Try.prog 37 #[.slice A c.length n, .int .i64 z] w fun e w' => e = .returned (.int .i64 (atN c z)) ∧ w = w' := by
  have HT : Hid (atN c z = if c.length = 0 ∨ z < 0 then 0 else if (c.length : Int) ≤ z then c.getD (c.length - 1) 0 else c.getD z.toNat 0) := rfl
  by_cases h0 : c.length = 0
  · have hr : atN c z = 0 := by rw [HT.out, if_pos (Or.inl h0)]
    rw [hr, h0]
    clear HT h hr h0 hm
    go_enter Try.func37, Try.ntmps37
    go_wp2
    go_ret
    exact ⟨rfl, rfl⟩
  · have d0 : ((c.length : Int) == 0) = false := by rw [beq_eq_false_iff_ne]; omega
    by_cases hz : z < 0
    · have hr : atN c z = 0 := by rw [HT.out, if_pos (Or.inr hz)]
      rw [hr]
      have d1 : decide (z < 0) = true := decide_eq_true hz
      obtain ⟨N, hN⟩ : ∃ N, N = c.length := ⟨_, rfl⟩
      rw [← hN] at d0 ⊢
      clear HT h hr h0 hm hN
      go_enter Try.func37, Try.ntmps37
      go_wp2
      go_ret
      exact ⟨rfl, rfl⟩
    · obtain ⟨b, o, rfl, hb, hc⟩ := h.at_ (by omega)
      have d1 : decide (z < 0) = false := decide_eq_false hz
      have z0 : 0 ≤ z := by omega
      by_cases hlz : (c.length : Int) ≤ z
      · have hr : atN c z = c.getD (c.length - 1) 0 := by rw [HT.out, if_neg (by omega), if_pos hlz]
        rw [hr]
        obtain ⟨K, hK⟩ : ∃ K, K = c.length - 1 := ⟨_, rfl⟩
        have q := hc K (by omega)
        rw [← hK]
        obtain ⟨x, hx⟩ : ∃ x, x = c.getD K 0 := ⟨_, rfl⟩
        rw [← hx] at q ⊢
        have e1 : (c.length : Int) - 1 = (K : Int) := by omega
        have k1 : (K : Int) < (c.length : Int) := by omega
        have kz : ¬ z ≤ (K : Int) := by omega
        have e2 : min z (K : Int) = (K : Int) := by omega
        obtain ⟨N, hN⟩ : ∃ N, N = c.length := ⟨_, rfl⟩
        rw [← hN] at d0 hlz e1 k1 hm ⊢
        clear HT h hr h0 hN hc hx hK
        go_enter Try.func37, Try.ntmps37
        go_wp2
        go_ret
        exact ⟨rfl, rfl⟩
      · have hr : atN c z = c.getD z.toNat 0 := by rw [HT.out, if_neg (by omega), if_neg hlz]
        rw [hr]
        obtain ⟨k, rfl⟩ : ∃ k : Nat, z = k := ⟨z.toNat, by omega⟩
        rw [Int.toNat_natCast]
        have q := hc k (by omega)
        have k1 : (k : Int) < (c.length : Int) := by omega
        obtain ⟨x, hx⟩ : ∃ x, x = c.getD k 0 := ⟨_, rfl⟩
        rw [← hx] at q ⊢
        have e2 : min (k : Int) ((c.length : Int) - 1) = (k : Int) := by omega
        have kz : (k : Int) ≤ (c.length : Int) - 1 := by omega
        obtain ⟨N, hN⟩ : ∃ N, N = c.length := ⟨_, rfl⟩
        rw [← hN] at d0 k1 hlz e2 kz hm ⊢
        clear HT h hr h0 hN hc hx
        go_enter Try.func37, Try.ntmps37
        go_wp2
        go_ret
        exact ⟨rfl, rfl⟩

end Go.Proofs.Ytnpdffcplgjbnaa
