/-
  The document's own curves (stowageref11): sound.
-/
import Derived.Test.YtnpdffcplgjbnaaCurveNums
import Derived.Test.YtnpdffcplgjbnaaWords
import Derived.Test.YtnpdffcplgjbnaaChecked
import Derived.Tactics
import Derived.Tactics2
import Derived.LoopTactic
import Derived.OpenShut
import Derived.WalkLawsBesides
import Derived.BigQuiet
namespace Go.Proofs.Ytnpdffcplgjbnaa
open Go.RowKit

theorem soundL_false {c : List Int} {i : Nat} (hi : i < c.length) (h : soundAt c i = false) : soundL c = false := by
  cases hs : soundL c
  · rfl
  · have := ((soundL_iff c).1 hs).2.2.2 i hi
    rw [h] at this; cases this
set_option maxHeartbeats 1600000 in
set_option maxRecDepth 20000 in
/-- 'Sound'. -/
theorem refSoundC_any (A : Option Addr) (n : Nat) (c : List Int) (w : World) (h : Ints w w.heap.size .i64 A c) (hm : c.length ≤ 9223372036854775807) :
    Calls Try.prog 18 #[.slice A c.length n] w fun e w' => e = .returned (.bool (soundL c)) ∧ ∃ m, w' = w.drewN m := by
  by_cases h1 : 1 ≤ c.length
  · obtain ⟨b, o, rfl, hb, hc⟩ := h.at_ h1
    have hc0 := hc 0 h1
    have HC : Hid (∀ m i, i < c.length → (w.drewN m).cell? ⟨b, o + i, none⟩ = some (.int .i64 (c.getD i 0))) := fun m i hi => hc i hi
    rw [Nat.add_zero] at hc0
    have hs := soundL_iff c
    have HF := Lib.hid (fun (i : Nat) (hi : i < c.length) (q : soundAt c i = false) => soundL_false hi q)
    have HAt : Hid (∀ i, soundAt c i = (decide (c.getD i 0 ≤ 4503599627370496) && (decide (i = 0) || decide (c.getD (i - 1) 0 ≤ c.getD i 0)))) := fun i => rfl
    obtain ⟨S, hS⟩ : ∃ S, S = soundL c := ⟨_, rfl⟩
    rw [← hS] at hs
    simp only [← hS] at HF
    rw [← hS]
    obtain ⟨N, hN⟩ : ∃ N, N = c.length := ⟨_, rfl⟩
    simp only [← hN] at hs HF HC hm h1
    rw [← hN]
    obtain ⟨F, hFe⟩ : ∃ F : Nat → Int, F = fun i => c.getD i 0 := ⟨_, rfl⟩
    have hFF : ∀ i, c.getD i 0 = F i := fun i => by rw [hFe]
    simp only [hFF] at hs HC hc0 HAt
    obtain ⟨G, hG⟩ : ∃ G : Nat → Bool, G = soundAt c := ⟨_, rfl⟩
    rw [← hG] at hs HAt HF
    clear h hc hb hS hN hFe hFF hG
    have hN1 : (1 : Int) ≤ (N : Int) := by omega
    by_cases h2 : N ≤ 4096
    · have g2 : (N : Int) ≤ 4096 := by omega
      by_cases h3 : 0 ≤ F 0
      · have HT : Hid ((∀ i, i < N → G i = true) → S = true) := fun q => hs.2 ⟨h1, h2, h3, q⟩
        clear hs
        obtain ⟨x0, hx0⟩ : ∃ x, x = F 0 := ⟨_, rfl⟩
        rw [← hx0] at hc0 h3
        clear hx0
        go_enter Try.func18, Try.ntmps18
        go_wp2
        go_loopw [3] (fun i wr => ∃ k m : Nat, k ≤ N ∧ i = .int .i64 k ∧ (∀ j, j < k → G j = true) ∧ wr = w.drewN m) (fun i _ => N - (intOf i).toNat)
        case atStart => exact ⟨0, 0, Nat.zero_le _, rfl, fun j hj => absurd hj (Nat.not_lt_zero j), rfl⟩
        case round =>
          obtain ⟨k, m, hk, rfl, hall, hwm⟩ := hrel
          clear hc0
          by_cases hlt : k < N
          · have q0 := HC.out m k hlt
            rw [← hwm] at q0
            have hat := HAt.out k
            have hno := HF.out k hlt
            have k1 : (k : Int) < (N : Int) := by omega
            have k0 : (0 : Int) ≤ (k : Int) := by omega
            have hall2 : G k = true → ∀ j, j < k + 1 → G j = true := fun q j hj => by
              rcases Nat.lt_or_ge j k with g | g
              · exact hall j g
              · rw [show j = k by omega]; exact q
            have HWM := Lib.hid hwm
            by_cases hx : F k ≤ 4503599627370496
            · by_cases hk0 : k = 0
              · subst hk0
                rw [decide_eq_true hx] at hat
                have hall3 := Lib.hid (hall2 (by rw [hat]; rfl))
                obtain ⟨x, hxe⟩ : ∃ x, x = F 0 := ⟨_, rfl⟩
                rw [← hxe] at q0 hx
                rw [Nat.add_zero] at q0
                have d1 : decide ((4503599627370496 : Int) < x) = false := decide_eq_false (by omega)
                clear hwm hall hall2 hat hno hxe hx
                go_wp2
                go_quiet (fail)
                go_wp2
                go_roundw
                case rel => exact ⟨1, m + nq, by omega, by go_num, hall3.out, by rw [HWM.out, World.drewN_drewN]⟩
                case measure => simp [intOf]; omega
              · obtain ⟨k', rfl⟩ : ∃ k', k = k' + 1 := ⟨k - 1, by omega⟩
                have q1 := HC.out m k' (by omega)
                rw [← hwm] at q1
                rw [decide_eq_true hx, decide_eq_false hk0, Nat.add_sub_cancel] at hat
                have kk1 : (k' : Int) < (N : Int) := by omega
                by_cases hy : F k' ≤ F (k' + 1)
                · rw [decide_eq_true hy] at hat
                  have hall3 := Lib.hid (hall2 (by rw [hat]; rfl))
                  obtain ⟨x, hxe⟩ : ∃ x, x = F (k' + 1) := ⟨_, rfl⟩
                  obtain ⟨y, hye⟩ : ∃ y, y = F k' := ⟨_, rfl⟩
                  rw [← hxe] at q0 hx hy
                  rw [← hye] at q1 hy
                  have d1 : decide ((4503599627370496 : Int) < x) = false := decide_eq_false (by omega)
                  have d2 : decide ((0 : Int) < (k' : Int) + 1) = true := decide_eq_true (by omega)
                  have d3 : decide (x < y) = false := decide_eq_false (by omega)
                  clear hwm hall hall2 hat hno hxe hye hx hy
                  go_wp2
                  go_quiet (fail)
                  go_wp2
                  go_roundw
                  case rel => exact ⟨k' + 1 + 1, m + nq, by omega, by go_num, hall3.out, by rw [HWM.out, World.drewN_drewN]⟩
                  case measure => simp [intOf]; omega
                · rw [decide_eq_false hy] at hat
                  have hno2 := Lib.hid (hno (by rw [hat]; rfl))
                  obtain ⟨x, hxe⟩ : ∃ x, x = F (k' + 1) := ⟨_, rfl⟩
                  obtain ⟨y, hye⟩ : ∃ y, y = F k' := ⟨_, rfl⟩
                  rw [← hxe] at q0 hx hy
                  rw [← hye] at q1 hy
                  have d1 : decide ((4503599627370496 : Int) < x) = false := decide_eq_false (by omega)
                  have d2 : decide ((0 : Int) < (k' : Int) + 1) = true := decide_eq_true (by omega)
                  have d3 : decide (x < y) = true := decide_eq_true (by omega)
                  clear hwm hall hall2 hat hno hxe hye hx hy
                  go_wp2
                  go_quiet (fail)
                  go_wp2
                  go_ret
                  exact ⟨by rw [hno2.out]; rfl, m + nq, by rw [HWM.out, World.drewN_drewN]⟩
            · rw [decide_eq_false hx] at hat
              have hno2 := Lib.hid (hno (by rw [hat]; rfl))
              obtain ⟨x, hxe⟩ : ∃ x, x = F k := ⟨_, rfl⟩
              rw [← hxe] at q0 hx
              have d1 : decide ((4503599627370496 : Int) < x) = true := decide_eq_true (by omega)
              clear hwm hall hall2 hat hno hxe hx
              go_wp2
              go_quiet (fail)
              go_wp2
              go_ret
              exact ⟨by rw [hno2.out]; rfl, m + nq, by rw [HWM.out, World.drewN_drewN]⟩
          · have hk8 : N = k := by omega
            subst hk8
            have hD := Lib.hid (HT.out hall)
            have HWM := Lib.hid hwm
            clear hwm hall HT HF
            go_wp2
            go_ret
            exact ⟨by rw [hD.out]; rfl, _, HWM.out⟩
      · have hS : S = false := by
          cases hS : S
          · rfl
          · exact absurd (hs.1 hS).2.2.1 h3
        subst hS
        obtain ⟨x0, hx0⟩ : ∃ x, x = F 0 := ⟨_, rfl⟩
        rw [← hx0] at hc0 h3
        clear hs hx0
        go_enter Try.func18, Try.ntmps18
        go_wp2
        go_ret
        exact ⟨rfl, 0, rfl⟩
    · have hS : S = false := by
        cases hS : S
        · rfl
        · exact absurd (hs.1 hS).2.1 h2
      subst hS
      have g2 : (4096 : Int) < (N : Int) := by omega
      clear hs
      go_enter Try.func18, Try.ntmps18
      go_wp2
      go_ret
      exact ⟨rfl, 0, rfl⟩
  · have hS : soundL c = false := by
      cases hS : soundL c
      · rfl
      · exact absurd ((soundL_iff c).1 hS).1 h1
    rw [hS]
    have g1 : (c.length : Int) < 1 := by omega
    clear hS h
    go_enter Try.func18, Try.ntmps18
    go_wp2
    go_ret
    exact ⟨rfl, 0, rfl⟩

end Go.Proofs.Ytnpdffcplgjbnaa
