/-
  The document's own look whether a number is in a list.
-/
import Derived.Test.YtphejkcdddkfnaaSampleSpec
namespace Go.Proofs.Ytphejkcdddkfnaa
open Go.RowKit

set_option maxHeartbeats 800000 in
theorem refHas_any (A : Option Addr) (c : Nat) (l : List Int) (n : Int) (w : World) (h : Ints w w.heap.size .i64 A l) (hm : l.length ≤ 140737488355328) :
    Calls Try.prog 20 #[.slice A l.length c, .int .i64 n] w fun e w' => e = .returned (.bool (decide (n ∈ l))) ∧ ∃ m, w' = w.drewN m := by
  have HL : Hid (∀ i, i < l.length → l.getD i 0 = n → decide (n ∈ l) = true) := fun i hi e => by
    rw [decide_eq_true_eq, ← e, List.getD_eq_getElem?_getD, List.getElem?_eq_getElem hi]; exact List.getElem_mem hi
  have HN : Hid ((∀ i, i < l.length → l.getD i 0 ≠ n) → decide (n ∈ l) = false) := fun q => by
    rw [decide_eq_false_iff_not]
    intro hin
    obtain ⟨i, hi, e⟩ := List.getElem_of_mem hin
    exact q i hi (by rw [List.getD_eq_getElem?_getD, List.getElem?_eq_getElem hi]; exact e)
  have HC : Hid (∀ m i, i < l.length → ∃ b o, A = some ⟨b, o, none⟩ ∧ (w.drewN m).cell? ⟨b, o + i, none⟩ = some (.int .i64 (l.getD i 0))) := fun m i hi => by
    obtain ⟨b, o, e, _, q⟩ := h i hi
    exact ⟨b, o, e, q⟩
  obtain ⟨N, hN⟩ : ∃ N, N = l.length := ⟨_, rfl⟩
  obtain ⟨D, hD⟩ : ∃ D, D = decide (n ∈ l) := ⟨_, rfl⟩
  obtain ⟨F, hF⟩ : ∃ F : Nat → Int, F = fun i => l.getD i 0 := ⟨_, rfl⟩
  have hF2 : ∀ i, l.getD i 0 = F i := fun i => by rw [hF]
  simp only [← hN, ← hD, hF2] at HL HN HC hm ⊢
  clear h hN hD hF hF2
  go_enter Try.func20, Try.ntmps20
  go_wp2
  go_loopw [5] (fun i wr => ∃ k m : Nat, k ≤ N ∧ i = .int .i64 k ∧ (∀ j, j < k → F j ≠ n) ∧ wr = w.drewN m) (fun i _ => N - (intOf i).toNat)
  case atStart => exact ⟨0, 0, Nat.zero_le _, rfl, fun j hj => absurd hj (Nat.not_lt_zero j), rfl⟩
  case round =>
    obtain ⟨k, m, hk, rfl, hall, hwm⟩ := hrel
    by_cases hlt : k < N
    · obtain ⟨b0, o0, rfl, q0⟩ := HC.out m k hlt
      rw [← hwm] at q0
      have HWM := Lib.hid hwm
      have k1 : (k : Int) < (N : Int) := by omega
      have k0 : (0 : Int) ≤ (k : Int) := by omega
      have HLk := Lib.hid (HL.out k hlt)
      have hall2 : F k ≠ n → ∀ j, j < k + 1 → F j ≠ n := fun q j hj => by
        rcases Nat.lt_or_ge j k with g | g
        · exact hall j g
        · rw [show j = k by omega]; exact q
      obtain ⟨x, hx⟩ : ∃ x, x = F k := ⟨_, rfl⟩
      rw [← hx] at q0 HLk hall2
      clear hwm hall hx
      by_cases hxn : x = n
      · subst hxn
        have hD := Lib.hid (HLk.out rfl)
        clear hall2 HLk HL HN
        go_wp2
        go_ret
        exact ⟨by rw [hD.out]; rfl, _, HWM.out⟩
      · have hall3 := Lib.hid (hall2 hxn)
        have e1 : (x == n) = false := beq_eq_false_iff_ne.2 hxn
        clear hall2 HLk HL HN
        go_wp2
        go_roundw
        case rel => exact ⟨k + 1, m, by omega, by go_num, hall3.out, HWM.out⟩
        case measure => simp [intOf]; omega
    · have hk8 : N = k := by omega
      subst hk8
      have hD := Lib.hid (HN.out hall)
      have HWM := Lib.hid hwm
      clear hwm hall HN HL
      go_wp2
      go_ret
      exact ⟨by rw [hD.out]; rfl, _, HWM.out⟩

end Go.Proofs.Ytphejkcdddkfnaa
