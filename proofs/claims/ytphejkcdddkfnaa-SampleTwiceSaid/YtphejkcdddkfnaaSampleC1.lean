/-
  sample's Hash, Taken and sum.
-/
import Derived.Test.YtphejkcdddkfnaaSampleHist
namespace Go.Proofs.Ytphejkcdddkfnaa
open Go.RowKit

set_option maxHeartbeats 800000 in
theorem hash_any (v b : Int) (w : World) : Calls Try.prog 9 #[.int .i64 v, .int .i64 b] w fun e w' => e = .returned (.int .i64 (hashN v b : Nat)) ∧ w = w' := by
  have e1 := wN_eq v
  have e2 := wN_eq b
  have e3 := wN_eq (11400714819323198485 * (wN v : Int))
  have e4 := wN_eq (14029467366897019727 * (wN b : Int))
  have e5 : IntKind.u64.wrap ((wN (11400714819323198485 * (wN v : Int)) : Int) + (wN (14029467366897019727 * (wN b : Int)) : Int)) = (hashA v b : Int) := wN_eq _
  have l5 : hashA v b < 18446744073709551616 := wN_lt _
  have e8 : IntKind.u64.wrap (((hashA v b ^^^ hashA v b / 536870912 : Nat) : Int) * 13787848793156543929) = (hashM v b : Int) := wN_eq _
  have l8 : hashM v b < 18446744073709551616 := wN_lt _
  have hR : hashN v b = (hashM v b ^^^ hashM v b / 4294967296) % 16777216 := rfl
  obtain ⟨R, hRR⟩ : ∃ R, R = hashN v b := ⟨_, rfl⟩
  rw [← hRR] at hR ⊢
  obtain ⟨h, hh⟩ : ∃ h, h = hashA v b := ⟨_, rfl⟩
  obtain ⟨m, hm⟩ : ∃ m, m = hashM v b := ⟨_, rfl⟩
  rw [← hm] at e8 l8 hR
  rw [← hh] at e5 l5 e8
  obtain ⟨p, hp⟩ : ∃ p, p = wN (11400714819323198485 * (wN v : Int)) := ⟨_, rfl⟩
  obtain ⟨q, hq⟩ : ∃ q, q = wN (14029467366897019727 * (wN b : Int)) := ⟨_, rfl⟩
  rw [← hp] at e3 e5
  rw [← hq] at e4 e5
  obtain ⟨v', hv⟩ : ∃ v', v' = wN v := ⟨_, rfl⟩
  obtain ⟨b', hb⟩ : ∃ b', b' = wN b := ⟨_, rfl⟩
  rw [← hv] at e1 e3
  rw [← hb] at e2 e4
  have x1 := u64_xor_nat h (h / 536870912) l5 (by omega)
  have x2 := u64_xor_nat m (m / 4294967296) l8 (by omega)
  have d1 : (h : Int) / 536870912 = ((h / 536870912 : Nat) : Int) := by omega
  have d2 : (m : Int) / 4294967296 = ((m / 4294967296 : Nat) : Int) := by omega
  obtain ⟨x, hx⟩ : ∃ x, x = h ^^^ h / 536870912 := ⟨_, rfl⟩
  obtain ⟨y, hy⟩ : ∃ y, y = m ^^^ m / 4294967296 := ⟨_, rfl⟩
  rw [← hx] at x1 e8
  rw [← hy] at x2 hR
  obtain ⟨hd, hd1⟩ : ∃ d, d = h / 536870912 := ⟨_, rfl⟩
  obtain ⟨md, hd2⟩ : ∃ d, d = m / 4294967296 := ⟨_, rfl⟩
  rw [← hd1] at x1 d1
  rw [← hd2] at x2 d2
  have r1 : (y : Int).tmod 16777216 = (R : Int) := by rw [Int.tmod_eq_emod_of_nonneg (by omega)]; omega
  have r2 : (y : Int) % 16777216 = (R : Int) := by omega
  have r3 : Hid (wrap64 (R : Int) = (R : Int)) := by unfold Hid wrap64; omega
  clear hRR hh hm hp hq hv hb hx hy hd1 hd2 l5 l8 hR
  go_enter Try.func9, Try.ntmps9
  go_wp2
  go_ret
  exact ⟨by first | rfl | exact congrArg (fun z => Ending.returned (.int .i64 z)) r3.out, rfl⟩


set_option maxHeartbeats 800000 in
theorem taken_any (v b o : Int) (w : World) : Calls Try.prog 12 #[.int .i64 v, .int .i64 b, .int .i64 o] w fun e w' => e = .returned (.bool (decide ((hashN v b : Int) < o))) ∧ w = w' := by
  have H := Lib.hid (fun W => hash_any v b W)
  obtain ⟨R, hR⟩ : ∃ R, R = hashN v b := ⟨_, rfl⟩
  rw [← hR] at H ⊢
  clear hR
  by_cases c : (R : Int) < o
  · rw [decide_eq_true c]
    go_enter Try.func12, Try.ntmps12
    go_wp2_with (go_at_call 9; with_reducible (refine Calls.mono (H.out _) ?_); rintro e w1 ⟨rfl, rfl⟩)
    go_ret
    exact ⟨rfl, rfl⟩
  · rw [decide_eq_false c]
    go_enter Try.func12, Try.ntmps12
    go_wp2_with (go_at_call 9; with_reducible (refine Calls.mono (H.out _) ?_); rintro e w1 ⟨rfl, rfl⟩)
    go_ret
    exact ⟨by have h : decide ((R : Int) < o) = false := decide_eq_false (by omega); simp [h], rfl⟩

/-- All numbers together. -/
def sumS (l : List Int) : Nat → Int
  | 0 => 0
  | k + 1 => sumS l k + l.getD k 0
theorem sumS_bounds {l : List Int} (h : ∀ i, i < l.length → 0 ≤ l.getD i 0 ∧ l.getD i 0 ≤ 1) : ∀ k, k ≤ l.length → 0 ≤ sumS l k ∧ sumS l k ≤ (k : Int)
  | 0, _ => by unfold sumS; omega
  | k + 1, hk => by
    have := sumS_bounds h k (by omega)
    have := h k (by omega)
    unfold sumS; omega

set_option maxHeartbeats 800000 in
set_option maxRecDepth 20000 in
theorem sumS_any (A : Option Addr) (c : Nat) (l : List Int) (w : World) (h : Ints w w.heap.size .i64 A l) (hl : l.length ≤ 5000) (hb : ∀ i, i < l.length → 0 ≤ l.getD i 0 ∧ l.getD i 0 ≤ 1) :
    Calls Try.prog 19 #[.slice A l.length c] w fun e w' => e = .returned (.int .i64 (sumS l l.length)) ∧ w' = w := by
  have HB := Lib.hid (sumS_bounds hb)
  have HF := Lib.hid h
  have HS : Hid (∀ k, sumS l (k + 1) = sumS l k + l.getD k 0) := fun _ => rfl
  have HE := Lib.hid hb
  obtain ⟨N, hN⟩ : ∃ N, N = l.length := ⟨_, rfl⟩
  have HN := Lib.hid hN
  rw [← hN] at hl ⊢
  clear h hb hN
  go_enter Try.func19, Try.ntmps19
  go_wp2
  go_loop [3, 8] (fun v i => ∃ k : Nat, k ≤ N ∧ i = .int .i64 k ∧ v = .int .i64 (sumS l k)) (fun _ i => N - (intOf i).toNat)
  case atStart => exact ⟨0, Nat.zero_le _, rfl, rfl⟩
  case round =>
    obtain ⟨k, hk, rfl, rfl⟩ := hrel
    by_cases hlt : k < N
    · obtain ⟨b, o, rfl, _, hc⟩ := HF.out k (by have := HN.out; omega)
      have hs := HB.out k (by have := HN.out; omega)
      have hx := HE.out k (by have := HN.out; omega)
      have hn := HS.out k
      obtain ⟨x, hx'⟩ : ∃ x, x = l.getD k 0 := ⟨_, rfl⟩
      rw [← hx'] at hc hx hn
      obtain ⟨s, hs'⟩ : ∃ s, s = sumS l k := ⟨_, rfl⟩
      rw [← hs'] at hs hn ⊢
      have HN1 := Lib.hid hn
      have k1 : (k : Int) < (N : Int) := by omega
      have k0 : (0 : Int) ≤ (k : Int) := by omega
      have v1 : IntKind.i64.wrap (s + x) = s + x := IntWalk.i64_in _ (by omega)
      clear hx' hs' hn hs hx
      go_wp2
      go_round
      case rel => exact ⟨k + 1, by omega, by go_num, by rw [HN1.out]⟩
      case measure => simp [intOf]; omega
    · have hkN : k = N := by omega
      subst hkN
      have k1 : ¬ (k : Int) < (k : Int) := by omega
      go_wp2
      go_ret
      exact ⟨rfl, rfl⟩

end Go.Proofs.Ytphejkcdddkfnaa
