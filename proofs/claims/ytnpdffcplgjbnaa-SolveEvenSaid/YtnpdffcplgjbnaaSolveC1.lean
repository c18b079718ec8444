/-
  The landed solve: within, sum, gain, unsound, and which error applies.
-/
import Derived.Test.YtnpdffcplgjbnaaCurveCH
import Derived.Test.YtnpdffcplgjbnaaSolveSum
import Derived.Deep.TreeCalls
import Derived.Shelf.RegionOpenPlain
import Derived.Deep.CutRange
namespace Go.Proofs.Ytnpdffcplgjbnaa
open Go.RowKit

set_option maxHeartbeats 800000 in
theorem withinV_any (n m : Int) (w : World) : Calls Try.prog 27 #[.int .i64 n, .int .i64 m] w fun e w' => e = .returned (.bool (decide (0 ≤ n ∧ n ≤ m))) ∧ w' = w := by
  by_cases h0 : 0 ≤ n
  · by_cases h1 : n ≤ m
    · rw [decide_eq_true ⟨h0, h1⟩]
      have d0 : decide (0 ≤ n) = true := decide_eq_true h0
      have d1 : decide (n ≤ m) = true := decide_eq_true h1
      go_enter Try.func27, Try.ntmps27
      go_wp2
      go_ret
      exact ⟨rfl, rfl⟩
    · rw [decide_eq_false (by omega)]
      have d0 : decide (0 ≤ n) = true := decide_eq_true h0
      have d1 : decide (n ≤ m) = false := decide_eq_false h1
      go_enter Try.func27, Try.ntmps27
      go_wp2
      go_ret
      exact ⟨rfl, rfl⟩
  · rw [decide_eq_false (by omega)]
    have d0 : decide (0 ≤ n) = false := decide_eq_false h0
    go_enter Try.func27, Try.ntmps27
    go_wp2
    go_ret
    exact ⟨rfl, rfl⟩

set_option maxHeartbeats 800000 in
/-- 'sum', of numbers that are small. -/
theorem sumV_any (A : Option Addr) (n : Nat) (l : List Int) (w : World) (h : Ints w w.heap.size .i64 A l) (hl : l.length ≤ 16) (hb : ∀ z ∈ l, 0 ≤ z ∧ z ≤ 512) :
    Calls Try.prog 22 #[.slice A l.length n] w fun e w' => e = .returned (.int .i64 l.sum) ∧ w' = w := by
  have HS : Hid (∀ k, k < l.length → sumK l (k + 1) = sumK l k + l.getD k 0 ∧ 0 ≤ l.getD k 0 ∧ l.getD k 0 ≤ 512) := fun k hk => by
    have := hb (l.getD k 0) (by rw [List.getD_eq_getElem?_getD, List.getElem?_eq_getElem hk]; exact List.getElem_mem hk)
    exact ⟨sumK_succ l hk, this.1, this.2⟩
  have HB : Hid (∀ k, k ≤ l.length → 0 ≤ sumK l k ∧ sumK l k ≤ 512 * (k : Int)) := fun k hk => by
    induction k with
    | zero => exact ⟨Int.le_refl _, Int.le_refl _⟩
    | succ k ih =>
      have h1 := ih (by omega)
      obtain ⟨h2, h3, h4⟩ := HS.out k (by omega)
      rw [h2]; omega
  have HE : Hid (sumK l l.length = l.sum) := by refine Lib.hid ?_; unfold sumK; rw [List.take_length]
  have HC : Hid (∀ i, i < l.length → ∃ b o, A = some ⟨b, o, none⟩ ∧ w.cell? ⟨b, o + i, none⟩ = some (.int .i64 (l.getD i 0))) := fun i hi => by
    obtain ⟨b, o, e, _, q⟩ := h i hi
    exact ⟨b, o, e, q⟩
  rw [← HE.out]
  obtain ⟨N, hN⟩ : ∃ N, N = l.length := ⟨_, rfl⟩
  simp only [← hN] at HS HB HC hl ⊢
  obtain ⟨F, hF⟩ : ∃ F : Nat → Int, F = fun i => l.getD i 0 := ⟨_, rfl⟩
  have hFF : ∀ i, l.getD i 0 = F i := fun i => by rw [hF]
  obtain ⟨G, hG⟩ : ∃ G, G = sumK l := ⟨_, rfl⟩
  simp only [hFF] at HS HC
  simp only [← hG] at HS HB ⊢
  have g0 : Hid (G 0 = 0) := by refine Lib.hid ?_; rw [hG]; rfl
  have n1 : (N : Int) ≤ 16 := by omega
  clear h hb HE hN hF hFF hG
  go_enter Try.func22, Try.ntmps22
  go_wp2
  go_loopw [3, 8] (fun s i wr => ∃ k : Nat, k ≤ N ∧ i = .int .i64 k ∧ s = .int .i64 (G k) ∧ wr = w) (fun _ i _ => N - (intOf i).toNat)
  case atStart => exact ⟨0, Nat.zero_le _, rfl, by rw [g0.out], rfl⟩
  case round =>
    obtain ⟨k, hk, rfl, rfl, rfl⟩ := hrel
    by_cases hlt : k < N
    · obtain ⟨b, o, rfl, q0⟩ := HC.out k hlt
      obtain ⟨h1, h2, h3⟩ := HS.out k hlt
      have h4 := HB.out k hk
      have k1 : (k : Int) < (N : Int) := by omega
      have k0 : (0 : Int) ≤ (k : Int) := by omega
      obtain ⟨x, hx⟩ : ∃ x, x = F k := ⟨_, rfl⟩
      rw [← hx] at q0 h1 h2 h3
      have H1 := Lib.hid h1
      obtain ⟨S, hS⟩ : ∃ x, x = G k := ⟨_, rfl⟩
      rw [← hS] at H1 h4 ⊢
      have s0 : (0 : Int) ≤ S := h4.1
      have s1 : S ≤ 8192 := by omega
      clear hx hS h1 h4
      go_wp2
      go_roundw
      case rel => first | exact ⟨k + 1, by omega, by go_num, by rw [H1.out], by first | rfl | trivial⟩ | ((repeat apply Exists.intro); exact ⟨⟨k + 1, by omega, by go_num, by rw [H1.out], by first | rfl | trivial⟩, rfl⟩)
      case measure => simp [intOf]; omega
    · have hk8 : k = N := by omega
      subst hk8
      have k1 : ¬ (k : Int) < (k : Int) := by omega
      go_wp2
      go_ret
      exact ⟨rfl, rfl⟩

set_option maxHeartbeats 800000 in
/-- 'gain'. -/
theorem gainV_any (A : Option Addr) (n : Nat) (c : List Int) (z : Int) (w : World) (h : Ints w w.heap.size .i64 A c) (hs : soundL c = true) (h0 : 0 ≤ z) (h1 : z ≤ 1048576) :
    Calls Try.prog 32 #[.slice A c.length n, .int .i64 z] w fun e w' => e = .returned (.int .i64 (gainC c z)) ∧ w' = w := by
  have hm : c.length ≤ 9223372036854775807 := by have := ((soundL_iff c).mp hs).2.1; omega
  have HA0 : Hid (∀ y, Calls Try.prog 37 #[.slice A c.length n, .int .i64 y] w fun e w' => e = .returned (.int .i64 (atN c y)) ∧ w' = w) := fun y => (atC_any A n c y w h hm).mono fun e w' ⟨p1, p2⟩ => ⟨p1, p2.symm⟩
  have b1 := atN_bounds hs (z + 1)
  have b0 := atN_bounds hs z
  have e : gainC c z = atN c (z + 1) - atN c z := rfl
  rw [e]
  obtain ⟨G, hG⟩ : ∃ G, G = atN c := ⟨_, rfl⟩
  rw [← hG] at HA0 b1 b0 ⊢
  obtain ⟨x, hx⟩ : ∃ x, x = G z := ⟨_, rfl⟩
  obtain ⟨y, hy⟩ : ∃ y, y = G (z + 1) := ⟨_, rfl⟩
  rw [← hx] at b0
  rw [← hy] at b1
  obtain ⟨N, hN⟩ : ∃ N, N = c.length := ⟨_, rfl⟩
  rw [← hN] at HA0 ⊢
  have x0 := b0.1
  have x1 := b0.2
  have y0 := b1.1
  have y1 := b1.2
  have HX := Lib.hid hx
  have HY := Lib.hid hy
  rw [← hx, ← hy]
  clear hx hy b0 b1 h hs hm e hG hN
  go_enter Try.func32, Try.ntmps32
  go_wp2_with (go_at_call 37; with_reducible (refine Calls.mono (HA0.out _) ?_); rintro e w2 ⟨rfl, rfl⟩)
  go_ret
  have e2 : Hid (wrap64 (G (z + 1) - G z) = y - x) := by refine Lib.hid ?_; rw [← HX.out, ← HY.out]; unfold wrap64; omega
  exact ⟨by rw [e2.out]; rfl, rfl⟩

set_option maxHeartbeats 800000 in
/-- 'unsound'. -/
theorem unsoundV_any (A : Option Addr) (n : Nat) (c : List Int) (w : World) (h : Ints w w.heap.size .i64 A c) (hm : c.length ≤ 9223372036854775807) :
    Calls Try.prog 31 #[.slice A c.length n] w fun e w' => e = .returned (.bool (!soundL c)) ∧ Below w.heap.size w w' := by
  cases hs : soundL c
  · have H := Lib.hid (hullC_bad A n c w h hm hs)
    obtain ⟨N, hN⟩ : ∃ N, N = c.length := ⟨_, rfl⟩
    rw [← hN] at H ⊢
    have HB : Hid (Below w.heap.size w w) := Below.refl _ _
    clear h hm hs hN
    go_enter Try.func31, Try.ntmps31
    go_wp2_with (go_at_call 36; with_reducible (refine Calls.mono H.out ?_); rintro e w2 ⟨rfl, rfl⟩)
    go_ret
    exact ⟨rfl, HB.out⟩
  · have H := Lib.hid (hullC_any A n c w h hs)
    obtain ⟨N, hN⟩ : ∃ N, N = c.length := ⟨_, rfl⟩
    rw [← hN] at H ⊢
    obtain ⟨M, hM⟩ : ∃ M, M = hullL c := ⟨_, rfl⟩
    rw [← hM] at H
    clear h hm hs hN hM
    go_enter Try.func31, Try.ntmps31
    go_wp2_with (go_at_call 36; with_reducible (refine Calls.mono H.out ?_); rintro e w2 ⟨A', c', rfl, -, -, hb2⟩)
    go_ret
    exact ⟨rfl, hb2⟩

end Go.Proofs.Ytnpdffcplgjbnaa
