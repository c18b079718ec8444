/-
  RateWaits: at the moment that is told so many can be taken, and not a moment earlier.
-/
import Derived.Test.YtcliampjgbmeaaaRateSteps
namespace Go.Proofs.Ytcliampjgbmeaaa
open Go.RowKit

set_option maxHeartbeats 800000 in
set_option maxRecDepth 20000 in
theorem rateWaits_go (k : Bk) (n m : Int) (w : World) (HS : RateSpec w) (hk : k.ok) (hn : I64 n) (hm : I64 m) : Calls Try.prog 11 #[k.V, .int .i64 n, .int .i64 m] w fun e w' => e = .returned (.bool true) ∧ Below w.heap.size w w' := by
  have HA := Lib.hid (rateAwake HS)
  have H1 := Lib.hid (fun (W : World) (h : Below w.heap.size w W) => HS.ready k n m W h hk hn hm)
  by_cases hE : readyE k n m = 0
  · by_cases hT : takeE k n m = 0
    · have hM : readyM k n m = m := by unfold readyM; rw [if_pos hE, if_pos hT]
      have H2 := Lib.hid (fun (W : World) (h : Below w.heap.size w W) => HS.take k n m W h hk hn hm)
      rw [hE, hM] at H1
      rw [hT] at H2
      obtain ⟨⟨k1, k2, k3, k4⟩, hK⟩ : ∃ K, K = takeK k n m := ⟨_, rfl⟩
      rw [← hK] at H2
      clear HS hk hK hE hT hM hn hm
      obtain ⟨r, b, l, a⟩ := k
      have hb0 : Below w.heap.size w (w.alloc (.cells #[.int .i64 r, .int .i64 b, .int .i64 l, .int .i64 a] 32)) := (Below.refl _ w).alloc (Nat.le_refl _) _
      have g0 := Bx.new w r b l a
      obtain ⟨g0a, g0b, g0c, g0d⟩ := g0.cells
      simp only [Bk.V] at H1 H2 ⊢
      go_enter Try.func11, Try.ntmps11
      go_wp2_with (first
        | (go_at_call 26; with_reducible (refine Calls.mono (H1.out _ hb0) ?_); rintro e w1 ⟨rfl, hb1⟩; have hx1 := chain hb0 hb1; replace g0 := (g0.keep hb1); obtain ⟨g0a, g0b, g0c, g0d⟩ := g0.cells)
        | (go_at_call 15; with_reducible (refine Calls.mono (HA.out _ hx1) ?_); rintro e w2 ⟨rfl, hb2⟩; have hx2 := chain hx1 hb2; replace g0 := (g0.keep hb2); obtain ⟨g0a, g0b, g0c, g0d⟩ := g0.cells)
        | (go_at_call 24; with_reducible (refine Calls.mono (H2.out _ hx2) ?_); rintro e w3 ⟨rfl, hb3⟩; have hx3 := (chain hx2 hb3).alloc (chain hx2 hb3).size (.cells #[.int .i64 k1, .int .i64 k2, .int .i64 k3, .int .i64 k4] 32); replace g0 := (g0.keep hb3).alloc (.cells #[.int .i64 k1, .int .i64 k2, .int .i64 k3, .int .i64 k4] 32); have g3 := Bx.new w3 k1 k2 k3 k4; obtain ⟨g0a, g0b, g0c, g0d⟩ := g0.cells; obtain ⟨g3a, g3b, g3c, g3d⟩ := g3.cells))
      go_ret
      exact ⟨rfl, hx3⟩
    · have hw : takeE k n m = 12 := by
        unfold readyE at hE
        by_cases h : takeE k n m = 12
        · exact h
        · rw [if_neg h] at hE; exact absurd hE hT
      have ho : takeE k n 1099511627776 = 0 := by
        unfold readyE at hE
        rw [if_pos hw] at hE
        by_cases h : takeE k n 1099511627776 = 0
        · exact h
        · rw [if_neg h] at hE; cases hE
      have hM : readyM k n m = firstM k n := by unfold readyM; rw [if_pos hE, if_neg hT]
      obtain ⟨_, f1, f2, f3⟩ := ready_found hw ho
      obtain ⟨hs, t1, t2, _⟩ := take_wait.1 hw
      obtain ⟨s1, s2, s3, s4, s5, s6, s7, s8⟩ := (sound_iff k).1 hs
      obtain ⟨M, hMM⟩ : ∃ M, M = firstM k n := ⟨_, rfl⟩
      rw [hE, hM, ← hMM] at H1
      rw [← hMM] at f1 f2 f3
      have a1 := ((f3 M (by omega) f2).1).2 (Int.le_refl _)
      have a2 := ((f3 (M - 1) (by omega) (by omega)).2).2 (by omega)
      have H2 := Lib.hid (fun (W : World) (h : Below w.heap.size w W) => HS.take k n M W h hk hn (by unfold I64; omega))
      have H3 := Lib.hid (fun (W : World) (h : Below w.heap.size w W) => HS.take k n (M - 1) W h hk hn (by unfold I64; omega))
      rw [a1] at H2
      rw [a2] at H3
      have M0 : 0 ≤ m := by omega
      obtain ⟨⟨k1, k2, k3, k4⟩, hK⟩ : ∃ K, K = takeK k n M := ⟨_, rfl⟩
      rw [← hK] at H2
      obtain ⟨⟨j1, j2, j3, j4⟩, hJ⟩ : ∃ K, K = takeK k n (M - 1) := ⟨_, rfl⟩
      rw [← hJ] at H3
      clear HS hk hK hE hT hM hn hm f3 a1 a2 hMM hw ho hs hJ s1 s2 s3 s4 s5 s6 s7 s8 t1
      obtain ⟨r, b, l, a⟩ := k
      have hb0 : Below w.heap.size w (w.alloc (.cells #[.int .i64 r, .int .i64 b, .int .i64 l, .int .i64 a] 32)) := (Below.refl _ w).alloc (Nat.le_refl _) _
      have g0 := Bx.new w r b l a
      obtain ⟨g0a, g0b, g0c, g0d⟩ := g0.cells
      simp only [Bk.V] at H1 H2 H3 ⊢
      go_enter Try.func11, Try.ntmps11
      go_wp2_with (first
        | (go_at_call 26; with_reducible (refine Calls.mono (H1.out _ hb0) ?_); rintro e w1 ⟨rfl, hb1⟩; have hx1 := chain hb0 hb1; replace g0 := (g0.keep hb1); obtain ⟨g0a, g0b, g0c, g0d⟩ := g0.cells)
        | (go_at_call 15; with_reducible (refine Calls.mono (HA.out _ hx1) ?_); rintro e w2 ⟨rfl, hb2⟩; have hx2 := chain hx1 hb2; replace g0 := (g0.keep hb2); obtain ⟨g0a, g0b, g0c, g0d⟩ := g0.cells)
        | (go_at_call 24; with_reducible (refine Calls.mono (H2.out _ hx2) ?_); rintro e w3 ⟨rfl, hb3⟩; have hx3 := (chain hx2 hb3).alloc (chain hx2 hb3).size (.cells #[.int .i64 k1, .int .i64 k2, .int .i64 k3, .int .i64 k4] 32); replace g0 := (g0.keep hb3).alloc (.cells #[.int .i64 k1, .int .i64 k2, .int .i64 k3, .int .i64 k4] 32); have g3 := Bx.new w3 k1 k2 k3 k4; obtain ⟨g0a, g0b, g0c, g0d⟩ := g0.cells; obtain ⟨g3a, g3b, g3c, g3d⟩ := g3.cells)
        | (go_at_call 24; with_reducible (refine Calls.mono (H3.out _ hx3) ?_); rintro e w4 ⟨rfl, hb4⟩; have hx4 := (chain hx3 hb4).alloc (chain hx3 hb4).size (.cells #[.int .i64 j1, .int .i64 j2, .int .i64 j3, .int .i64 j4] 32); replace g0 := (g0.keep hb4).alloc (.cells #[.int .i64 j1, .int .i64 j2, .int .i64 j3, .int .i64 j4] 32); replace g3 := (g3.keep hb4).alloc (.cells #[.int .i64 j1, .int .i64 j2, .int .i64 j3, .int .i64 j4] 32); have g4 := Bx.new w4 j1 j2 j3 j4; obtain ⟨g0a, g0b, g0c, g0d⟩ := g0.cells; obtain ⟨g3a, g3b, g3c, g3d⟩ := g3.cells; obtain ⟨g4a, g4b, g4c, g4d⟩ := g4.cells))
      go_ret
      exact ⟨rfl, hx4⟩
  · have hM : readyM k n m = 0 := by unfold readyM; rw [if_neg hE]
    obtain ⟨E, hE2⟩ : ∃ E, E = readyE k n m := ⟨_, rfl⟩
    rw [hM, ← hE2] at H1
    rw [← hE2] at hE
    clear HS hk hM hE2 hn hm
    obtain ⟨r, b, l, a⟩ := k
    have hb0 : Below w.heap.size w (w.alloc (.cells #[.int .i64 r, .int .i64 b, .int .i64 l, .int .i64 a] 32)) := (Below.refl _ w).alloc (Nat.le_refl _) _
    have g0 := Bx.new w r b l a
    obtain ⟨g0a, g0b, g0c, g0d⟩ := g0.cells
    simp only [Bk.V] at H1 ⊢
    go_enter Try.func11, Try.ntmps11
    go_wp2_with (first
      | (go_at_call 26; with_reducible (refine Calls.mono (H1.out _ hb0) ?_); rintro e w1 ⟨rfl, hb1⟩; have hx1 := chain hb0 hb1; replace g0 := (g0.keep hb1); obtain ⟨g0a, g0b, g0c, g0d⟩ := g0.cells)
      | (go_at_call 15; with_reducible (refine Calls.mono (HA.out _ hx1) ?_); rintro e w2 ⟨rfl, hb2⟩; have hx2 := chain hx1 hb2; replace g0 := (g0.keep hb2); obtain ⟨g0a, g0b, g0c, g0d⟩ := g0.cells)
      | (go_at_call 15; with_reducible (refine Calls.mono (HA.out _ hx2) ?_); rintro e w3 ⟨rfl, hb3⟩; have hx3 := chain hx2 hb3; replace g0 := (g0.keep hb3); obtain ⟨g0a, g0b, g0c, g0d⟩ := g0.cells))
    go_ret
    exact ⟨rfl, hx3⟩

end Go.Proofs.Ytcliampjgbmeaaa
