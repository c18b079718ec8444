/-
  RateSteps: a bucket that is filled twice is filled as at once.
-/
import Derived.Test.YtcliampjgbmeaaaRateSpec
namespace Go.Proofs.Ytcliampjgbmeaaa
open Go.RowKit

theorem Bk.ok_sound {k : Bk} (h : soundB k = true) : k.ok := by
  obtain ⟨a, b, c, d, e, f, g, i⟩ := fill_ok_bounds h
  exact ⟨⟨a, b⟩, ⟨c, d⟩, ⟨e, f⟩, ⟨g, i⟩⟩

set_option maxHeartbeats 800000 in
set_option maxRecDepth 20000 in
theorem rateSteps_go (k : Bk) (x y : Int) (w : World) (HS : RateSpec w) (hk : k.ok) (hx : I64 x) (hy : I64 y) : Calls Try.prog 9 #[k.V, .int .i64 x, .int .i64 y] w fun e w' => e = .returned (.bool true) ∧ Below w.heap.size w w' := by
  have HA := Lib.hid (rateAwake HS)
  obtain ⟨p, q, hp, hq, hpq, hpp, hqq⟩ : ∃ p q : Int, I64 p ∧ I64 q ∧ p ≤ q ∧ p = min x y ∧ q = max x y := ⟨min x y, max x y, by unfold I64 at *; omega, by unfold I64 at *; omega, by omega, rfl, rfl⟩
  have H1 := Lib.hid (fun (W : World) (h : Below w.heap.size w W) => HS.fill k p W h hk hp)
  have H3 := Lib.hid (fun (W : World) (h : Below w.heap.size w W) => HS.fill k q W h hk hq)
  by_cases hE : fillE k p = 0
  · obtain ⟨hf, hs'⟩ := fill_sound hE
    have H2 := Lib.hid (fun (W : World) (h : Below w.heap.size w W) => HS.fill (fillK k p) q W h (by rw [hf]; exact Bk.ok_sound hs') hq)
    rw [(fill_fill hE hpq).1, (fill_fill hE hpq).2] at H2
    rw [hE] at H1
    obtain ⟨⟨k1, k2, k3, k4⟩, hK⟩ : ∃ K, K = fillK k p := ⟨_, rfl⟩
    obtain ⟨⟨j1, j2, j3, j4⟩, hJ⟩ : ∃ K, K = fillK k q := ⟨_, rfl⟩
    obtain ⟨E, hE2⟩ : ∃ E, E = fillE k q := ⟨_, rfl⟩
    rw [← hK] at H1 H2
    rw [← hJ, ← hE2] at H2 H3
    clear HS hk hK hJ hE hE2 hf hs' hp hq hx hy
    obtain ⟨r, b, l, a⟩ := k
    have hb0 : Below w.heap.size w (w.alloc (.cells #[.int .i64 r, .int .i64 b, .int .i64 l, .int .i64 a] 32)) := (Below.refl _ w).alloc (Nat.le_refl _) _
    have g0 := Bx.new w r b l a
    obtain ⟨g0a, g0b, g0c, g0d⟩ := g0.cells
    simp only [Bk.V] at H1 H2 H3 ⊢
    by_cases hxy : y < x
    · rw [show p = y by omega] at H1
      rw [show q = x by omega] at H2 H3
      clear hpp hqq hpq
      go_enter Try.func9, Try.ntmps9
      go_wp2_with (first
        | (go_at_call 22; with_reducible (refine Calls.mono (H1.out _ hb0) ?_); rintro e w1 ⟨rfl, hb1⟩; have hx1 := (chain hb0 hb1).alloc (chain hb0 hb1).size (.cells #[.int .i64 k1, .int .i64 k2, .int .i64 k3, .int .i64 k4] 32); replace g0 := (g0.keep hb1).alloc (.cells #[.int .i64 k1, .int .i64 k2, .int .i64 k3, .int .i64 k4] 32); have g1 := Bx.new w1 k1 k2 k3 k4; obtain ⟨g0a, g0b, g0c, g0d⟩ := g0.cells; obtain ⟨g1a, g1b, g1c, g1d⟩ := g1.cells)
        | (go_at_call 15; with_reducible (refine Calls.mono (HA.out _ hx1) ?_); rintro e w2 ⟨rfl, hb2⟩; have hx2 := chain hx1 hb2; replace g0 := (g0.keep hb2); replace g1 := (g1.keep hb2); obtain ⟨g0a, g0b, g0c, g0d⟩ := g0.cells; obtain ⟨g1a, g1b, g1c, g1d⟩ := g1.cells)
        | (go_at_call 22; with_reducible (refine Calls.mono (H2.out _ hx2) ?_); rintro e w3 ⟨rfl, hb3⟩; have hx3 := (chain hx2 hb3).alloc (chain hx2 hb3).size (.cells #[.int .i64 j1, .int .i64 j2, .int .i64 j3, .int .i64 j4] 32); replace g0 := (g0.keep hb3).alloc (.cells #[.int .i64 j1, .int .i64 j2, .int .i64 j3, .int .i64 j4] 32); replace g1 := (g1.keep hb3).alloc (.cells #[.int .i64 j1, .int .i64 j2, .int .i64 j3, .int .i64 j4] 32); have g3 := Bx.new w3 j1 j2 j3 j4; obtain ⟨g0a, g0b, g0c, g0d⟩ := g0.cells; obtain ⟨g1a, g1b, g1c, g1d⟩ := g1.cells; obtain ⟨g3a, g3b, g3c, g3d⟩ := g3.cells)
        | (go_at_call 22; with_reducible (refine Calls.mono (H3.out _ hx3) ?_); rintro e w4 ⟨rfl, hb4⟩; have hx4 := (chain hx3 hb4).alloc (chain hx3 hb4).size (.cells #[.int .i64 j1, .int .i64 j2, .int .i64 j3, .int .i64 j4] 32); replace g0 := (g0.keep hb4).alloc (.cells #[.int .i64 j1, .int .i64 j2, .int .i64 j3, .int .i64 j4] 32); replace g1 := (g1.keep hb4).alloc (.cells #[.int .i64 j1, .int .i64 j2, .int .i64 j3, .int .i64 j4] 32); replace g3 := (g3.keep hb4).alloc (.cells #[.int .i64 j1, .int .i64 j2, .int .i64 j3, .int .i64 j4] 32); have g4 := Bx.new w4 j1 j2 j3 j4; obtain ⟨g0a, g0b, g0c, g0d⟩ := g0.cells; obtain ⟨g1a, g1b, g1c, g1d⟩ := g1.cells; obtain ⟨g3a, g3b, g3c, g3d⟩ := g3.cells; obtain ⟨g4a, g4b, g4c, g4d⟩ := g4.cells))
      go_ret
      exact ⟨rfl, hx4⟩
    · rw [show p = x by omega] at H1
      rw [show q = y by omega] at H2 H3
      clear hpp hqq hpq
      go_enter Try.func9, Try.ntmps9
      go_wp2_with (first
        | (go_at_call 22; with_reducible (refine Calls.mono (H1.out _ hb0) ?_); rintro e w1 ⟨rfl, hb1⟩; have hx1 := (chain hb0 hb1).alloc (chain hb0 hb1).size (.cells #[.int .i64 k1, .int .i64 k2, .int .i64 k3, .int .i64 k4] 32); replace g0 := (g0.keep hb1).alloc (.cells #[.int .i64 k1, .int .i64 k2, .int .i64 k3, .int .i64 k4] 32); have g1 := Bx.new w1 k1 k2 k3 k4; obtain ⟨g0a, g0b, g0c, g0d⟩ := g0.cells; obtain ⟨g1a, g1b, g1c, g1d⟩ := g1.cells)
        | (go_at_call 15; with_reducible (refine Calls.mono (HA.out _ hx1) ?_); rintro e w2 ⟨rfl, hb2⟩; have hx2 := chain hx1 hb2; replace g0 := (g0.keep hb2); replace g1 := (g1.keep hb2); obtain ⟨g0a, g0b, g0c, g0d⟩ := g0.cells; obtain ⟨g1a, g1b, g1c, g1d⟩ := g1.cells)
        | (go_at_call 22; with_reducible (refine Calls.mono (H2.out _ hx2) ?_); rintro e w3 ⟨rfl, hb3⟩; have hx3 := (chain hx2 hb3).alloc (chain hx2 hb3).size (.cells #[.int .i64 j1, .int .i64 j2, .int .i64 j3, .int .i64 j4] 32); replace g0 := (g0.keep hb3).alloc (.cells #[.int .i64 j1, .int .i64 j2, .int .i64 j3, .int .i64 j4] 32); replace g1 := (g1.keep hb3).alloc (.cells #[.int .i64 j1, .int .i64 j2, .int .i64 j3, .int .i64 j4] 32); have g3 := Bx.new w3 j1 j2 j3 j4; obtain ⟨g0a, g0b, g0c, g0d⟩ := g0.cells; obtain ⟨g1a, g1b, g1c, g1d⟩ := g1.cells; obtain ⟨g3a, g3b, g3c, g3d⟩ := g3.cells)
        | (go_at_call 22; with_reducible (refine Calls.mono (H3.out _ hx3) ?_); rintro e w4 ⟨rfl, hb4⟩; have hx4 := (chain hx3 hb4).alloc (chain hx3 hb4).size (.cells #[.int .i64 j1, .int .i64 j2, .int .i64 j3, .int .i64 j4] 32); replace g0 := (g0.keep hb4).alloc (.cells #[.int .i64 j1, .int .i64 j2, .int .i64 j3, .int .i64 j4] 32); replace g1 := (g1.keep hb4).alloc (.cells #[.int .i64 j1, .int .i64 j2, .int .i64 j3, .int .i64 j4] 32); replace g3 := (g3.keep hb4).alloc (.cells #[.int .i64 j1, .int .i64 j2, .int .i64 j3, .int .i64 j4] 32); have g4 := Bx.new w4 j1 j2 j3 j4; obtain ⟨g0a, g0b, g0c, g0d⟩ := g0.cells; obtain ⟨g1a, g1b, g1c, g1d⟩ := g1.cells; obtain ⟨g3a, g3b, g3c, g3d⟩ := g3.cells; obtain ⟨g4a, g4b, g4c, g4d⟩ := g4.cells))
      go_ret
      exact ⟨rfl, hx4⟩
  · obtain ⟨⟨k1, k2, k3, k4⟩, hK⟩ : ∃ K, K = fillK k p := ⟨_, rfl⟩
    obtain ⟨E, hE2⟩ : ∃ E, E = fillE k p := ⟨_, rfl⟩
    rw [← hK, ← hE2] at H1
    rw [← hE2] at hE
    clear HS hk hK H3 hE2 hp hq hx hy
    obtain ⟨r, b, l, a⟩ := k
    have hb0 : Below w.heap.size w (w.alloc (.cells #[.int .i64 r, .int .i64 b, .int .i64 l, .int .i64 a] 32)) := (Below.refl _ w).alloc (Nat.le_refl _) _
    have g0 := Bx.new w r b l a
    obtain ⟨g0a, g0b, g0c, g0d⟩ := g0.cells
    simp only [Bk.V] at H1 ⊢
    by_cases hxy : y < x
    · rw [show p = y by omega] at H1
      clear hpp hqq hpq
      go_enter Try.func9, Try.ntmps9
      go_wp2_with (first
        | (go_at_call 22; with_reducible (refine Calls.mono (H1.out _ hb0) ?_); rintro e w1 ⟨rfl, hb1⟩; have hx1 := (chain hb0 hb1).alloc (chain hb0 hb1).size (.cells #[.int .i64 k1, .int .i64 k2, .int .i64 k3, .int .i64 k4] 32); replace g0 := (g0.keep hb1).alloc (.cells #[.int .i64 k1, .int .i64 k2, .int .i64 k3, .int .i64 k4] 32); have g1 := Bx.new w1 k1 k2 k3 k4; obtain ⟨g0a, g0b, g0c, g0d⟩ := g0.cells; obtain ⟨g1a, g1b, g1c, g1d⟩ := g1.cells)
        | (go_at_call 15; with_reducible (refine Calls.mono (HA.out _ hx1) ?_); rintro e w2 ⟨rfl, hb2⟩; have hx2 := chain hx1 hb2; replace g0 := (g0.keep hb2); replace g1 := (g1.keep hb2); obtain ⟨g0a, g0b, g0c, g0d⟩ := g0.cells; obtain ⟨g1a, g1b, g1c, g1d⟩ := g1.cells)
        | (go_at_call 15; with_reducible (refine Calls.mono (HA.out _ hx2) ?_); rintro e w3 ⟨rfl, hb3⟩; have hx3 := chain hx2 hb3; replace g0 := (g0.keep hb3); replace g1 := (g1.keep hb3); obtain ⟨g0a, g0b, g0c, g0d⟩ := g0.cells; obtain ⟨g1a, g1b, g1c, g1d⟩ := g1.cells))
      go_ret
      exact ⟨rfl, hx3⟩
    · rw [show p = x by omega] at H1
      clear hpp hqq hpq
      go_enter Try.func9, Try.ntmps9
      go_wp2_with (first
        | (go_at_call 22; with_reducible (refine Calls.mono (H1.out _ hb0) ?_); rintro e w1 ⟨rfl, hb1⟩; have hx1 := (chain hb0 hb1).alloc (chain hb0 hb1).size (.cells #[.int .i64 k1, .int .i64 k2, .int .i64 k3, .int .i64 k4] 32); replace g0 := (g0.keep hb1).alloc (.cells #[.int .i64 k1, .int .i64 k2, .int .i64 k3, .int .i64 k4] 32); have g1 := Bx.new w1 k1 k2 k3 k4; obtain ⟨g0a, g0b, g0c, g0d⟩ := g0.cells; obtain ⟨g1a, g1b, g1c, g1d⟩ := g1.cells)
        | (go_at_call 15; with_reducible (refine Calls.mono (HA.out _ hx1) ?_); rintro e w2 ⟨rfl, hb2⟩; have hx2 := chain hx1 hb2; replace g0 := (g0.keep hb2); replace g1 := (g1.keep hb2); obtain ⟨g0a, g0b, g0c, g0d⟩ := g0.cells; obtain ⟨g1a, g1b, g1c, g1d⟩ := g1.cells)
        | (go_at_call 15; with_reducible (refine Calls.mono (HA.out _ hx2) ?_); rintro e w3 ⟨rfl, hb3⟩; have hx3 := chain hx2 hb3; replace g0 := (g0.keep hb3); replace g1 := (g1.keep hb3); obtain ⟨g0a, g0b, g0c, g0d⟩ := g0.cells; obtain ⟨g1a, g1b, g1c, g1d⟩ := g1.cells))
      go_ret
      exact ⟨rfl, hx3⟩

end Go.Proofs.Ytcliampjgbmeaaa
