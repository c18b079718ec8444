/-
  RateIdle: without a rate nothing comes; with one a bucket is full in the end.
-/
import Derived.Test.YtcliampjgbmeaaaRateSteps
namespace Go.Proofs.Ytcliampjgbmeaaa
open Go.RowKit

theorem lev_idle {k : Bk} (hs : soundB k = true) {m : Int} (h : k.a ≤ m) : (k.r = 0 → lev k m = k.l) ∧ (k.r ≠ 0 → 65536 * k.b ≤ m - k.a → lev k m = 65536 * k.b) := by
  obtain ⟨s1, s2, s3, s4, s5, s6, s7, s8⟩ := (sound_iff k).1 hs
  constructor
  · intro hr
    unfold lev
    rw [hr]
    omega
  · intro hr hf
    have := mul_ge_one (a := k.r) (b := m - k.a) (by omega) (by omega)
    unfold lev
    omega

set_option maxHeartbeats 800000 in
set_option maxRecDepth 20000 in
theorem rateIdle_go (k : Bk) (m : Int) (w : World) (HS : RateSpec w) (hk : k.ok) (hm : I64 m) : Calls Try.prog 12 #[k.V, .int .i64 m] w fun e w' => e = .returned (.bool true) ∧ Below w.heap.size w w' := by
  have HA := Lib.hid (rateAwake HS)
  have H1 := Lib.hid (fun (W : World) (h : Below w.heap.size w W) => HS.fill k m W h hk hm)
  by_cases hE : fillE k m = 0
  · obtain ⟨hf, _⟩ := fill_sound hE
    obtain ⟨hs, h1, h2⟩ := fill_ok.1 hE
    obtain ⟨s1, s2, s3, s4, s5, s6, s7, s8⟩ := (sound_iff k).1 hs
    obtain ⟨i1, i2⟩ := lev_idle hs h1
    obtain ⟨l1, l2, l3⟩ := lev_bounds hs h1
    rw [hE, hf] at H1
    obtain ⟨LV, hLV⟩ : ∃ LV, LV = lev k m := ⟨_, rfl⟩
    rw [← hLV] at H1 i1 i2 l1 l2 l3
    clear HS hk hE hf hs hLV hm
    obtain ⟨r, b, l, a⟩ := k
    have hb0 : Below w.heap.size w (w.alloc (.cells #[.int .i64 r, .int .i64 b, .int .i64 l, .int .i64 a] 32)) := (Below.refl _ w).alloc (Nat.le_refl _) _
    have g0 := Bx.new w r b l a
    obtain ⟨g0a, g0b, g0c, g0d⟩ := g0.cells
    simp only [Bk.V] at *
    by_cases c1 : r = 0
    · have e1 := i1 c1
      clear i1 i2
      subst c1 e1
      go_enter Try.func12, Try.ntmps12
      go_wp2_with (first
        | (go_at_call 22; with_reducible (refine Calls.mono (H1.out _ hb0) ?_); rintro e w1 ⟨rfl, hb1⟩; have hx1 := (chain hb0 hb1).alloc (chain hb0 hb1).size (.cells #[.int .i64 0, .int .i64 b, .int .i64 LV, .int .i64 m] 32); replace g0 := (g0.keep hb1).alloc (.cells #[.int .i64 0, .int .i64 b, .int .i64 LV, .int .i64 m] 32); have g1 := Bx.new w1 0 b LV m; obtain ⟨g0a, g0b, g0c, g0d⟩ := g0.cells; obtain ⟨g1a, g1b, g1c, g1d⟩ := g1.cells)
        | (go_at_call 15; with_reducible (refine Calls.mono (HA.out _ hx1) ?_); rintro e w2 ⟨rfl, hb2⟩; have hx2 := chain hx1 hb2; replace g0 := (g0.keep hb2); replace g1 := (g1.keep hb2); obtain ⟨g0a, g0b, g0c, g0d⟩ := g0.cells; obtain ⟨g1a, g1b, g1c, g1d⟩ := g1.cells))
      go_ret
      exact ⟨rfl, hx2⟩
    · by_cases c2 : 65536 * b ≤ m - a
      · have e1 := i2 c1 c2
        clear i1 i2
        subst e1
        go_enter Try.func12, Try.ntmps12
        go_wp2_with (first
          | (go_at_call 22; with_reducible (refine Calls.mono (H1.out _ hb0) ?_); rintro e w1 ⟨rfl, hb1⟩; have hx1 := (chain hb0 hb1).alloc (chain hb0 hb1).size (.cells #[.int .i64 r, .int .i64 b, .int .i64 (65536 * b), .int .i64 m] 32); replace g0 := (g0.keep hb1).alloc (.cells #[.int .i64 r, .int .i64 b, .int .i64 (65536 * b), .int .i64 m] 32); have g1 := Bx.new w1 r b (65536 * b) m; obtain ⟨g0a, g0b, g0c, g0d⟩ := g0.cells; obtain ⟨g1a, g1b, g1c, g1d⟩ := g1.cells)
          | (go_at_call 15; with_reducible (refine Calls.mono (HA.out _ hx1) ?_); rintro e w2 ⟨rfl, hb2⟩; have hx2 := chain hx1 hb2; replace g0 := (g0.keep hb2); replace g1 := (g1.keep hb2); obtain ⟨g0a, g0b, g0c, g0d⟩ := g0.cells; obtain ⟨g1a, g1b, g1c, g1d⟩ := g1.cells))
        go_ret
        exact ⟨rfl, hx2⟩
      · clear i1 i2
        go_enter Try.func12, Try.ntmps12
        go_wp2_with (first
          | (go_at_call 22; with_reducible (refine Calls.mono (H1.out _ hb0) ?_); rintro e w1 ⟨rfl, hb1⟩; have hx1 := (chain hb0 hb1).alloc (chain hb0 hb1).size (.cells #[.int .i64 r, .int .i64 b, .int .i64 LV, .int .i64 m] 32); replace g0 := (g0.keep hb1).alloc (.cells #[.int .i64 r, .int .i64 b, .int .i64 LV, .int .i64 m] 32); have g1 := Bx.new w1 r b LV m; obtain ⟨g0a, g0b, g0c, g0d⟩ := g0.cells; obtain ⟨g1a, g1b, g1c, g1d⟩ := g1.cells)
          | (go_at_call 15; with_reducible (refine Calls.mono (HA.out _ hx1) ?_); rintro e w2 ⟨rfl, hb2⟩; have hx2 := chain hx1 hb2; replace g0 := (g0.keep hb2); replace g1 := (g1.keep hb2); obtain ⟨g0a, g0b, g0c, g0d⟩ := g0.cells; obtain ⟨g1a, g1b, g1c, g1d⟩ := g1.cells))
        go_ret
        exact ⟨rfl, hx2⟩
  · obtain ⟨⟨k1, k2, k3, k4⟩, hK⟩ : ∃ K, K = fillK k m := ⟨_, rfl⟩
    obtain ⟨E, hE2⟩ : ∃ E, E = fillE k m := ⟨_, rfl⟩
    rw [← hK, ← hE2] at H1
    rw [← hE2] at hE
    clear HS hk hK hE2 hm
    obtain ⟨r, b, l, a⟩ := k
    have hb0 : Below w.heap.size w (w.alloc (.cells #[.int .i64 r, .int .i64 b, .int .i64 l, .int .i64 a] 32)) := (Below.refl _ w).alloc (Nat.le_refl _) _
    have g0 := Bx.new w r b l a
    obtain ⟨g0a, g0b, g0c, g0d⟩ := g0.cells
    simp only [Bk.V] at H1 ⊢
    go_enter Try.func12, Try.ntmps12
    go_wp2_with (first
      | (go_at_call 22; with_reducible (refine Calls.mono (H1.out _ hb0) ?_); rintro e w1 ⟨rfl, hb1⟩; have hx1 := (chain hb0 hb1).alloc (chain hb0 hb1).size (.cells #[.int .i64 k1, .int .i64 k2, .int .i64 k3, .int .i64 k4] 32); replace g0 := (g0.keep hb1).alloc (.cells #[.int .i64 k1, .int .i64 k2, .int .i64 k3, .int .i64 k4] 32); have g1 := Bx.new w1 k1 k2 k3 k4; obtain ⟨g0a, g0b, g0c, g0d⟩ := g0.cells; obtain ⟨g1a, g1b, g1c, g1d⟩ := g1.cells)
      | (go_at_call 15; with_reducible (refine Calls.mono (HA.out _ hx1) ?_); rintro e w2 ⟨rfl, hb2⟩; have hx2 := chain hx1 hb2; replace g0 := (g0.keep hb2); replace g1 := (g1.keep hb2); obtain ⟨g0a, g0b, g0c, g0d⟩ := g0.cells; obtain ⟨g1a, g1b, g1c, g1d⟩ := g1.cells)
      | (go_at_call 15; with_reducible (refine Calls.mono (HA.out _ hx2) ?_); rintro e w3 ⟨rfl, hb3⟩; have hx3 := chain hx2 hb3; replace g0 := (g0.keep hb3); replace g1 := (g1.keep hb3); obtain ⟨g0a, g0b, g0c, g0d⟩ := g0.cells; obtain ⟨g1a, g1b, g1c, g1d⟩ := g1.cells))
    go_ret
    exact ⟨rfl, hx3⟩

end Go.Proofs.Ytcliampjgbmeaaa
