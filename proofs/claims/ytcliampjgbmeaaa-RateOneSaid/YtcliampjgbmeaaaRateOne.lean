/-
  RateOne: so many taken at one moment may be taken in two parts.
-/
import Derived.Test.YtcliampjgbmeaaaRateSteps
namespace Go.Proofs.Ytcliampjgbmeaaa
open Go.RowKit

theorem take_sound {k : Bk} {n m : Int} (h : takeE k n m = 0) : takeK k n m = ⟨k.r, k.b, lev k m - 65536 * n, m⟩ ∧ soundB ⟨k.r, k.b, lev k m - 65536 * n, m⟩ = true := by
  obtain ⟨hs, h1, h2, h3, h4, h5⟩ := take_ok.1 h
  obtain ⟨s1, s2, s3, s4, s5, s6, s7, s8⟩ := (sound_iff k).1 hs
  obtain ⟨l1, l2, l3⟩ := lev_bounds hs h1
  refine ⟨if_pos h, (sound_iff _).2 ⟨s1, s2, s3, s4, ?_, ?_, ?_, h2⟩⟩
  · show 0 ≤ lev k m - 65536 * n
    omega
  · show lev k m - 65536 * n ≤ 65536 * k.b
    omega
  · show 0 ≤ m
    omega
theorem take_parts {k : Bk} {x y m : Int} (hx : 0 ≤ x) (hy : 0 ≤ y) (h : takeE k (x + y) m = 0) : takeE k x m = 0 ∧ takeE (takeK k x m) y m = 0 ∧ takeK (takeK k x m) y m = takeK k (x + y) m := by
  obtain ⟨hs, h1, h2, h3, h4, h5⟩ := take_ok.1 h
  have e1 : takeE k x m = 0 := take_ok.2 ⟨hs, h1, h2, hx, by omega, by omega⟩
  obtain ⟨f1, f2⟩ := take_sound e1
  obtain ⟨l1, l2, l3⟩ := lev_bounds hs h1
  have hl : lev ⟨k.r, k.b, lev k m - 65536 * x, m⟩ m = lev k m - 65536 * x := by
    show min (65536 * k.b) (lev k m - 65536 * x + k.r * (m - m)) = _
    rw [Int.sub_self, Int.mul_zero]
    omega
  have e2 : takeE (takeK k x m) y m = 0 := by
    rw [f1]
    refine take_ok.2 ⟨f2, Int.le_refl _, h2, hy, ?_, ?_⟩
    · show y ≤ k.b
      omega
    · rw [hl]; omega
  refine ⟨e1, e2, ?_⟩
  rw [(take_sound e2).1, (take_sound h).1, f1, hl]
  show (⟨k.r, k.b, lev k m - 65536 * x - 65536 * y, m⟩ : Bk) = _
  congr 1
  omega

set_option maxHeartbeats 800000 in
set_option maxRecDepth 20000 in
theorem rateOne_go (k : Bk) (x y : Int) (m : Int) (w : World) (HS : RateSpec w) (hk : k.ok) (hx : 0 ≤ x ∧ x ≤ 255) (hy : 0 ≤ y ∧ y ≤ 255) (hm : I64 m) : Calls Try.prog 13 #[k.V, .int .u8 x, .int .u8 y, .int .i64 m] w fun e w' => e = .returned (.bool true) ∧ Below w.heap.size w w' := by
  have HA := Lib.hid (rateAwake HS)
  obtain ⟨p, hp⟩ : ∃ p : Int, p = x % 40 := ⟨_, rfl⟩
  obtain ⟨q, hq⟩ : ∃ q : Int, q = y % 40 := ⟨_, rfl⟩
  have hp2 : 0 ≤ p ∧ p < 40 := by omega
  have hq2 : 0 ≤ q ∧ q < 40 := by omega
  have ip : I64 p := by unfold I64; omega
  have iq : I64 q := by unfold I64; omega
  have is : I64 (p + q) := by unfold I64; omega
  have tp : Int.tmod x 40 = p := by rw [Int.tmod_eq_emod_of_nonneg hx.1, hp]
  have tq : Int.tmod y 40 = q := by rw [Int.tmod_eq_emod_of_nonneg hy.1, hq]
  have H1 := Lib.hid (fun (W : World) (h : Below w.heap.size w W) => HS.take k (p + q) m W h hk is hm)
  have H2 := Lib.hid (fun (W : World) (h : Below w.heap.size w W) => HS.take k p m W h hk ip hm)
  by_cases hE : takeE k (p + q) m = 0
  · obtain ⟨t1, t2, t3⟩ := take_parts hp2.1 hq2.1 hE
    have hs' := (take_sound t1).2
    rw [← (take_sound t1).1] at hs'
    have H3 := Lib.hid (fun (W : World) (h : Below w.heap.size w W) => HS.take (takeK k p m) q m W h (Bk.ok_sound hs') iq hm)
    rw [t2, t3] at H3
    rw [t1] at H2
    rw [hE] at H1
    obtain ⟨⟨k1, k2, k3, k4⟩, hK⟩ : ∃ K, K = takeK k (p + q) m := ⟨_, rfl⟩
    obtain ⟨⟨j1, j2, j3, j4⟩, hJ⟩ : ∃ K, K = takeK k p m := ⟨_, rfl⟩
    rw [← hK] at H1 H3
    rw [← hJ] at H2 H3
    clear HS hk hK hJ hE hs' t1 t2 t3 hm ip iq is hp hq
    obtain ⟨r, b, l, a⟩ := k
    have hb0 : Below w.heap.size w (w.alloc (.cells #[.int .i64 r, .int .i64 b, .int .i64 l, .int .i64 a] 32)) := (Below.refl _ w).alloc (Nat.le_refl _) _
    have g0 := Bx.new w r b l a
    obtain ⟨g0a, g0b, g0c, g0d⟩ := g0.cells
    simp only [Bk.V] at H1 H2 H3 ⊢
    go_enter Try.func13, Try.ntmps13
    go_wp2_with (first
      | (go_at_call 24; with_reducible (refine Calls.mono (H1.out _ hb0) ?_); rintro e w1 ⟨rfl, hb1⟩; have hx1 := (chain hb0 hb1).alloc (chain hb0 hb1).size (.cells #[.int .i64 k1, .int .i64 k2, .int .i64 k3, .int .i64 k4] 32); replace g0 := (g0.keep hb1).alloc (.cells #[.int .i64 k1, .int .i64 k2, .int .i64 k3, .int .i64 k4] 32); have g1 := Bx.new w1 k1 k2 k3 k4; obtain ⟨g0a, g0b, g0c, g0d⟩ := g0.cells; obtain ⟨g1a, g1b, g1c, g1d⟩ := g1.cells)
      | (go_at_call 15; with_reducible (refine Calls.mono (HA.out _ hx1) ?_); rintro e w2 ⟨rfl, hb2⟩; have hx2 := chain hx1 hb2; replace g0 := (g0.keep hb2); replace g1 := (g1.keep hb2); obtain ⟨g0a, g0b, g0c, g0d⟩ := g0.cells; obtain ⟨g1a, g1b, g1c, g1d⟩ := g1.cells)
      | (go_at_call 24; with_reducible (refine Calls.mono (H2.out _ hx2) ?_); rintro e w3 ⟨rfl, hb3⟩; have hx3 := (chain hx2 hb3).alloc (chain hx2 hb3).size (.cells #[.int .i64 j1, .int .i64 j2, .int .i64 j3, .int .i64 j4] 32); replace g0 := (g0.keep hb3).alloc (.cells #[.int .i64 j1, .int .i64 j2, .int .i64 j3, .int .i64 j4] 32); replace g1 := (g1.keep hb3).alloc (.cells #[.int .i64 j1, .int .i64 j2, .int .i64 j3, .int .i64 j4] 32); have g3 := Bx.new w3 j1 j2 j3 j4; obtain ⟨g0a, g0b, g0c, g0d⟩ := g0.cells; obtain ⟨g1a, g1b, g1c, g1d⟩ := g1.cells; obtain ⟨g3a, g3b, g3c, g3d⟩ := g3.cells)
      | (go_at_call 24; with_reducible (refine Calls.mono (H3.out _ hx3) ?_); rintro e w4 ⟨rfl, hb4⟩; have hx4 := (chain hx3 hb4).alloc (chain hx3 hb4).size (.cells #[.int .i64 k1, .int .i64 k2, .int .i64 k3, .int .i64 k4] 32); replace g0 := (g0.keep hb4).alloc (.cells #[.int .i64 k1, .int .i64 k2, .int .i64 k3, .int .i64 k4] 32); replace g1 := (g1.keep hb4).alloc (.cells #[.int .i64 k1, .int .i64 k2, .int .i64 k3, .int .i64 k4] 32); replace g3 := (g3.keep hb4).alloc (.cells #[.int .i64 k1, .int .i64 k2, .int .i64 k3, .int .i64 k4] 32); have g4 := Bx.new w4 k1 k2 k3 k4; obtain ⟨g0a, g0b, g0c, g0d⟩ := g0.cells; obtain ⟨g1a, g1b, g1c, g1d⟩ := g1.cells; obtain ⟨g3a, g3b, g3c, g3d⟩ := g3.cells; obtain ⟨g4a, g4b, g4c, g4d⟩ := g4.cells))
    go_ret
    exact ⟨rfl, hx4⟩
  · obtain ⟨⟨k1, k2, k3, k4⟩, hK⟩ : ∃ K, K = takeK k (p + q) m := ⟨_, rfl⟩
    obtain ⟨E, hE2⟩ : ∃ E, E = takeE k (p + q) m := ⟨_, rfl⟩
    rw [← hK, ← hE2] at H1
    rw [← hE2] at hE
    clear HS hk hK H2 hE2 hm ip iq is hp hq
    obtain ⟨r, b, l, a⟩ := k
    have hb0 : Below w.heap.size w (w.alloc (.cells #[.int .i64 r, .int .i64 b, .int .i64 l, .int .i64 a] 32)) := (Below.refl _ w).alloc (Nat.le_refl _) _
    have g0 := Bx.new w r b l a
    obtain ⟨g0a, g0b, g0c, g0d⟩ := g0.cells
    simp only [Bk.V] at H1 ⊢
    go_enter Try.func13, Try.ntmps13
    go_wp2_with (first
      | (go_at_call 24; with_reducible (refine Calls.mono (H1.out _ hb0) ?_); rintro e w1 ⟨rfl, hb1⟩; have hx1 := (chain hb0 hb1).alloc (chain hb0 hb1).size (.cells #[.int .i64 k1, .int .i64 k2, .int .i64 k3, .int .i64 k4] 32); replace g0 := (g0.keep hb1).alloc (.cells #[.int .i64 k1, .int .i64 k2, .int .i64 k3, .int .i64 k4] 32); have g1 := Bx.new w1 k1 k2 k3 k4; obtain ⟨g0a, g0b, g0c, g0d⟩ := g0.cells; obtain ⟨g1a, g1b, g1c, g1d⟩ := g1.cells)
      | (go_at_call 15; with_reducible (refine Calls.mono (HA.out _ hx1) ?_); rintro e w2 ⟨rfl, hb2⟩; have hx2 := chain hx1 hb2; replace g0 := (g0.keep hb2); replace g1 := (g1.keep hb2); obtain ⟨g0a, g0b, g0c, g0d⟩ := g0.cells; obtain ⟨g1a, g1b, g1c, g1d⟩ := g1.cells)
      | (go_at_call 15; with_reducible (refine Calls.mono (HA.out _ hx2) ?_); rintro e w3 ⟨rfl, hb3⟩; have hx3 := chain hx2 hb3; replace g0 := (g0.keep hb3); replace g1 := (g1.keep hb3); obtain ⟨g0a, g0b, g0c, g0d⟩ := g0.cells; obtain ⟨g1a, g1b, g1c, g1d⟩ := g1.cells))
    go_ret
    exact ⟨rfl, hx3⟩

end Go.Proofs.Ytcliampjgbmeaaa
