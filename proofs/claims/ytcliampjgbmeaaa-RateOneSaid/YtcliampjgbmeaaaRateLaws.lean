/-
  RateFills, RateTakes, RateReady, from what is asked of the layer's calls.
-/
import Derived.Test.YtcliampjgbmeaaaRateSpec
namespace Go.Proofs.Ytcliampjgbmeaaa
open Go.RowKit

set_option maxHeartbeats 800000 in
set_option maxRecDepth 20000 in
/-- RateFills. -/
theorem rateFills_go (k : Bk) (m : Int) (w : World) (HS : RateSpec w) (hk : k.ok) (hm : I64 m) : Calls Try.prog 6 #[k.V, .int .i64 m] w fun e w' => e = .returned (.bool true) ∧ Below w.heap.size w w' := by
  have HA := Lib.hid (rateAwake HS)
  have H1 := Lib.hid (fun (W : World) (h : Below w.heap.size w W) => HS.fill k m W h hk hm)
  have H2 := Lib.hid (fun (W : World) => refFilled_any k m W)
  obtain ⟨⟨k1, k2, k3, k4⟩, hK⟩ : ∃ K, K = fillK k m := ⟨_, rfl⟩
  obtain ⟨E, hE⟩ : ∃ E, E = fillE k m := ⟨_, rfl⟩
  rw [← hK, ← hE] at H1 H2
  clear HS hk hK hE
  obtain ⟨r, b, l, a⟩ := k
  have hb0 : Below w.heap.size w (w.alloc (.cells #[.int .i64 r, .int .i64 b, .int .i64 l, .int .i64 a] 32)) := (Below.refl _ w).alloc (Nat.le_refl _) _
  have g0 := Bx.new w r b l a
  obtain ⟨o0, o1, o2, o3⟩ := g0.cells
  simp only [Bk.V] at H1 H2 ⊢
  go_enter Try.func6, Try.ntmps6
  go_wp2_with (first
    | (go_at_call 22; with_reducible (refine Calls.mono (H1.out _ hb0) ?_); rintro e w1 ⟨rfl, hb1⟩; have hx1 := (chain hb0 hb1).alloc (chain hb0 hb1).size (.cells #[.int .i64 k1, .int .i64 k2, .int .i64 k3, .int .i64 k4] 32); have g1 := Bx.new w1 k1 k2 k3 k4; replace g0 := (g0.keep hb1).alloc (.cells #[.int .i64 k1, .int .i64 k2, .int .i64 k3, .int .i64 k4] 32); obtain ⟨r0, r1, r2, r3⟩ := g0.cells)
    | (go_at_call 23; with_reducible (refine Calls.mono (H2.out _) ?_); rintro e w2 ⟨rfl, hb2⟩; have hx2 := (chain hx1 hb2).alloc (chain hx1 hb2).size (.cells #[.int .i64 k1, .int .i64 k2, .int .i64 k3, .int .i64 k4] 32); have g2 := Bx.new w2 k1 k2 k3 k4; replace g1 := (g1.keep hb2).alloc (.cells #[.int .i64 k1, .int .i64 k2, .int .i64 k3, .int .i64 k4] 32))
    | (go_at_call 15; with_reducible (refine Calls.mono (HA.out _ hx2) ?_); rintro e w3 ⟨rfl, hb3⟩; have hx3 := chain hx2 hb3; obtain ⟨p0, p1, p2, p3⟩ := (g1.keep hb3).cells; obtain ⟨q0, q1, q2, q3⟩ := (g2.keep hb3).cells))
  go_ret
  exact ⟨rfl, hx3⟩

set_option maxHeartbeats 800000 in
set_option maxRecDepth 20000 in
/-- RateTakes. -/
theorem rateTakes_go (k : Bk) (n m : Int) (w : World) (HS : RateSpec w) (hk : k.ok) (hn : I64 n) (hm : I64 m) : Calls Try.prog 7 #[k.V, .int .i64 n, .int .i64 m] w fun e w' => e = .returned (.bool true) ∧ Below w.heap.size w w' := by
  have HA := Lib.hid (rateAwake HS)
  have H1 := Lib.hid (fun (W : World) (h : Below w.heap.size w W) => HS.take k n m W h hk hn hm)
  have H2 := Lib.hid (fun (W : World) => refTake_any k n m W)
  obtain ⟨⟨k1, k2, k3, k4⟩, hK⟩ : ∃ K, K = takeK k n m := ⟨_, rfl⟩
  obtain ⟨E, hE⟩ : ∃ E, E = takeE k n m := ⟨_, rfl⟩
  rw [← hK, ← hE] at H1 H2
  clear HS hk hK hE
  obtain ⟨r, b, l, a⟩ := k
  have hb0 : Below w.heap.size w (w.alloc (.cells #[.int .i64 r, .int .i64 b, .int .i64 l, .int .i64 a] 32)) := (Below.refl _ w).alloc (Nat.le_refl _) _
  have g0 := Bx.new w r b l a
  obtain ⟨o0, o1, o2, o3⟩ := g0.cells
  simp only [Bk.V] at H1 H2 ⊢
  go_enter Try.func7, Try.ntmps7
  go_wp2_with (first
    | (go_at_call 24; with_reducible (refine Calls.mono (H1.out _ hb0) ?_); rintro e w1 ⟨rfl, hb1⟩; have hx1 := (chain hb0 hb1).alloc (chain hb0 hb1).size (.cells #[.int .i64 k1, .int .i64 k2, .int .i64 k3, .int .i64 k4] 32); have g1 := Bx.new w1 k1 k2 k3 k4; replace g0 := (g0.keep hb1).alloc (.cells #[.int .i64 k1, .int .i64 k2, .int .i64 k3, .int .i64 k4] 32); obtain ⟨r0, r1, r2, r3⟩ := g0.cells)
    | (go_at_call 25; with_reducible (refine Calls.mono (H2.out _) ?_); rintro e w2 ⟨rfl, hb2⟩; have hx2 := (chain hx1 hb2).alloc (chain hx1 hb2).size (.cells #[.int .i64 k1, .int .i64 k2, .int .i64 k3, .int .i64 k4] 32); have g2 := Bx.new w2 k1 k2 k3 k4; replace g1 := (g1.keep hb2).alloc (.cells #[.int .i64 k1, .int .i64 k2, .int .i64 k3, .int .i64 k4] 32))
    | (go_at_call 15; with_reducible (refine Calls.mono (HA.out _ hx2) ?_); rintro e w3 ⟨rfl, hb3⟩; have hx3 := chain hx2 hb3; obtain ⟨p0, p1, p2, p3⟩ := (g1.keep hb3).cells; obtain ⟨q0, q1, q2, q3⟩ := (g2.keep hb3).cells))
  go_ret
  exact ⟨rfl, hx3⟩

set_option maxHeartbeats 800000 in
set_option maxRecDepth 20000 in
/-- RateReady. -/
theorem rateReady_go (k : Bk) (n m : Int) (w : World) (HS : RateSpec w) (hk : k.ok) (hn : I64 n) (hm : I64 m) : Calls Try.prog 8 #[k.V, .int .i64 n, .int .i64 m] w fun e w' => e = .returned (.bool true) ∧ Below w.heap.size w w' := by
  have HA := Lib.hid (rateAwake HS)
  have H1 := Lib.hid (fun (W : World) (h : Below w.heap.size w W) => HS.ready k n m W h hk hn hm)
  have H2 := Lib.hid (fun (W : World) => refReady_any k n m W hm)
  obtain ⟨M, hM⟩ : ∃ M, M = readyM k n m := ⟨_, rfl⟩
  obtain ⟨E, hE⟩ : ∃ E, E = readyE k n m := ⟨_, rfl⟩
  rw [← hM, ← hE] at H1 H2
  clear HS hk hM hE hn hm
  obtain ⟨r, b, l, a⟩ := k
  have hb0 : Below w.heap.size w (w.alloc (.cells #[.int .i64 r, .int .i64 b, .int .i64 l, .int .i64 a] 32)) := (Below.refl _ w).alloc (Nat.le_refl _) _
  have g0 := Bx.new w r b l a
  obtain ⟨o0, o1, o2, o3⟩ := g0.cells
  simp only [Bk.V] at H1 H2 ⊢
  go_enter Try.func8, Try.ntmps8
  go_wp2_with (first
    | (go_at_call 26; with_reducible (refine Calls.mono (H1.out _ hb0) ?_); rintro e w1 ⟨rfl, hb1⟩; have hx1 := chain hb0 hb1; replace g0 := g0.keep hb1; obtain ⟨r0, r1, r2, r3⟩ := g0.cells)
    | (go_at_call 27; with_reducible (refine Calls.mono (H2.out _) ?_); rintro e w2 ⟨rfl, hb2⟩; have hx2 := chain hx1 hb2)
    | (go_at_call 15; with_reducible (refine Calls.mono (HA.out _ hx2) ?_); rintro e w3 ⟨rfl, hb3⟩; have hx3 := chain hx2 hb3))
  go_ret
  exact ⟨rfl, hx3⟩

end Go.Proofs.Ytcliampjgbmeaaa
