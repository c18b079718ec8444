/-
  What is asked of the layer curve, as properties of its calls; the law's own 'awake', CurveMakes, CurveTells.
-/
import Derived.Test.YtoedapeookkodaaCurveHullR
import Derived.Test.YtoedapeookkodaaCurveAt
import Derived.Test.YtoedapeookkodaaSame
import Derived.Deep.RegionWith
namespace Go.Proofs.Ytoedapeookkodaa
open Go.RowKit

structure CurveSpec (w0 : World) : Prop where
  makes : ∀ (A : Option Addr) (c : Nat) (l : List Int) (t : Int) (w : World), Below w0.heap.size w0 w → Ints w w.heap.size .i64 A l → (∀ z ∈ l, -9223372036854775808 ≤ z ∧ z ≤ 9223372036854775807) → l.length ≤ c → l.length ≤ 140737488355328 → -9223372036854775808 ≤ t ∧ t ≤ 9223372036854775807 →
    Calls Try.prog 10 #[.slice A l.length c, .int .i64 t] w fun e w' => ∃ A' c', e = .returned (.tuple #[.slice A' (ofR l t).2.length c', .int .i64 (ofR l t).1]) ∧ (ofR l t).2.length ≤ c' ∧ Ints w' w'.heap.size .i64 A' (ofR l t).2 ∧ Below w.heap.size w w'
  hull : ∀ (A : Option Addr) (c : Nat) (l : List Int) (w : World), Below w0.heap.size w0 w → Ints w w.heap.size .i64 A l → (∀ z ∈ l, -9223372036854775808 ≤ z ∧ z ≤ 9223372036854775807) → l.length ≤ c → l.length ≤ 140737488355328 →
    Calls Try.prog 15 #[.slice A l.length c] w fun e w' => ∃ A' c', e = .returned (.tuple #[.slice A' (hullR l).2.length c', .int .i64 (hullR l).1]) ∧ (hullR l).2.length ≤ c' ∧ Ints w' w'.heap.size .i64 A' (hullR l).2 ∧ Below w.heap.size w w'
  at_ : ∀ (A : Option Addr) (c : Nat) (l : List Int) (z : Int) (w : World), Below w0.heap.size w0 w → Ints w w.heap.size .i64 A l → (∀ z ∈ l, -9223372036854775808 ≤ z ∧ z ≤ 9223372036854775807) → l.length ≤ c → l.length ≤ 140737488355328 → -9223372036854775808 ≤ z ∧ z ≤ 9223372036854775807 →
    Calls Try.prog 22 #[.slice A l.length c, .int .i64 z] w fun e w' => e = .returned (.int .i64 (atN l z)) ∧ Below w.heap.size w w'
  ratio : ∀ (A : Option Addr) (c : Nat) (l : List Int) (z refs : Int) (w : World), Below w0.heap.size w0 w → Ints w w.heap.size .i64 A l → (∀ z ∈ l, -9223372036854775808 ≤ z ∧ z ≤ 9223372036854775807) → l.length ≤ c → l.length ≤ 140737488355328 → -9223372036854775808 ≤ z ∧ z ≤ 9223372036854775807 → -9223372036854775808 ≤ refs ∧ refs ≤ 9223372036854775807 →
    Calls Try.prog 18 #[.slice A l.length c, .int .i64 z, .int .i64 refs] w fun e w' => ∃ b, e = .returned (.float .f64 b) ∧ ratioOk l z refs b ∧ Below w.heap.size w w'

theorem wake_of : ofR [3, 1] 2 = (0, [0, 6, 8]) := by decide +kernel
theorem wake_hull : hullR [0, 6, 8] = (0, [0, 1, 2]) := by decide +kernel
theorem wake_at : atN [0, 6, 8] 1 = 6 := by decide +kernel

set_option maxHeartbeats 800000 in
set_option maxRecDepth 20000 in
theorem curveAwake {w0 : World} (HS : CurveSpec w0) (w : World) (hw : Below w0.heap.size w0 w) : Calls Try.prog 12 #[] w fun e w' => e = .returned (.bool true) ∧ Below w.heap.size w w' := by
  have H1 : Hid (Calls Try.prog 10 #[.slice (some ⟨w.heap.size, 0, none⟩) 2 2, .int .i64 2] (w.alloc (.cells #[.int .i64 3, .int .i64 1] 3)) fun e w' =>
      ∃ b o c', e = .returned (.tuple #[.slice (some ⟨b, o, none⟩) 3 c', .int .i64 0]) ∧ 3 ≤ c' ∧ b < w'.heap.size ∧ w'.cell? ⟨b, o + 2, none⟩ = some (.int .i64 8) ∧ Ints w' w'.heap.size .i64 (some ⟨b, o, none⟩) [0, 6, 8] ∧ Below w.heap.size w w') := by
    have hI := Ints.new w 3 .i64 [3, 1] #[.int .i64 3, .int .i64 1] rfl
    have h := HS.makes (some ⟨w.heap.size, 0, none⟩) 2 [3, 1] 2 (w.alloc (.cells #[.int .i64 3, .int .i64 1] 3)) (hw.alloc hw.size _) (hI.more (by simp)) (by decide) (by decide) (by decide) (by decide)
    rw [wake_of] at h
    refine h.mono fun e w' ⟨A', c', q1, q2, q3, q4⟩ => ?_
    obtain ⟨b, o, rfl, hb, hc⟩ := q3.at_ (by decide)
    exact ⟨b, o, c', q1, q2, hb, hc 2 (by decide), q3, ((Below.refl _ _).alloc (Nat.le_refl _) _).trans (q4.mono (by simp))⟩
  have H2 : Hid (∀ (W : World) (A : Option Addr) (c : Nat), Below w.heap.size w W → Ints W W.heap.size .i64 A [0, 6, 8] → 3 ≤ c → Calls Try.prog 15 #[.slice A 3 c] W fun e w' => ∃ A' c', e = .returned (.tuple #[.slice A' 3 c', .int .i64 0]) ∧ Below W.heap.size W w') := fun W A c hb hi hc => by
    have h := HS.hull A c [0, 6, 8] W (hw.trans (hb.mono hw.size)) hi (by decide) hc (by decide)
    rw [wake_hull] at h
    exact h.mono fun e w' ⟨A', c', q1, _, _, q4⟩ => ⟨A', c', q1, q4⟩
  have H3 : Hid (∀ (W : World) (A : Option Addr) (c : Nat), Below w.heap.size w W → Ints W W.heap.size .i64 A [0, 6, 8] → 3 ≤ c → Calls Try.prog 22 #[.slice A 3 c, .int .i64 1] W fun e w' => e = .returned (.int .i64 6) ∧ Below W.heap.size W w') := fun W A c hb hi hc => by
    have h := HS.at_ A c [0, 6, 8] 1 W (hw.trans (hb.mono hw.size)) hi (by decide) hc (by decide) (by decide)
    rw [wake_at] at h
    exact h
  clear HS hw
  go_enter Try.func12, Try.ntmps12
  go_wp2_with (first
    | (go_at_call 10; with_reducible (refine Calls.mono H1.out ?_); rintro e w1 ⟨b, o, c', rfl, hc1, hbl, q0, hi1, hb1⟩)
    | (go_at_call 15; with_reducible (refine Calls.mono (H2.out _ _ _ hb1 hi1 hc1) ?_); rintro e w2 ⟨A2, c2, rfl, hb2⟩; have hi2 := (hi1.below hb2).more hb2.size; have hx2 := chain hb1 hb2; have q2 := (hb2.cell (p := ⟨b, o + 2, none⟩) hbl).trans q0)
    | (go_at_call 22; with_reducible (refine Calls.mono (H3.out _ _ _ hx2 hi2 hc1) ?_); rintro e w3 ⟨rfl, hb3⟩; have hx3 := chain hx2 hb3))
  go_ret
  exact ⟨rfl, hx3⟩

set_option maxHeartbeats 800000 in
set_option maxRecDepth 20000 in
/-- CurveMakes. -/
theorem curveMakes_go (A : Option Addr) (c : Nat) (l : List Int) (t : Int) (w : World) (HS : CurveSpec w) (h : Ints w w.heap.size .i64 A l) (hz : ∀ z ∈ l, -9223372036854775808 ≤ z ∧ z ≤ 9223372036854775807) (hc : l.length ≤ c) (hm : l.length ≤ 140737488355328) (ht : -9223372036854775808 ≤ t ∧ t ≤ 9223372036854775807) :
    Calls Try.prog 3 #[.slice A l.length c, .int .i64 t] w fun e w' => e = .returned (.bool true) ∧ Below w.heap.size w w' := by
  have HA := Lib.hid (curveAwake HS)
  have H1 := Lib.hid (HS.makes A c l t w (Below.refl _ _) h hz hc hm ht)
  have H2 := Lib.hid (fun (W : World) (hb : Below w.heap.size w W) => refOf_any A c l t W ((h.below hb).more hb.size))
  have hsl : (ofR l t).2.length ≤ 140737488355328 := by
    unfold ofR
    split
    · decide
    · next hb =>
      rw [ofL_len]
      have := (ofBad_false (by simpa using hb)).1
      omega
  have HSI := Lib.hid (fun (W : World) (A0 A1 : Option Addr) (c0 c1 : Nat) (h0 : Ints W W.heap.size .i64 A0 (ofR l t).2) (h1 : Ints W W.heap.size .i64 A1 (ofR l t).2) => sameInts_any A0 A1 c0 c1 (ofR l t).2 W h0 h1 hsl)
  obtain ⟨E, hE⟩ : ∃ E, E = (ofR l t).1 := ⟨_, rfl⟩
  obtain ⟨L, hL⟩ : ∃ E, E = (ofR l t).2 := ⟨_, rfl⟩
  rw [← hE, ← hL] at H1
  simp only [← hE, ← hL] at H2
  simp only [← hL] at HSI
  clear HS h hz hc hm ht hsl hE hL
  go_enter Try.func3, Try.ntmps3
  go_wp2_with (first
    | (go_at_call 10; with_reducible (refine Calls.mono H1.out ?_); rintro e w1 ⟨A1, c1, rfl, hc1, hi1, hb1⟩)
    | (go_at_call 11; with_reducible (refine Calls.mono (H2.out _ hb1) ?_); rintro e w2 ⟨A2, c2, rfl, hi2, hb2⟩; have hx2 := chain hb1 hb2; have hi1b := (hi1.below hb2).more hb2.size)
    | (go_at_call 12; with_reducible (refine Calls.mono (HA.out _ hx2) ?_); rintro e w3 ⟨rfl, hb3⟩; have hx3 := chain hx2 hb3; replace hi1b := (hi1b.below hb3).more hb3.size; replace hi2 := (hi2.below hb3).more hb3.size)
    | (go_at_call 13; with_reducible (refine Calls.mono (HSI.out _ _ _ _ _ hi1b hi2) ?_); rintro e w4 ⟨rfl, m, rfl⟩))
  go_ret
  exact ⟨rfl, below_drewN hx3 m⟩

end Go.Proofs.Ytoedapeookkodaa
