/-
  rate's filled, Fill.
-/
import Derived.Test.YtcliampjgbmeaaaRateC2
import Derived.Test.YtcliampjgbmeaaaRateRefT
import Derived.BigQuiet
namespace Go.Proofs.Ytcliampjgbmeaaa
open Go.RowKit

theorem drewN_below {B : Nat} {a w : World} (h : Below B a w) (n : Nat) : Below B a (w.drewN n) := ⟨h.os, h.tape, h.output, h.size, h.block⟩
theorem set_other (w : World) (g h i : Nat) (v : Value) (hne : g ≠ h) : (w.setCell ⟨g, i, none⟩ v).heap[h]? = w.heap[h]? := by
  show (w.heap.modify g _)[h]? = _
  rw [Array.getElem?_modify, if_neg hne]
/-- Two fields of a bucket stored, then it is stored as a whole elsewhere. -/
theorem box_end {W w0 : World} {B g : Nat} {t : TypeId} {z0 z1 z2 z3 : Value} (hb : Below B w0 W) (hg : B ≤ g) (h : W.heap[g + 1]? = some (.cells #[z0, z1, z2, z3] t (0, 0))) (v2 v3 u0 u1 u2 u3 : Value) (o : Obj) :
    (((((((W.setCell ⟨g, 2, none⟩ v2).setCell ⟨g, 3, none⟩ v3).setCell ⟨g + 1, 0, none⟩ u0).setCell ⟨g + 1, 1, none⟩ u1).setCell ⟨g + 1, 2, none⟩ u2).setCell ⟨g + 1, 3, none⟩ u3).alloc o).heap[g + 1]? = some (.cells #[u0, u1, u2, u3] t (0, 0)) ∧
    Below B w0 (((((((W.setCell ⟨g, 2, none⟩ v2).setCell ⟨g, 3, none⟩ v3).setCell ⟨g + 1, 0, none⟩ u0).setCell ⟨g + 1, 1, none⟩ u1).setCell ⟨g + 1, 2, none⟩ u2).setCell ⟨g + 1, 3, none⟩ u3).alloc o) := by
  have hB2 : Below B w0 ((W.setCell ⟨g, 2, none⟩ v2).setCell ⟨g, 3, none⟩ v3) := (hb.setCell (p := ⟨g, 2, none⟩) hg _).setCell (p := ⟨g, 3, none⟩) hg _
  have h2 : ((W.setCell ⟨g, 2, none⟩ v2).setCell ⟨g, 3, none⟩ v3).heap[g + 1]? = some (.cells #[z0, z1, z2, z3] t (0, 0)) := by
    rw [set_other _ _ _ _ _ (by omega), set_other _ _ _ _ _ (by omega)]; exact h
  have h3 := bk_set h2 u0 u1 u2 u3
  have hB3 := bk_below hB2 (show B ≤ g + 1 by omega) u0 u1 u2 u3
  exact ⟨(Below.heap_alloc _ _ _ (Array.getElem?_eq_some_iff.1 h3).1).trans h3, hB3.alloc (Nat.le_trans (show B ≤ g + 1 by omega) (Nat.le_of_lt (Array.getElem?_eq_some_iff.1 h3).1)) o⟩

theorem filled_cases {k : Bk} {m : Int} (hs : soundB k = true) (h : k.a ≤ m) :
    (untilB k (65536 * k.b) = true ∧ untilM k (65536 * k.b) ≤ m - k.a ∧ lev k m = 65536 * k.b) ∨
    ((untilB k (65536 * k.b) = false ∨ untilB k (65536 * k.b) = true ∧ m - k.a < untilM k (65536 * k.b)) ∧ lev k m = k.l + k.r * (m - k.a) ∧ 0 ≤ k.r * (m - k.a) ∧ k.r * (m - k.a) ≤ 4194304) := by
  obtain ⟨s1, s2, s3, s4, s5, s6, s7, s8⟩ := (sound_iff k).1 hs
  have hp := Int.mul_nonneg s1 (show 0 ≤ m - k.a by omega)
  unfold untilM untilB
  by_cases c1 : 65536 * k.b ≤ k.l
  · left
    rw [if_pos c1]
    refine ⟨decide_eq_true (.inl c1), by omega, ?_⟩
    unfold lev; omega
  · rw [if_neg c1]
    by_cases c2 : k.r = 0
    · right
      rw [if_pos c2]
      refine ⟨.inl (decide_eq_false (fun h => h.elim c1 (fun h => h c2))), ?_, hp, ?_⟩
      · unfold lev
        rw [c2, Int.zero_mul]; omega
      · rw [c2, Int.zero_mul]; omega
    · rw [if_neg c2]
      have hc := ceil_le (r := k.r) (d := 65536 * k.b - k.l) (p := m - k.a) (by omega)
      by_cases c3 : (65536 * k.b - k.l + k.r - 1) / k.r ≤ m - k.a
      · left
        have := hc.1 c3
        refine ⟨decide_eq_true (.inr c2), c3, ?_⟩
        unfold lev; omega
      · right
        have : ¬ 65536 * k.b - k.l ≤ k.r * (m - k.a) := fun h => c3 (hc.2 h)
        refine ⟨.inr ⟨decide_eq_true (.inr c2), by omega⟩, ?_, hp, by omega⟩
        unfold lev; omega

set_option maxHeartbeats 1600000 in
set_option maxRecDepth 20000 in
theorem filled_go (k : Bk) (m : Int) (w : World) (hs : soundB k = true) (h1 : k.a ≤ m) (h2 : m ≤ 1099511627776) : Calls Try.prog 31 #[k.V, .int .i64 m] w fun e w' => e = .returned (Bk.V ⟨k.r, k.b, lev k m, m⟩) ∧ Below w.heap.size w w' := by
  obtain ⟨s1, s2, s3, s4, s5, s6, s7, s8⟩ := (sound_iff k).1 hs
  have HU := Lib.hid (fun W => until_any k (65536 * k.b) W hs (by omega))
  have hc := filled_cases hs h1
  obtain ⟨LV, hLV⟩ : ∃ L, L = lev k m := ⟨_, rfl⟩
  obtain ⟨UM, hUM⟩ : ∃ L, L = untilM k (65536 * k.b) := ⟨_, rfl⟩
  obtain ⟨UB, hUB⟩ : ∃ L, L = untilB k (65536 * k.b) := ⟨_, rfl⟩
  rw [← hLV, ← hUM, ← hUB] at hc
  rw [← hUM, ← hUB] at HU
  rw [← hLV]
  clear hLV hUM hUB hs
  obtain ⟨r, b, l, a⟩ := k
  simp only [Bk.V] at s1 s2 s3 s4 s5 s6 s7 s8 h1 HU hc ⊢
  obtain ⟨F, hF⟩ : ∃ F, F = 65536 * b := ⟨_, rfl⟩
  obtain ⟨p, hp⟩ : ∃ p, p = m - a := ⟨_, rfl⟩
  rw [← hF] at HU hc
  rw [← hp] at hc
  have v1 : IntKind.i64.wrap (65536 * b) = F := by rw [hF]; exact IntWalk.i64_in _ (by omega)
  have v2 : IntKind.i64.wrap (m - a) = p := by rw [hp]; exact IntWalk.i64_in _ (by omega)
  have HZ : Hid (∀ n, (((w.alloc (.cells #[.int .i64 r, .int .i64 b, .int .i64 l, .int .i64 a] 32)).alloc (.cells #[.int .i64 0, .int .i64 0, .int .i64 0, .int .i64 0] 32)).drewN n).heap[w.heap.size + 1]? = some (.cells #[.int .i64 0, .int .i64 0, .int .i64 0, .int .i64 0] 32 (0, 0)) ∧ Below w.heap.size w (((w.alloc (.cells #[.int .i64 r, .int .i64 b, .int .i64 l, .int .i64 a] 32)).alloc (.cells #[.int .i64 0, .int .i64 0, .int .i64 0, .int .i64 0] 32)).drewN n)) := fun n =>
    ⟨new_at (w.alloc _) _ _ (by simp), drewN_below (((Below.refl _ w).alloc (Nat.le_refl _) _).alloc (by simp) _) n⟩
  rcases hc with ⟨rfl, hle, rfl⟩ | ⟨hn, rfl, p1, p2⟩
  · clear s1 s2 s3 s4 s5 s6 s7 s8 h1 h2 hF hp
    go_enter Try.func31, Try.ntmps31
    go_wp2_with fail
    go_quiet (fail)
    go_wp2_with (go_at_call 34; with_reducible (refine Calls.mono (HU.out _) ?_); rintro e w' ⟨rfl, rfl⟩)
    have hE := box_end (HZ.out nq).2 (Nat.le_refl _) (HZ.out nq).1 (.int .i64 LV) (.int .i64 m) (.int .i64 r) (.int .i64 b) (.int .i64 LV) (.int .i64 m) (.cells #[.int .i64 r, .int .i64 b, .int .i64 l, .int .i64 a] 32)
    exact bodyPost_ret (results_cell_row rfl _ _ (w.heap.size + 1) _ _ _ _ rfl hE.1 Try.underlying32 rfl (by kernel_rfl)) rfl ⟨rfl, hE.2⟩
  · obtain ⟨q, hq⟩ : ∃ q, q = r * p := ⟨_, rfl⟩
    rw [← hq] at p1 p2 ⊢
    have v3 : IntKind.i64.wrap (r * p) = q := by rw [← hq]; exact IntWalk.i64_in _ (by omega)
    have v4 : IntKind.i64.wrap (l + q) = l + q := IntWalk.i64_in _ (by omega)
    rcases hn with rfl | ⟨rfl, hlt⟩
    · clear s1 s2 s3 s4 s5 s6 s7 s8 h1 h2 hF hp hq p1 p2
      go_enter Try.func31, Try.ntmps31
      go_wp2_with fail
      go_quiet (fail)
      go_wp2_with (go_at_call 34; with_reducible (refine Calls.mono (HU.out _) ?_); rintro e w' ⟨rfl, rfl⟩)
      have hE := box_end (HZ.out nq).2 (Nat.le_refl _) (HZ.out nq).1 (.int .i64 (l + q)) (.int .i64 m) (.int .i64 r) (.int .i64 b) (.int .i64 (l + q)) (.int .i64 m) (.cells #[.int .i64 r, .int .i64 b, .int .i64 l, .int .i64 a] 32)
      exact bodyPost_ret (results_cell_row rfl _ _ (w.heap.size + 1) _ _ _ _ rfl hE.1 Try.underlying32 rfl (by kernel_rfl)) rfl ⟨rfl, hE.2⟩
    · clear s1 s2 s3 s4 s5 s6 s7 s8 h1 h2 hF hp hq p1 p2
      have hlt2 : ¬ UM ≤ p := by omega
      go_enter Try.func31, Try.ntmps31
      go_wp2_with fail
      go_quiet (fail)
      go_wp2_with (go_at_call 34; with_reducible (refine Calls.mono (HU.out _) ?_); rintro e w' ⟨rfl, rfl⟩)
      have hE := box_end (HZ.out nq).2 (Nat.le_refl _) (HZ.out nq).1 (.int .i64 (l + q)) (.int .i64 m) (.int .i64 r) (.int .i64 b) (.int .i64 (l + q)) (.int .i64 m) (.cells #[.int .i64 r, .int .i64 b, .int .i64 l, .int .i64 a] 32)
      exact bodyPost_ret (results_cell_row rfl _ _ (w.heap.size + 1) _ _ _ _ rfl hE.1 Try.underlying32 rfl (by kernel_rfl)) rfl ⟨rfl, hE.2⟩

end Go.Proofs.Ytcliampjgbmeaaa
