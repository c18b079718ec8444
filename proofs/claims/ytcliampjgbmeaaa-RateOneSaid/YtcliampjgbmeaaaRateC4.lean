/-
  rate's Fill, New.
-/
import Derived.Test.YtcliampjgbmeaaaRateC3
namespace Go.Proofs.Ytcliampjgbmeaaa
open Go.RowKit

/-- Two blocks that were made first, in a later world. -/
theorem two_boxes {w W : World} {A Z : Obj} (hb : Below ((w.alloc A).alloc Z).heap.size ((w.alloc A).alloc Z) W) : W.heap[w.heap.size]? = some A ∧ W.heap[w.heap.size + 1]? = some Z ∧ Below w.heap.size w W := by
  have hn : ((w.alloc A).alloc Z).heap.size = w.heap.size + 2 := by simp
  refine ⟨(hb.block _ (by omega)).trans ((Below.heap_alloc _ _ _ (by simp)).trans (heap_alloc_new w A)), (hb.block _ (by omega)).trans (new_at (w.alloc A) Z _ (by simp)), ?_⟩
  exact (((Below.refl _ w).alloc (Nat.le_refl _) A).alloc (by simp) Z).trans (hb.mono (by omega))

theorem first3 (w : World) (a b c : Obj) : (((w.alloc a).alloc b).alloc c).heap[w.heap.size]? = some a := (Below.heap_alloc _ _ _ (by simp; omega)).trans ((Below.heap_alloc _ _ _ (by simp)).trans (heap_alloc_new w a))
set_option maxHeartbeats 3200000 in
set_option maxRecDepth 20000 in
theorem fill_any (k : Bk) (m : Int) (w : World) : Calls Try.prog 22 #[k.V, .int .i64 m] w fun e w' => e = .returned (.tuple #[(fillK k m).V, .int .i64 (fillE k m)]) ∧ Below w.heap.size w w' := by
  have HS := Lib.hid (sound_any k)
  have HB : ∀ a b c : Obj, Hid (Below w.heap.size w (((w.alloc a).alloc b).alloc c)) := fun a b c => (((Below.refl _ _).alloc (Nat.le_refl _) _).alloc (by simp) _).alloc (by simp; omega) _
  by_cases hs : soundB k = true
  · by_cases hm : k.a ≤ m ∧ m ≤ 1099511627776
    · have hE : fillE k m = 0 := fill_ok.2 ⟨hs, hm.1, hm.2⟩
      have HF := Lib.hid (fun W => filled_go k m W hs hm.1 hm.2)
      have HW := Lib.hid (fun W => within_is (decide_eq_true hm) W)
      rw [show fillK k m = ⟨k.r, k.b, lev k m, m⟩ from if_pos hE, hE]
      rw [hs] at HS
      clear hE hs hm
      obtain ⟨LV, hLV⟩ : ∃ L, L = lev k m := ⟨_, rfl⟩
      rw [← hLV] at HF ⊢
      clear hLV
      obtain ⟨r, b, l, a⟩ := k
      simp only [Bk.V] at HS HF HW ⊢
      go_enter Try.func22, Try.ntmps22
      go_wp2_with (first
        | (go_at_call 29; with_reducible (refine Calls.mono (HS.out _) ?_); rintro e w1 ⟨rfl, rfl⟩)
        | (go_at_call 30; with_reducible (refine Calls.mono (HW.out _) ?_); rintro e w1 ⟨rfl, rfl⟩)
        | (go_at_call 31; with_reducible (refine Calls.mono (HF.out _) ?_); rintro e w1 ⟨rfl, hb1⟩; have hx1 := two_boxes (((Below.refl _ ((w.alloc (.cells #[.int .i64 r, .int .i64 b, .int .i64 l, .int .i64 a] 32)).alloc (.cells #[.int .i64 0, .int .i64 0, .int .i64 0, .int .i64 0] 32))).alloc (Nat.le_refl _) (.cells #[.int .i64 r, .int .i64 b, .int .i64 l, .int .i64 a] 32)).trans (hb1.mono (by simp))); obtain ⟨g0, g1, hB⟩ := hx1; have HB1 := Lib.hid hB; obtain ⟨z0, z1, z2, z3, y0, y1, y2, y3⟩ := bkCells g1))
      exact bodyPost_ret (results_row_tmp rfl _ _ (w.heap.size + 1) _ _ _ _ rfl (bk_set g1 _ _ _ _) Try.underlying32 rfl (by kernel_rfl)) rfl ⟨rfl, bk_below HB1.out (Nat.le_succ _) _ _ _ _⟩
    · have hE : fillE k m = 1 := by
        unfold fillE
        rw [if_pos hs, if_pos (by omega)]
      have HW := Lib.hid (fun W => within_is (decide_eq_false hm) W)
      rw [show fillK k m = zeroK from if_neg (by omega), hE]
      rw [hs] at HS
      clear hE hs hm
      obtain ⟨r, b, l, a⟩ := k
      simp only [Bk.V, zeroK] at HS HW ⊢
      go_enter Try.func22, Try.ntmps22
      go_wp2_with (first
        | (go_at_call 29; with_reducible (refine Calls.mono (HS.out _) ?_); rintro e w1 ⟨rfl, rfl⟩)
        | (go_at_call 30; with_reducible (refine Calls.mono (HW.out _) ?_); rintro e w1 ⟨rfl, rfl⟩))
      refine bodyPost_ret (results_row_tmp rfl _ _ (w.heap.size + 1) _ _ _ _ rfl ((Below.heap_alloc _ _ _ (by simp)).trans (new_at _ _ _ (by simp))) Try.underlying32 rfl (by kernel_rfl)) rfl ⟨rfl, (HB _ _ _).out⟩
  · have hE : fillE k m = 2 := if_neg hs
    rw [show fillK k m = zeroK from if_neg (by omega), hE]
    rw [Bool.not_eq_true] at hs
    rw [hs] at HS
    clear hE hs
    obtain ⟨r, b, l, a⟩ := k
    simp only [Bk.V, zeroK] at HS ⊢
    go_enter Try.func22, Try.ntmps22
    go_wp2_with (go_at_call 29; with_reducible (refine Calls.mono (HS.out _) ?_); rintro e w1 ⟨rfl, rfl⟩)
    refine bodyPost_ret (results_row_tmp rfl _ _ (w.heap.size + 1) _ _ _ _ rfl ((Below.heap_alloc _ _ _ (by simp)).trans (new_at _ _ _ (by simp))) Try.underlying32 rfl (by kernel_rfl)) rfl ⟨rfl, (HB _ _ _).out⟩

set_option maxHeartbeats 3200000 in
set_option maxRecDepth 20000 in
theorem new_any (r b a : Int) (w : World) : Calls Try.prog 20 #[.int .i64 r, .int .i64 b, .int .i64 a] w fun e w' => e = .returned (.tuple #[(newK r b a).V, .int .i64 (newE r b a)]) ∧ Below w.heap.size w w' := by
  obtain ⟨F, hF⟩ : ∃ F, F = IntKind.i64.wrap (65536 * b) := ⟨_, rfl⟩
  have v1 := hF.symm
  have HS := Lib.hid (sound_any ⟨r, b, F, a⟩)
  have HB : ∀ a b c : Obj, Hid (Below w.heap.size w (((w.alloc a).alloc b).alloc c)) := fun a b c => (((Below.refl _ _).alloc (Nat.le_refl _) _).alloc (by simp) _).alloc (by simp; omega) _
  have hgood : soundB ⟨r, b, F, a⟩ = true ↔ newE r b a = 0 := by
    rw [sound_iff]
    unfold newE
    simp only []
    by_cases hn : r < 0 ∨ r > 4294967296 ∨ b < 1 ∨ b > 64 ∨ a < 0 ∨ a > 1099511627776
    · rw [if_pos hn]
      exact ⟨fun h => by omega, fun h => by cases h⟩
    · rw [if_neg hn]
      have : F = 65536 * b := by rw [hF]; exact IntWalk.i64_in _ (by omega)
      exact ⟨fun _ => rfl, fun _ => by omega⟩
  by_cases hs : soundB ⟨r, b, F, a⟩ = true
  · have hE := hgood.1 hs
    have hK : newK r b a = ⟨r, b, F, a⟩ := by
      have h2 := (sound_iff _).1 hs
      simp only [] at h2
      have : F = 65536 * b := by rw [hF]; exact IntWalk.i64_in _ (by omega)
      unfold newK
      rw [if_pos hE, this]
    rw [hK, hE]
    rw [hs] at HS
    simp only [Bk.V] at HS ⊢
    clear hgood hs hE hK hF
    go_enter Try.func20, Try.ntmps20
    go_wp2_with (go_at_call 29; with_reducible (refine Calls.mono (HS.out _) ?_); rintro e w1 ⟨rfl, rfl⟩)
    exact bodyPost_ret (results_row_tmp rfl _ _ w.heap.size _ _ _ _ rfl (first3 _ _ _ _) Try.underlying32 rfl (by kernel_rfl)) rfl ⟨rfl, (HB _ _ _).out⟩
  · have hE : newE r b a = 1 := by
      unfold newE at hgood ⊢
      by_cases hn : r < 0 ∨ r > 4294967296 ∨ b < 1 ∨ b > 64 ∨ a < 0 ∨ a > 1099511627776
      · rw [if_pos hn]
      · rw [if_neg hn] at hgood
        exact absurd (hgood.2 rfl) hs
    have hK : newK r b a = zeroK := if_neg (by omega)
    rw [hK, hE]
    rw [Bool.not_eq_true] at hs
    rw [hs] at HS
    simp only [Bk.V, zeroK] at HS ⊢
    clear hgood hs hE hK hF
    go_enter Try.func20, Try.ntmps20
    go_wp2_with (go_at_call 29; with_reducible (refine Calls.mono (HS.out _) ?_); rintro e w1 ⟨rfl, rfl⟩)
    exact bodyPost_ret (results_row_tmp rfl _ _ w.heap.size _ _ _ _ rfl (first3 _ _ _ _) Try.underlying32 rfl (by kernel_rfl)) rfl ⟨rfl, (HB _ _ _).out⟩

end Go.Proofs.Ytcliampjgbmeaaa
