/-
  The document's own Take, Filled.
-/
import Derived.Test.YtcliampjgbmeaaaRateRefF
namespace Go.Proofs.Ytcliampjgbmeaaa
open Go.RowKit

theorem refFill_any (k : Bk) (m : Int) (w : World) : Calls Try.prog 32 #[k.V, .int .i64 m] w fun e w' => e = .returned (.tuple #[(refFillK k m).V, .int .i64 (fillE k m)]) ∧ Below w.heap.size w w' := by
  by_cases h : fillE k m = 0
  · rw [show refFillK k m = ⟨min k.r (65536 * k.b), k.b, lev k m, m⟩ from if_pos h, h]
    exact refFill_go k m w h
  · rw [show refFillK k m = zeroK from if_neg h]
    exact refFill_no k m w h

theorem set_at (w : World) (g i : Nat) (v : Value) (C : Array Value) (t : TypeId) (h : w.heap[g]? = some (.cells C t (0, 0))) : (w.setCell ⟨g, i, none⟩ v).heap[g]? = some (.cells (C.setIfInBounds i v) t (0, 0)) := by
  have hlt : g < w.heap.size := by
    by_cases hlt : g < w.heap.size
    · exact hlt
    · have hn : w.heap[g]? = none := by simp; omega
      rw [hn] at h; cases h
  obtain ⟨_, hk⟩ := Array.getElem?_eq_some_iff.1 h
  show (w.heap.modify g _)[g]? = _
  rw [Array.getElem?_eq_getElem (by rw [Array.size_modify]; exact hlt), Array.getElem_modify_self, hk]
  rfl
/-- A bucket stored. -/
theorem bk_set {W : World} {g : Nat} {t : TypeId} {c0 c1 c2 c3 : Value} (h : W.heap[g]? = some (.cells #[c0, c1, c2, c3] t (0, 0))) (v0 v1 v2 v3 : Value) :
    ((((W.setCell ⟨g, 0, none⟩ v0).setCell ⟨g, 1, none⟩ v1).setCell ⟨g, 2, none⟩ v2).setCell ⟨g, 3, none⟩ v3).heap[g]? = some (.cells #[v0, v1, v2, v3] t (0, 0)) :=
  set_at _ g 3 v3 _ t (set_at _ g 2 v2 _ t (set_at _ g 1 v1 _ t (set_at _ g 0 v0 _ t h)))
theorem bk_below {B : Nat} {w0 W : World} (h : Below B w0 W) {g : Nat} (hg : B ≤ g) (v0 v1 v2 v3 : Value) : Below B w0 ((((W.setCell ⟨g, 0, none⟩ v0).setCell ⟨g, 1, none⟩ v1).setCell ⟨g, 2, none⟩ v2).setCell ⟨g, 3, none⟩ v3) :=
  (((h.setCell (p := ⟨g, 0, none⟩) hg _).setCell (p := ⟨g, 1, none⟩) hg _).setCell (p := ⟨g, 2, none⟩) hg _).setCell (p := ⟨g, 3, none⟩) hg _

set_option maxHeartbeats 3200000 in
theorem refTake_any (k : Bk) (n m : Int) (w : World) : Calls Try.prog 25 #[k.V, .int .i64 n, .int .i64 m] w fun e w' => e = .returned (.tuple #[(takeK k n m).V, .int .i64 (takeE k n m)]) ∧ Below w.heap.size w w' := by
  have HF := Lib.hid (refFill_any k m)
  by_cases h : fillE k m = 0
  · rw [show refFillK k m = ⟨min k.r (65536 * k.b), k.b, lev k m, m⟩ from if_pos h, h] at HF
    obtain ⟨hs, hm1, hm2⟩ := fill_ok.1 h
    obtain ⟨s1, s2, s3, s4, s5, s6, s7, s8⟩ := (sound_iff k).1 hs
    obtain ⟨q1, q2, q3⟩ := lev_bounds hs hm1
    have hT : takeE k n m = if n < 0 ∨ n > k.b then 7 else if lev k m < 65536 * n then 12 else 0 := if_pos h
    by_cases c1 : n < 0
    · skip
      have e1 : takeE k n m = 7 := by rw [hT, if_pos (Or.inl c1)]
      have e2 : takeK k n m = zeroK := by unfold takeK; rw [e1]; rfl
      rw [e1, e2]
      clear e1 e2 hT
      obtain ⟨LV, hLV⟩ : ∃ LV, LV = lev k m := ⟨_, rfl⟩
      obtain ⟨R, hR⟩ : ∃ R, R = min k.r (65536 * k.b) := ⟨_, rfl⟩
      rw [← hLV, ← hR] at HF
      try rw [← hLV]
      try rw [← hLV] at c7
      try rw [← hLV] at c8
      rw [← hLV] at q1 q2 q3
      clear hLV hR hs h
      obtain ⟨r, b, l, a⟩ := k
      simp only [Bk.V, zeroK] at *
      go_enter Try.func25, Try.ntmps25
      go_wp2_with (go_at_call 32; with_reducible (refine Calls.mono (HF.out _) ?_); rintro e w1 ⟨rfl, hb1⟩; have hn1 := hb1.size; simp only [World.size_alloc] at hn1 hb1; have g0 := fun o : Obj => (Below.heap_alloc w1 o _ (show w.heap.size < w1.heap.size by omega)).trans ((hb1.block w.heap.size (by omega)).trans ((Below.heap_alloc _ _ _ (by simp)).trans (heap_alloc_new w (.cells #[.int .i64 r, .int .i64 b, .int .i64 l, .int .i64 a] 32)))); have g1 := fun o : Obj => (Below.heap_alloc w1 o _ (show w.heap.size + 1 < w1.heap.size by omega)).trans ((hb1.block (w.heap.size + 1) (by omega)).trans (new_at (w.alloc (.cells #[.int .i64 r, .int .i64 b, .int .i64 l, .int .i64 a] 32)) (.cells #[.int .i64 0, .int .i64 0, .int .i64 0, .int .i64 0] 32) _ (by simp))); have b1 := fun o => (bkCells (g0 o)).2.1; have b0 := fun o => (bkCells (g0 o)).1; have z0 := fun o => (bkCells (g1 o)).1; have z1 := fun o => (bkCells (g1 o)).2.1; have z2 := fun o => (bkCells (g1 o)).2.2.1; have z3 := fun o => (bkCells (g1 o)).2.2.2.1; have y0 := fun o => (bkCells (g1 o)).2.2.2.2.1; have y1 := fun o => (bkCells (g1 o)).2.2.2.2.2.1; have y2 := fun o => (bkCells (g1 o)).2.2.2.2.2.2.1; have y3 := fun o => (bkCells (g1 o)).2.2.2.2.2.2.2; have HB1 := Lib.hid (fun o : Obj => ((((Below.refl _ w).alloc (Nat.le_refl _) (.cells #[.int .i64 r, .int .i64 b, .int .i64 l, .int .i64 a] 32)).alloc (by simp) (.cells #[.int .i64 0, .int .i64 0, .int .i64 0, .int .i64 0] 32)).trans (hb1.mono (by omega))).alloc (by omega) o))
      exact bodyPost_ret (results_row_tmp rfl _ _ (w.heap.size + 1) _ _ _ _ rfl (bk_set (g1 _) _ _ _ _) Try.underlying32 rfl (by kernel_rfl)) rfl ⟨rfl, bk_below (HB1.out _) (Nat.le_succ _) _ _ _ _⟩
    · by_cases c2 : k.b < n
      · skip
        have e1 : takeE k n m = 7 := by rw [hT, if_pos (Or.inr c2)]
        have e2 : takeK k n m = zeroK := by unfold takeK; rw [e1]; rfl
        rw [e1, e2]
        clear e1 e2 hT
        obtain ⟨LV, hLV⟩ : ∃ LV, LV = lev k m := ⟨_, rfl⟩
        obtain ⟨R, hR⟩ : ∃ R, R = min k.r (65536 * k.b) := ⟨_, rfl⟩
        rw [← hLV, ← hR] at HF
        try rw [← hLV]
        try rw [← hLV] at c7
        try rw [← hLV] at c8
        rw [← hLV] at q1 q2 q3
        clear hLV hR hs h
        obtain ⟨r, b, l, a⟩ := k
        simp only [Bk.V, zeroK] at *
        go_enter Try.func25, Try.ntmps25
        go_wp2_with (go_at_call 32; with_reducible (refine Calls.mono (HF.out _) ?_); rintro e w1 ⟨rfl, hb1⟩; have hn1 := hb1.size; simp only [World.size_alloc] at hn1 hb1; have g0 := fun o : Obj => (Below.heap_alloc w1 o _ (show w.heap.size < w1.heap.size by omega)).trans ((hb1.block w.heap.size (by omega)).trans ((Below.heap_alloc _ _ _ (by simp)).trans (heap_alloc_new w (.cells #[.int .i64 r, .int .i64 b, .int .i64 l, .int .i64 a] 32)))); have g1 := fun o : Obj => (Below.heap_alloc w1 o _ (show w.heap.size + 1 < w1.heap.size by omega)).trans ((hb1.block (w.heap.size + 1) (by omega)).trans (new_at (w.alloc (.cells #[.int .i64 r, .int .i64 b, .int .i64 l, .int .i64 a] 32)) (.cells #[.int .i64 0, .int .i64 0, .int .i64 0, .int .i64 0] 32) _ (by simp))); have b1 := fun o => (bkCells (g0 o)).2.1; have b0 := fun o => (bkCells (g0 o)).1; have z0 := fun o => (bkCells (g1 o)).1; have z1 := fun o => (bkCells (g1 o)).2.1; have z2 := fun o => (bkCells (g1 o)).2.2.1; have z3 := fun o => (bkCells (g1 o)).2.2.2.1; have y0 := fun o => (bkCells (g1 o)).2.2.2.2.1; have y1 := fun o => (bkCells (g1 o)).2.2.2.2.2.1; have y2 := fun o => (bkCells (g1 o)).2.2.2.2.2.2.1; have y3 := fun o => (bkCells (g1 o)).2.2.2.2.2.2.2; have HB1 := Lib.hid (fun o : Obj => ((((Below.refl _ w).alloc (Nat.le_refl _) (.cells #[.int .i64 r, .int .i64 b, .int .i64 l, .int .i64 a] 32)).alloc (by simp) (.cells #[.int .i64 0, .int .i64 0, .int .i64 0, .int .i64 0] 32)).trans (hb1.mono (by omega))).alloc (by omega) o))
        exact bodyPost_ret (results_row_tmp rfl _ _ (w.heap.size + 1) _ _ _ _ rfl (bk_set (g1 _) _ _ _ _) Try.underlying32 rfl (by kernel_rfl)) rfl ⟨rfl, bk_below (HB1.out _) (Nat.le_succ _) _ _ _ _⟩
      · have c3 : 0 ≤ n := by omega
        have c4 : n ≤ k.b := by omega
        have c5 : 65536 * n ≤ 4194304 := by omega
        have c6 : 0 ≤ 65536 * n := by omega
        by_cases c7 : lev k m < 65536 * n
        · skip
          have e1 : takeE k n m = 12 := by rw [hT, if_neg (by omega), if_pos c7]
          have e2 : takeK k n m = zeroK := by unfold takeK; rw [e1]; rfl
          rw [e1, e2]
          clear e1 e2 hT
          obtain ⟨LV, hLV⟩ : ∃ LV, LV = lev k m := ⟨_, rfl⟩
          obtain ⟨R, hR⟩ : ∃ R, R = min k.r (65536 * k.b) := ⟨_, rfl⟩
          rw [← hLV, ← hR] at HF
          try rw [← hLV]
          try rw [← hLV] at c7
          try rw [← hLV] at c8
          rw [← hLV] at q1 q2 q3
          clear hLV hR hs h
          obtain ⟨r, b, l, a⟩ := k
          simp only [Bk.V, zeroK] at *
          go_enter Try.func25, Try.ntmps25
          go_wp2_with (go_at_call 32; with_reducible (refine Calls.mono (HF.out _) ?_); rintro e w1 ⟨rfl, hb1⟩; have hn1 := hb1.size; simp only [World.size_alloc] at hn1 hb1; have g0 := fun o : Obj => (Below.heap_alloc w1 o _ (show w.heap.size < w1.heap.size by omega)).trans ((hb1.block w.heap.size (by omega)).trans ((Below.heap_alloc _ _ _ (by simp)).trans (heap_alloc_new w (.cells #[.int .i64 r, .int .i64 b, .int .i64 l, .int .i64 a] 32)))); have g1 := fun o : Obj => (Below.heap_alloc w1 o _ (show w.heap.size + 1 < w1.heap.size by omega)).trans ((hb1.block (w.heap.size + 1) (by omega)).trans (new_at (w.alloc (.cells #[.int .i64 r, .int .i64 b, .int .i64 l, .int .i64 a] 32)) (.cells #[.int .i64 0, .int .i64 0, .int .i64 0, .int .i64 0] 32) _ (by simp))); have b1 := fun o => (bkCells (g0 o)).2.1; have b0 := fun o => (bkCells (g0 o)).1; have z0 := fun o => (bkCells (g1 o)).1; have z1 := fun o => (bkCells (g1 o)).2.1; have z2 := fun o => (bkCells (g1 o)).2.2.1; have z3 := fun o => (bkCells (g1 o)).2.2.2.1; have y0 := fun o => (bkCells (g1 o)).2.2.2.2.1; have y1 := fun o => (bkCells (g1 o)).2.2.2.2.2.1; have y2 := fun o => (bkCells (g1 o)).2.2.2.2.2.2.1; have y3 := fun o => (bkCells (g1 o)).2.2.2.2.2.2.2; have HB1 := Lib.hid (fun o : Obj => ((((Below.refl _ w).alloc (Nat.le_refl _) (.cells #[.int .i64 r, .int .i64 b, .int .i64 l, .int .i64 a] 32)).alloc (by simp) (.cells #[.int .i64 0, .int .i64 0, .int .i64 0, .int .i64 0] 32)).trans (hb1.mono (by omega))).alloc (by omega) o))
          exact bodyPost_ret (results_row_tmp rfl _ _ (w.heap.size + 1) _ _ _ _ rfl (bk_set (g1 _) _ _ _ _) Try.underlying32 rfl (by kernel_rfl)) rfl ⟨rfl, bk_below (HB1.out _) (Nat.le_succ _) _ _ _ _⟩
        · have c8 : 0 ≤ lev k m - 65536 * n ∧ lev k m - 65536 * n ≤ 4194304 := by omega
          have e1 : takeE k n m = 0 := by rw [hT, if_neg (by omega), if_neg c7]
          have e2 : takeK k n m = ⟨k.r, k.b, lev k m - 65536 * n, m⟩ := by unfold takeK; rw [e1]; rfl
          rw [e1, e2]
          clear e1 e2 hT
          obtain ⟨LV, hLV⟩ : ∃ LV, LV = lev k m := ⟨_, rfl⟩
          obtain ⟨R, hR⟩ : ∃ R, R = min k.r (65536 * k.b) := ⟨_, rfl⟩
          rw [← hLV, ← hR] at HF
          try rw [← hLV]
          try rw [← hLV] at c7
          try rw [← hLV] at c8
          rw [← hLV] at q1 q2 q3
          clear hLV hR hs h
          obtain ⟨r, b, l, a⟩ := k
          simp only [Bk.V] at *
          go_enter Try.func25, Try.ntmps25
          go_wp2_with (go_at_call 32; with_reducible (refine Calls.mono (HF.out _) ?_); rintro e w1 ⟨rfl, hb1⟩; have hn1 := hb1.size; simp only [World.size_alloc] at hn1 hb1; have g0 := fun o : Obj => (Below.heap_alloc w1 o _ (show w.heap.size < w1.heap.size by omega)).trans ((hb1.block w.heap.size (by omega)).trans ((Below.heap_alloc _ _ _ (by simp)).trans (heap_alloc_new w (.cells #[.int .i64 r, .int .i64 b, .int .i64 l, .int .i64 a] 32)))); have g1 := fun o : Obj => (Below.heap_alloc w1 o _ (show w.heap.size + 1 < w1.heap.size by omega)).trans ((hb1.block (w.heap.size + 1) (by omega)).trans (new_at (w.alloc (.cells #[.int .i64 r, .int .i64 b, .int .i64 l, .int .i64 a] 32)) (.cells #[.int .i64 0, .int .i64 0, .int .i64 0, .int .i64 0] 32) _ (by simp))); have b1 := fun o => (bkCells (g0 o)).2.1; have b0 := fun o => (bkCells (g0 o)).1; have z0 := fun o => (bkCells (g1 o)).1; have z1 := fun o => (bkCells (g1 o)).2.1; have z2 := fun o => (bkCells (g1 o)).2.2.1; have z3 := fun o => (bkCells (g1 o)).2.2.2.1; have y0 := fun o => (bkCells (g1 o)).2.2.2.2.1; have y1 := fun o => (bkCells (g1 o)).2.2.2.2.2.1; have y2 := fun o => (bkCells (g1 o)).2.2.2.2.2.2.1; have y3 := fun o => (bkCells (g1 o)).2.2.2.2.2.2.2; have HB1 := Lib.hid (fun o : Obj => ((((Below.refl _ w).alloc (Nat.le_refl _) (.cells #[.int .i64 r, .int .i64 b, .int .i64 l, .int .i64 a] 32)).alloc (by simp) (.cells #[.int .i64 0, .int .i64 0, .int .i64 0, .int .i64 0] 32)).trans (hb1.mono (by omega))).alloc (by omega) o))
          exact bodyPost_ret (results_row_tmp rfl _ _ (w.heap.size + 1) _ _ _ _ rfl (bk_set (g1 _) _ _ _ _) Try.underlying32 rfl (by kernel_rfl)) rfl ⟨rfl, bk_below (HB1.out _) (Nat.le_succ _) _ _ _ _⟩
  · have hT : takeE k n m = fillE k m := if_neg h
    have hK : takeK k n m = zeroK := if_neg (by rw [hT]; exact h)
    rw [hT, hK]
    rw [show refFillK k m = zeroK from if_neg h] at HF
    obtain ⟨E, hE⟩ : ∃ E, E = fillE k m := ⟨_, rfl⟩
    rw [← hE] at HF h ⊢
    clear hT hK hE
    obtain ⟨r, b, l, a⟩ := k
    simp only [Bk.V, zeroK] at HF ⊢
    go_enter Try.func25, Try.ntmps25
    go_wp2_with (go_at_call 32; with_reducible (refine Calls.mono (HF.out _) ?_); rintro e w1 ⟨rfl, hb1⟩; have hn1 := hb1.size; simp only [World.size_alloc] at hn1 hb1; have g0 := fun o : Obj => (Below.heap_alloc w1 o _ (show w.heap.size < w1.heap.size by omega)).trans ((hb1.block w.heap.size (by omega)).trans ((Below.heap_alloc _ _ _ (by simp)).trans (heap_alloc_new w (.cells #[.int .i64 r, .int .i64 b, .int .i64 l, .int .i64 a] 32)))); have g1 := fun o : Obj => (Below.heap_alloc w1 o _ (show w.heap.size + 1 < w1.heap.size by omega)).trans ((hb1.block (w.heap.size + 1) (by omega)).trans (new_at (w.alloc (.cells #[.int .i64 r, .int .i64 b, .int .i64 l, .int .i64 a] 32)) (.cells #[.int .i64 0, .int .i64 0, .int .i64 0, .int .i64 0] 32) _ (by simp))); have b1 := fun o => (bkCells (g0 o)).2.1; have b0 := fun o => (bkCells (g0 o)).1; have z0 := fun o => (bkCells (g1 o)).1; have z1 := fun o => (bkCells (g1 o)).2.1; have z2 := fun o => (bkCells (g1 o)).2.2.1; have z3 := fun o => (bkCells (g1 o)).2.2.2.1; have y0 := fun o => (bkCells (g1 o)).2.2.2.2.1; have y1 := fun o => (bkCells (g1 o)).2.2.2.2.2.1; have y2 := fun o => (bkCells (g1 o)).2.2.2.2.2.2.1; have y3 := fun o => (bkCells (g1 o)).2.2.2.2.2.2.2; have HB1 := Lib.hid (fun o : Obj => ((((Below.refl _ w).alloc (Nat.le_refl _) (.cells #[.int .i64 r, .int .i64 b, .int .i64 l, .int .i64 a] 32)).alloc (by simp) (.cells #[.int .i64 0, .int .i64 0, .int .i64 0, .int .i64 0] 32)).trans (hb1.mono (by omega))).alloc (by omega) o))
    exact bodyPost_ret (results_row_tmp rfl _ _ (w.heap.size + 1) _ _ _ _ rfl (bk_set (g1 _) _ _ _ _) Try.underlying32 rfl (by kernel_rfl)) rfl ⟨rfl, bk_below (HB1.out _) (Nat.le_succ _) _ _ _ _⟩

theorem refFilled_any (k : Bk) (m : Int) (w : World) : Calls Try.prog 23 #[k.V, .int .i64 m] w fun e w' => e = .returned (.tuple #[(fillK k m).V, .int .i64 (fillE k m)]) ∧ Below w.heap.size w w' := by
  have HF := Lib.hid (refFill_any k m)
  by_cases h : fillE k m = 0
  · rw [show fillK k m = ⟨k.r, k.b, lev k m, m⟩ from if_pos h, h]
    rw [show refFillK k m = ⟨min k.r (65536 * k.b), k.b, lev k m, m⟩ from if_pos h, h] at HF
    obtain ⟨LV, hLV⟩ : ∃ LV, LV = lev k m := ⟨_, rfl⟩
    obtain ⟨R, hR⟩ : ∃ R, R = min k.r (65536 * k.b) := ⟨_, rfl⟩
    rw [← hLV, ← hR] at HF
    rw [← hLV]
    clear hLV hR h
    obtain ⟨r, b, l, a⟩ := k
    simp only [Bk.V] at *
    go_enter Try.func23, Try.ntmps23
    go_wp2_with (go_at_call 32; with_reducible (refine Calls.mono (HF.out _) ?_); rintro e w1 ⟨rfl, hb1⟩; have hn1 := hb1.size; simp only [World.size_alloc] at hn1 hb1; have g0 := fun o : Obj => (Below.heap_alloc w1 o _ (show w.heap.size < w1.heap.size by omega)).trans ((hb1.block w.heap.size (by omega)).trans ((Below.heap_alloc _ _ _ (by simp)).trans (heap_alloc_new w (.cells #[.int .i64 r, .int .i64 b, .int .i64 l, .int .i64 a] 32)))); have g1 := fun o : Obj => (Below.heap_alloc w1 o _ (show w.heap.size + 1 < w1.heap.size by omega)).trans ((hb1.block (w.heap.size + 1) (by omega)).trans (new_at (w.alloc (.cells #[.int .i64 r, .int .i64 b, .int .i64 l, .int .i64 a] 32)) (.cells #[.int .i64 0, .int .i64 0, .int .i64 0, .int .i64 0] 32) _ (by simp))); have b1 := fun o => (bkCells (g0 o)).2.1; have b0 := fun o => (bkCells (g0 o)).1; have z0 := fun o => (bkCells (g1 o)).1; have z1 := fun o => (bkCells (g1 o)).2.1; have z2 := fun o => (bkCells (g1 o)).2.2.1; have z3 := fun o => (bkCells (g1 o)).2.2.2.1; have y0 := fun o => (bkCells (g1 o)).2.2.2.2.1; have y1 := fun o => (bkCells (g1 o)).2.2.2.2.2.1; have y2 := fun o => (bkCells (g1 o)).2.2.2.2.2.2.1; have y3 := fun o => (bkCells (g1 o)).2.2.2.2.2.2.2; have HB1 := Lib.hid (fun o : Obj => ((((Below.refl _ w).alloc (Nat.le_refl _) (.cells #[.int .i64 r, .int .i64 b, .int .i64 l, .int .i64 a] 32)).alloc (by simp) (.cells #[.int .i64 0, .int .i64 0, .int .i64 0, .int .i64 0] 32)).trans (hb1.mono (by omega))).alloc (by omega) o))
    exact bodyPost_ret (results_row_tmp rfl _ _ (w.heap.size + 1) _ _ _ _ rfl (bk_set (g1 _) _ _ _ _) Try.underlying32 rfl (by kernel_rfl)) rfl ⟨rfl, bk_below (HB1.out _) (Nat.le_succ _) _ _ _ _⟩
  · rw [show fillK k m = zeroK from if_neg h]
    rw [show refFillK k m = zeroK from if_neg h] at HF
    obtain ⟨E, hE⟩ : ∃ E, E = fillE k m := ⟨_, rfl⟩
    rw [← hE] at HF h ⊢
    clear hE
    obtain ⟨r, b, l, a⟩ := k
    simp only [Bk.V, zeroK] at *
    go_enter Try.func23, Try.ntmps23
    go_wp2_with (go_at_call 32; with_reducible (refine Calls.mono (HF.out _) ?_); rintro e w1 ⟨rfl, hb1⟩; have hn1 := hb1.size; simp only [World.size_alloc] at hn1 hb1; have g0 := fun o : Obj => (Below.heap_alloc w1 o _ (show w.heap.size < w1.heap.size by omega)).trans ((hb1.block w.heap.size (by omega)).trans ((Below.heap_alloc _ _ _ (by simp)).trans (heap_alloc_new w (.cells #[.int .i64 r, .int .i64 b, .int .i64 l, .int .i64 a] 32)))); have g1 := fun o : Obj => (Below.heap_alloc w1 o _ (show w.heap.size + 1 < w1.heap.size by omega)).trans ((hb1.block (w.heap.size + 1) (by omega)).trans (new_at (w.alloc (.cells #[.int .i64 r, .int .i64 b, .int .i64 l, .int .i64 a] 32)) (.cells #[.int .i64 0, .int .i64 0, .int .i64 0, .int .i64 0] 32) _ (by simp))); have b1 := fun o => (bkCells (g0 o)).2.1; have b0 := fun o => (bkCells (g0 o)).1; have z0 := fun o => (bkCells (g1 o)).1; have z1 := fun o => (bkCells (g1 o)).2.1; have z2 := fun o => (bkCells (g1 o)).2.2.1; have z3 := fun o => (bkCells (g1 o)).2.2.2.1; have y0 := fun o => (bkCells (g1 o)).2.2.2.2.1; have y1 := fun o => (bkCells (g1 o)).2.2.2.2.2.1; have y2 := fun o => (bkCells (g1 o)).2.2.2.2.2.2.1; have y3 := fun o => (bkCells (g1 o)).2.2.2.2.2.2.2; have HB1 := Lib.hid (fun o : Obj => ((((Below.refl _ w).alloc (Nat.le_refl _) (.cells #[.int .i64 r, .int .i64 b, .int .i64 l, .int .i64 a] 32)).alloc (by simp) (.cells #[.int .i64 0, .int .i64 0, .int .i64 0, .int .i64 0] 32)).trans (hb1.mono (by omega))).alloc (by omega) o))
    exact bodyPost_ret (results_row_tmp rfl _ _ (w.heap.size + 1) _ _ _ _ rfl (bk_set (g1 _) _ _ _ _) Try.underlying32 rfl (by kernel_rfl)) rfl ⟨rfl, bk_below (HB1.out _) (Nat.le_succ _) _ _ _ _⟩

end Go.Proofs.Ytcliampjgbmeaaa
