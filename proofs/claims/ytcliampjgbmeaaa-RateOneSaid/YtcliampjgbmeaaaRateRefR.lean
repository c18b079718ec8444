/-
  The document's own Ready.
-/
import Derived.Test.YtcliampjgbmeaaaRateRefT
namespace Go.Proofs.Ytcliampjgbmeaaa
open Go.RowKit

set_option maxHeartbeats 1600000 in
theorem refReady_any (k : Bk) (n m : Int) (w : World) (hm : -9223372036854775808 ≤ m ∧ m ≤ 9223372036854775807) : Calls Try.prog 27 #[k.V, .int .i64 n, .int .i64 m] w fun e w' => e = .returned (.tuple #[.int .i64 (readyM k n m), .int .i64 (readyE k n m)]) ∧ Below w.heap.size w w' := by
  have HT : ∀ j : Int, Hid (∀ W : World, Calls Try.prog 25 #[k.V, .int .i64 n, .int .i64 j] W fun e w' => (∃ r b l a : Int, e = .returned (.tuple #[.agg #[.int .i64 r, .int .i64 b, .int .i64 l, .int .i64 a], .int .i64 (takeE k n j)])) ∧ Below W.heap.size W w') := fun j W =>
    (refTake_any k n j W).mono fun e w' ⟨h1, h2⟩ => ⟨⟨_, _, _, _, h1⟩, h2⟩
  have H0 := HT m
  by_cases h12 : takeE k n m = 12
  · have H1 := HT 1099511627776
    rw [h12] at H0
    by_cases h0 : takeE k n 1099511627776 = 0
    · rw [h0] at H1
      obtain ⟨hr, hf1, hf2, hall⟩ := ready_found h12 h0
      obtain ⟨hs, ha, hm2, _⟩ := take_wait.1 h12
      have hE : readyE k n m = 0 := by unfold readyE; rw [if_pos h12, if_pos h0]
      have hM : readyM k n m = firstM k n := by unfold readyM; rw [if_pos hE, if_neg (by rw [h12]; decide)]
      rw [hE, hM]
      have ha0 := ((sound_iff k).1 hs).2.2.2.2.2.2.1
      obtain ⟨F, hF⟩ : ∃ F, F = firstM k n := ⟨_, rfl⟩
      rw [← hF] at hf1 hf2 hall ⊢
      have HA : Hid (∀ j, m ≤ j → j ≤ 1099511627776 → (F ≤ j → takeE k n j = 0) ∧ (j < F → takeE k n j = 12)) := fun j h1 h2 => ⟨(hall j (by omega) h2).1.2, (hall j (by omega) h2).2.2⟩
      have hm0 : 0 ≤ m := by omega
      clear hE hM hF hall hs h12 h0 hr
      obtain ⟨T, hTT⟩ : ∃ T : Int → Int, T = fun j => takeE k n j := ⟨_, rfl⟩
      have HT' : ∀ j : Int, Hid (∀ W : World, Calls Try.prog 25 #[k.V, .int .i64 n, .int .i64 j] W fun e w' => (∃ r b l a : Int, e = .returned (.tuple #[.agg #[.int .i64 r, .int .i64 b, .int .i64 l, .int .i64 a], .int .i64 (T j)])) ∧ Below W.heap.size W w') := fun j => by rw [hTT]; exact HT j
      have HA' : Hid (∀ j, m ≤ j → j ≤ 1099511627776 → (F ≤ j → T j = 0) ∧ (j < F → T j = 12)) := by rw [hTT]; exact HA
      clear hTT HT HA
      obtain ⟨r, b, l, a⟩ := k
      simp only [Bk.V] at H0 H1 HT' ⊢
      have BX : Below (w.heap.size + 1) (w.alloc (.cells #[.int .i64 r, .int .i64 b, .int .i64 l, .int .i64 a] 32)) (w.alloc (.cells #[.int .i64 r, .int .i64 b, .int .i64 l, .int .i64 a] 32)) := Below.refl _ _
      have HC : Hid (∀ W, Below (w.heap.size + 1) (w.alloc (.cells #[.int .i64 r, .int .i64 b, .int .i64 l, .int .i64 a] 32)) W → W.cell? ⟨w.heap.size, 0, none⟩ = some (.int .i64 r) ∧ W.cell? ⟨w.heap.size, 1, none⟩ = some (.int .i64 b) ∧ W.cell? ⟨w.heap.size, 2, none⟩ = some (.int .i64 l) ∧ W.cell? ⟨w.heap.size, 3, none⟩ = some (.int .i64 a)) := fun W hb => by
        have h := (hb.block w.heap.size (by omega)).trans (heap_alloc_new w (.cells #[.int .i64 r, .int .i64 b, .int .i64 l, .int .i64 a] 32))
        exact ⟨(bkCells h).1, (bkCells h).2.1, (bkCells h).2.2.1, (bkCells h).2.2.2.1⟩
      have HBW : Hid (∀ W, Below (w.heap.size + 1) (w.alloc (.cells #[.int .i64 r, .int .i64 b, .int .i64 l, .int .i64 a] 32)) W → Below w.heap.size w W) := fun W hb => ((Below.refl _ _).alloc (Nat.le_refl _) _).trans (hb.mono (by omega))
      go_enter Try.func27, Try.ntmps27
      go_wp2_with (first | (go_at_call 25; with_reducible (refine Calls.mono (H0.out _) ?_); rintro e w1 ⟨⟨r1, b1, l1, a1, rfl⟩, hb1⟩; have hbx := BX.trans (hb1.mono (by simp)); have ka := fun o : Obj => HC.out _ (hbx.alloc (by have := hbx.size; simp at this; omega) o); have k0 := fun o => (ka o).1; have k1 := fun o => (ka o).2.1; have k2 := fun o => (ka o).2.2.1; have k3 := fun o => (ka o).2.2.2; clear ka) | (go_at_call 25; with_reducible (refine Calls.mono (H1.out _) ?_); rintro e w2 ⟨⟨r2, b2, l2, a2, rfl⟩, hb2⟩; have hby := (hbx.alloc (by have := hbx.size; simp at this; omega) (.cells #[.int .i64 r1, .int .i64 b1, .int .i64 l1, .int .i64 a1] 32)).trans (hb2.mono (by have := hbx.size; simp at this ⊢; omega)); obtain ⟨j0, j1, j2, j3⟩ := HC.out _ hby))
      clear k0 k1 k2 k3 hb1 hb2 hbx j0 j1 j2 j3 BX
      go_loopw [9, 10, 11] (fun v x y wr => ∃ N Y : Int, (∃ E : Int, v = .int .i64 E) ∧ x = .int .i64 N ∧ y = .int .i64 Y ∧ m ≤ N ∧ N < F ∧ F ≤ Y ∧ Y ≤ 1099511627776 ∧ Hid (Below (w.heap.size + 1) (w.alloc (.cells #[.int .i64 r, .int .i64 b, .int .i64 l, .int .i64 a] 32)) wr)) (fun _ x y _ => (intOf y - intOf x).toNat)
      case atStart => exact ⟨m, 1099511627776, ⟨_, rfl⟩, rfl, rfl, Int.le_refl _, hf1, hf2, Int.le_refl _, hby⟩
      case round =>
        obtain ⟨N, Y, ⟨E, rfl⟩, rfl, rfl, q1, q2, q3, q4, hbr⟩ := hrel
        clear hby
        obtain ⟨k0, k1, k2, k3⟩ := HC.out _ hbr.out
        by_cases c : 1 < Y - N
        · obtain ⟨d, hd⟩ : ∃ d, d = (Y - N) / 2 := ⟨_, rfl⟩
          have hd1 : (Y - N).tdiv 2 = d := by rw [Int.tdiv_eq_ediv_of_nonneg (by omega)]; omega
          have hd2 : 1 ≤ d ∧ d < Y - N := by omega
          have HD2 := Lib.hid hd2
          have hd3 : (Y - N) / 2 = d := hd.symm
          have hd4 := hd2.1
          have hd5 := hd2.2
          have hT := HT' (N + d)
          have hN := (HA'.out (N + d) (by omega) (by omega))
          clear hd hd2
          by_cases f : F ≤ N + d
          · rw [hN.1 f] at hT
            clear hN
            go_wp2_with (go_at_call 25; with_reducible (refine Calls.mono (hT.out _) ?_); rintro e w3 ⟨⟨r3, b3, l3, a3, rfl⟩, hb3⟩; have hbz := Lib.hid (hbr.out.trans (hb3.mono (by have := hbr.out.size; simp at this; omega))); clear hb3)
            go_roundw
            case rel => exact ⟨N, N + d, ⟨_, rfl⟩, rfl, rfl, q1, q2, f, by omega, hbz.out⟩
            case measure => simp [intOf]; omega
          · rw [hN.2 (by omega)] at hT
            clear hN
            go_wp2_with (go_at_call 25; with_reducible (refine Calls.mono (hT.out _) ?_); rintro e w3 ⟨⟨r3, b3, l3, a3, rfl⟩, hb3⟩; have hbz := Lib.hid (hbr.out.trans (hb3.mono (by have := hbr.out.size; simp at this; omega))); clear hb3)
            go_roundw
            case rel => exact ⟨N + d, Y, ⟨_, rfl⟩, rfl, rfl, by omega, by omega, q3, q4, hbz.out⟩
            case measure => simp [intOf]; omega
        · have hYF : Y = F := by omega
          subst hYF
          have HH := Lib.hid (HBW.out _ hbr.out)
          clear hbr k0 k1 k2 k3
          go_wp2
          go_ret2
          exact ⟨rfl, HH.out⟩
    · have hE : readyE k n m = 4 := by unfold readyE; rw [if_pos h12, if_neg h0]
      have hM : readyM k n m = 0 := by unfold readyM; rw [hE]; rfl
      rw [hE, hM]
      obtain ⟨E, hEE⟩ : ∃ E, E = takeE k n 1099511627776 := ⟨_, rfl⟩
      rw [← hEE] at H1 h0
      clear hE hM hEE h12 HT
      obtain ⟨r, b, l, a⟩ := k
      simp only [Bk.V] at H0 H1 ⊢
      have BX : Below (w.heap.size + 1) (w.alloc (.cells #[.int .i64 r, .int .i64 b, .int .i64 l, .int .i64 a] 32)) (w.alloc (.cells #[.int .i64 r, .int .i64 b, .int .i64 l, .int .i64 a] 32)) := Below.refl _ _
      have HC : Hid (∀ W, Below (w.heap.size + 1) (w.alloc (.cells #[.int .i64 r, .int .i64 b, .int .i64 l, .int .i64 a] 32)) W → W.cell? ⟨w.heap.size, 0, none⟩ = some (.int .i64 r) ∧ W.cell? ⟨w.heap.size, 1, none⟩ = some (.int .i64 b) ∧ W.cell? ⟨w.heap.size, 2, none⟩ = some (.int .i64 l) ∧ W.cell? ⟨w.heap.size, 3, none⟩ = some (.int .i64 a)) := fun W hb => by
        have h := (hb.block w.heap.size (by omega)).trans (heap_alloc_new w (.cells #[.int .i64 r, .int .i64 b, .int .i64 l, .int .i64 a] 32))
        exact ⟨(bkCells h).1, (bkCells h).2.1, (bkCells h).2.2.1, (bkCells h).2.2.2.1⟩
      have HBW : Hid (∀ W, Below (w.heap.size + 1) (w.alloc (.cells #[.int .i64 r, .int .i64 b, .int .i64 l, .int .i64 a] 32)) W → Below w.heap.size w W) := fun W hb => ((Below.refl _ _).alloc (Nat.le_refl _) _).trans (hb.mono (by omega))
      go_enter Try.func27, Try.ntmps27
      go_wp2_with (first | (go_at_call 25; with_reducible (refine Calls.mono (H0.out _) ?_); rintro e w1 ⟨⟨r1, b1, l1, a1, rfl⟩, hb1⟩; have hbx := BX.trans (hb1.mono (by simp)); have ka := fun o : Obj => HC.out _ (hbx.alloc (by have := hbx.size; simp at this; omega) o); have k0 := fun o => (ka o).1; have k1 := fun o => (ka o).2.1; have k2 := fun o => (ka o).2.2.1; have k3 := fun o => (ka o).2.2.2; clear ka) | (go_at_call 25; with_reducible (refine Calls.mono (H1.out _) ?_); rintro e w2 ⟨⟨r2, b2, l2, a2, rfl⟩, hb2⟩; have hby := (hbx.alloc (by have := hbx.size; simp at this; omega) (.cells #[.int .i64 r1, .int .i64 b1, .int .i64 l1, .int .i64 a1] 32)).trans (hb2.mono (by have := hbx.size; simp at this ⊢; omega)); obtain ⟨j0, j1, j2, j3⟩ := HC.out _ hby))
      go_ret2
      exact ⟨rfl, HBW.out _ hby⟩
  · by_cases h0 : takeE k n m = 0
    · have hE : readyE k n m = 0 := by unfold readyE; rw [if_neg h12, h0]
      have hM : readyM k n m = m := by unfold readyM; rw [if_pos hE, if_pos h0]
      rw [hE, hM]
      rw [h0] at H0
      clear hE hM h0 h12 HT
      obtain ⟨r, b, l, a⟩ := k
      simp only [Bk.V] at H0 ⊢
      have BX : Below (w.heap.size + 1) (w.alloc (.cells #[.int .i64 r, .int .i64 b, .int .i64 l, .int .i64 a] 32)) (w.alloc (.cells #[.int .i64 r, .int .i64 b, .int .i64 l, .int .i64 a] 32)) := Below.refl _ _
      have HC : Hid (∀ W, Below (w.heap.size + 1) (w.alloc (.cells #[.int .i64 r, .int .i64 b, .int .i64 l, .int .i64 a] 32)) W → W.cell? ⟨w.heap.size, 0, none⟩ = some (.int .i64 r) ∧ W.cell? ⟨w.heap.size, 1, none⟩ = some (.int .i64 b) ∧ W.cell? ⟨w.heap.size, 2, none⟩ = some (.int .i64 l) ∧ W.cell? ⟨w.heap.size, 3, none⟩ = some (.int .i64 a)) := fun W hb => by
        have h := (hb.block w.heap.size (by omega)).trans (heap_alloc_new w (.cells #[.int .i64 r, .int .i64 b, .int .i64 l, .int .i64 a] 32))
        exact ⟨(bkCells h).1, (bkCells h).2.1, (bkCells h).2.2.1, (bkCells h).2.2.2.1⟩
      have HBW : Hid (∀ W, Below (w.heap.size + 1) (w.alloc (.cells #[.int .i64 r, .int .i64 b, .int .i64 l, .int .i64 a] 32)) W → Below w.heap.size w W) := fun W hb => ((Below.refl _ _).alloc (Nat.le_refl _) _).trans (hb.mono (by omega))
      go_enter Try.func27, Try.ntmps27
      go_wp2_with (go_at_call 25; with_reducible (refine Calls.mono (H0.out _) ?_); rintro e w1 ⟨⟨r1, b1, l1, a1, rfl⟩, hb1⟩; have hbx := BX.trans (hb1.mono (by simp)); have ka := fun o : Obj => HC.out _ (hbx.alloc (by have := hbx.size; simp at this; omega) o); have k0 := fun o => (ka o).1; have k1 := fun o => (ka o).2.1; have k2 := fun o => (ka o).2.2.1; have k3 := fun o => (ka o).2.2.2; clear ka)
      go_ret2
      exact ⟨rfl, HBW.out _ (hbx.alloc (by have := hbx.size; simp at this; omega) _)⟩
    · have hE : readyE k n m = takeE k n m := by unfold readyE; rw [if_neg h12]
      have hM : readyM k n m = 0 := by unfold readyM; rw [hE, if_neg h0]
      rw [hE, hM]
      obtain ⟨E, hEE⟩ : ∃ E, E = takeE k n m := ⟨_, rfl⟩
      rw [← hEE] at H0 h0 h12 ⊢
      clear hE hM hEE HT
      obtain ⟨r, b, l, a⟩ := k
      simp only [Bk.V] at H0 ⊢
      have BX : Below (w.heap.size + 1) (w.alloc (.cells #[.int .i64 r, .int .i64 b, .int .i64 l, .int .i64 a] 32)) (w.alloc (.cells #[.int .i64 r, .int .i64 b, .int .i64 l, .int .i64 a] 32)) := Below.refl _ _
      have HC : Hid (∀ W, Below (w.heap.size + 1) (w.alloc (.cells #[.int .i64 r, .int .i64 b, .int .i64 l, .int .i64 a] 32)) W → W.cell? ⟨w.heap.size, 0, none⟩ = some (.int .i64 r) ∧ W.cell? ⟨w.heap.size, 1, none⟩ = some (.int .i64 b) ∧ W.cell? ⟨w.heap.size, 2, none⟩ = some (.int .i64 l) ∧ W.cell? ⟨w.heap.size, 3, none⟩ = some (.int .i64 a)) := fun W hb => by
        have h := (hb.block w.heap.size (by omega)).trans (heap_alloc_new w (.cells #[.int .i64 r, .int .i64 b, .int .i64 l, .int .i64 a] 32))
        exact ⟨(bkCells h).1, (bkCells h).2.1, (bkCells h).2.2.1, (bkCells h).2.2.2.1⟩
      have HBW : Hid (∀ W, Below (w.heap.size + 1) (w.alloc (.cells #[.int .i64 r, .int .i64 b, .int .i64 l, .int .i64 a] 32)) W → Below w.heap.size w W) := fun W hb => ((Below.refl _ _).alloc (Nat.le_refl _) _).trans (hb.mono (by omega))
      go_enter Try.func27, Try.ntmps27
      go_wp2_with (go_at_call 25; with_reducible (refine Calls.mono (H0.out _) ?_); rintro e w1 ⟨⟨r1, b1, l1, a1, rfl⟩, hb1⟩; have hbx := BX.trans (hb1.mono (by simp)); have ka := fun o : Obj => HC.out _ (hbx.alloc (by have := hbx.size; simp at this; omega) o); have k0 := fun o => (ka o).1; have k1 := fun o => (ka o).2.1; have k2 := fun o => (ka o).2.2.1; have k3 := fun o => (ka o).2.2.2; clear ka)
      go_ret2
      exact ⟨rfl, HBW.out _ (hbx.alloc (by have := hbx.size; simp at this; omega) _)⟩

end Go.Proofs.Ytcliampjgbmeaaa
