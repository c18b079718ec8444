/-
  The landed table: formed.
-/
import Derived.Test.YtnenpafofplbhaaGreatTableC1
namespace Go.Proofs.YtnenpafofplbhaaGreat
open Go.RowKit

set_option maxHeartbeats 3200000 in
set_option maxRecDepth 20000 in
/-- 'formed', of a kind that is one. -/
theorem formed_gen (rk ra rb rc rd : Int) (key : ByteArray) (a0 a1 b0 b1 c0 c1 d0 d1 ky : Int) (w : World) (hk : inR rk 0 9)
    (hf : ∀ W, Calls Tryz.prog 24 #[.int .i64 rk] W fun e w' => e = .returned (.agg #[.int .i64 a0, .int .i64 a1, .int .i64 b0, .int .i64 b1, .int .i64 c0, .int .i64 c1, .int .i64 d0, .int .i64 d1, .int .i64 ky]) ∧ Below W.heap.size W w') :
    Calls Tryz.prog 10 #[.agg #[.int .i64 rk, .int .i64 ra, .int .i64 rb, .int .i64 rc, .int .i64 rd, .string key]] w fun e w' => e = .returned (.bool (decide (inR ra a0 a1) && decide (inR rb b0 b1) && decide (inR rc c0 c1) && decide (inR rd d0 d1) && decide ((key.size : Int) = ky))) ∧ Below w.heap.size w w' := by
  have H0 : Hid (∀ W, Calls Tryz.prog 23 #[.agg #[.int .i64 0, .int .i64 9], .int .i64 rk] W fun e w' => e = .returned (.bool true) ∧ Below W.heap.size W w') := fun W => by
    have h := has_any 0 9 rk W
    rwa [decide_eq_true hk] at h
  have HF := Lib.hid hf
  have H1 := Lib.hid (fun W => has_any a0 a1 ra W)
  have H2 := Lib.hid (fun W => has_any b0 b1 rb W)
  have H3 := Lib.hid (fun W => has_any c0 c1 rc W)
  have H4 := Lib.hid (fun W => has_any d0 d1 rd W)
  have h5 : ((key.size : Int) == ky) = decide ((key.size : Int) = ky) := by
    rw [Bool.eq_iff_iff]; simp
  obtain ⟨p1, hp1⟩ : ∃ P, P = decide (inR ra a0 a1) := ⟨_, rfl⟩
  obtain ⟨p2, hp2⟩ : ∃ P, P = decide (inR rb b0 b1) := ⟨_, rfl⟩
  obtain ⟨p3, hp3⟩ : ∃ P, P = decide (inR rc c0 c1) := ⟨_, rfl⟩
  obtain ⟨p4, hp4⟩ : ∃ P, P = decide (inR rd d0 d1) := ⟨_, rfl⟩
  obtain ⟨p5, hp5⟩ : ∃ P, P = decide ((key.size : Int) = ky) := ⟨_, rfl⟩
  rw [← hp5] at h5
  simp only [← hp1, ← hp2, ← hp3, ← hp4, ← hp5] at H1 H2 H3 H4 ⊢
  have HW0 := Lib.hid (heap_alloc_new w (.cells #[.int .i64 rk, .int .i64 ra, .int .i64 rb, .int .i64 rc, .int .i64 rd, .string key] 40))
  have hb0 : Below w.heap.size w (w.alloc (.cells #[.int .i64 rk, .int .i64 ra, .int .i64 rb, .int .i64 rc, .int .i64 rd, .string key] 40)) := (Below.refl _ _).alloc (Nat.le_refl _) _
  obtain ⟨W0, hW0⟩ : ∃ W, W = w.alloc (.cells #[.int .i64 rk, .int .i64 ra, .int .i64 rb, .int .i64 rc, .int .i64 rd, .string key] 40) := ⟨_, rfl⟩
  rw [← hW0] at HW0 hb0
  have HR : Hid (∀ X, Below W0.heap.size W0 X → X.cell? ⟨w.heap.size, 0, none⟩ = some (.int .i64 rk) ∧ X.cell? ⟨w.heap.size, 1, none⟩ = some (.int .i64 ra) ∧ X.cell? ⟨w.heap.size, 2, none⟩ = some (.int .i64 rb) ∧ X.cell? ⟨w.heap.size, 3, none⟩ = some (.int .i64 rc) ∧ X.cell? ⟨w.heap.size, 4, none⟩ = some (.int .i64 rd) ∧ X.cell? ⟨w.heap.size, 5, none⟩ = some (.string key)) := fun X hb => cells6 ((hb.block _ (Array.getElem?_eq_some_iff.1 HW0.out).1).trans HW0.out)
  have HC : Hid (∀ W X : World, Below (W.alloc (.cells #[.int .i64 a0, .int .i64 a1, .int .i64 b0, .int .i64 b1, .int .i64 c0, .int .i64 c1, .int .i64 d0, .int .i64 d1, .int .i64 ky] 59)).heap.size (W.alloc (.cells #[.int .i64 a0, .int .i64 a1, .int .i64 b0, .int .i64 b1, .int .i64 c0, .int .i64 c1, .int .i64 d0, .int .i64 d1, .int .i64 ky] 59)) X →
      X.cell? ⟨W.heap.size, 0, none⟩ = some (.int .i64 a0) ∧ X.cell? ⟨W.heap.size, 1, none⟩ = some (.int .i64 a1) ∧ X.cell? ⟨W.heap.size, 2, none⟩ = some (.int .i64 b0) ∧ X.cell? ⟨W.heap.size, 3, none⟩ = some (.int .i64 b1) ∧ X.cell? ⟨W.heap.size, 4, none⟩ = some (.int .i64 c0) ∧ X.cell? ⟨W.heap.size, 5, none⟩ = some (.int .i64 c1) ∧ X.cell? ⟨W.heap.size, 6, none⟩ = some (.int .i64 d0) ∧ X.cell? ⟨W.heap.size, 7, none⟩ = some (.int .i64 d1) ∧ X.cell? ⟨W.heap.size, 8, none⟩ = some (.int .i64 ky)) := fun W X hb => cells9 ((hb.block _ (by simp)).trans (heap_alloc_new W _))
  obtain ⟨r0, r1, r2, r3, r4, r5⟩ := HR.out W0 (Below.refl _ _)
  have hb0' := Lib.hid hb0
  clear hk hf hp1 hp2 hp3 hp4 hp5 HW0 hb0
  cases p1
  · skip
    go_enter Tryz.func10, Tryz.ntmps10
    go_wp2_with fail
    rw [← hW0]
    clear hW0
    go_wp2_with (first
      | (go_at_call 23; with_reducible (refine Calls.mono (H0.out _) ?_); rintro e w1 ⟨rfl, hb1⟩
         obtain ⟨r0, r1, r2, r3, r4, r5⟩ := HR.out _ hb1)
      | (go_at_call 24; with_reducible (refine Calls.mono (HF.out _) ?_); rintro e w2 ⟨rfl, hb2⟩
         have hx2 := chain hb1 hb2
         have hx3 := hx2.alloc hx2.size (.cells #[.int .i64 a0, .int .i64 a1, .int .i64 b0, .int .i64 b1, .int .i64 c0, .int .i64 c1, .int .i64 d0, .int .i64 d1, .int .i64 ky] 59)
         have hbx := Below.refl (w2.alloc (.cells #[.int .i64 a0, .int .i64 a1, .int .i64 b0, .int .i64 b1, .int .i64 c0, .int .i64 c1, .int .i64 d0, .int .i64 d1, .int .i64 ky] 59)).heap.size (w2.alloc (.cells #[.int .i64 a0, .int .i64 a1, .int .i64 b0, .int .i64 b1, .int .i64 c0, .int .i64 c1, .int .i64 d0, .int .i64 d1, .int .i64 ky] 59))
         obtain ⟨r0, r1, r2, r3, r4, r5⟩ := HR.out _ hx3)
      | (have hguard := hx3; clear hguard; go_at_call 23; with_reducible (refine Calls.mono (H1.out _) ?_); rintro e w3 ⟨rfl, hb3⟩
         have hbx := chain hbx hb3
         obtain ⟨r0, r1, r2, r3, r4, r5⟩ := HR.out _ (chain hx3 hbx)
         obtain ⟨q0, q1, q2, q3, q4, q5, q6, q7, q8⟩ := HC.out _ _ hbx)
      | (have hguard := hx3; clear hguard; go_at_call 23; with_reducible (refine Calls.mono (H2.out _) ?_); rintro e w3 ⟨rfl, hb3⟩
         have hbx := chain hbx hb3
         obtain ⟨r0, r1, r2, r3, r4, r5⟩ := HR.out _ (chain hx3 hbx)
         obtain ⟨q0, q1, q2, q3, q4, q5, q6, q7, q8⟩ := HC.out _ _ hbx)
      | (have hguard := hx3; clear hguard; go_at_call 23; with_reducible (refine Calls.mono (H3.out _) ?_); rintro e w3 ⟨rfl, hb3⟩
         have hbx := chain hbx hb3
         obtain ⟨r0, r1, r2, r3, r4, r5⟩ := HR.out _ (chain hx3 hbx)
         obtain ⟨q0, q1, q2, q3, q4, q5, q6, q7, q8⟩ := HC.out _ _ hbx)
      | (have hguard := hx3; clear hguard; go_at_call 23; with_reducible (refine Calls.mono (H4.out _) ?_); rintro e w3 ⟨rfl, hb3⟩
         have hbx := chain hbx hb3
         obtain ⟨r0, r1, r2, r3, r4, r5⟩ := HR.out _ (chain hx3 hbx)
         obtain ⟨q0, q1, q2, q3, q4, q5, q6, q7, q8⟩ := HC.out _ _ hbx))
    go_ret
    exact ⟨rfl, chain hb0'.out (chain hx3 hbx)⟩
  ·
    cases p2
    · skip
      go_enter Tryz.func10, Tryz.ntmps10
      go_wp2_with fail
      rw [← hW0]
      clear hW0
      go_wp2_with (first
        | (go_at_call 23; with_reducible (refine Calls.mono (H0.out _) ?_); rintro e w1 ⟨rfl, hb1⟩
           obtain ⟨r0, r1, r2, r3, r4, r5⟩ := HR.out _ hb1)
        | (go_at_call 24; with_reducible (refine Calls.mono (HF.out _) ?_); rintro e w2 ⟨rfl, hb2⟩
           have hx2 := chain hb1 hb2
           have hx3 := hx2.alloc hx2.size (.cells #[.int .i64 a0, .int .i64 a1, .int .i64 b0, .int .i64 b1, .int .i64 c0, .int .i64 c1, .int .i64 d0, .int .i64 d1, .int .i64 ky] 59)
           have hbx := Below.refl (w2.alloc (.cells #[.int .i64 a0, .int .i64 a1, .int .i64 b0, .int .i64 b1, .int .i64 c0, .int .i64 c1, .int .i64 d0, .int .i64 d1, .int .i64 ky] 59)).heap.size (w2.alloc (.cells #[.int .i64 a0, .int .i64 a1, .int .i64 b0, .int .i64 b1, .int .i64 c0, .int .i64 c1, .int .i64 d0, .int .i64 d1, .int .i64 ky] 59))
           obtain ⟨r0, r1, r2, r3, r4, r5⟩ := HR.out _ hx3)
        | (have hguard := hx3; clear hguard; go_at_call 23; with_reducible (refine Calls.mono (H1.out _) ?_); rintro e w3 ⟨rfl, hb3⟩
           have hbx := chain hbx hb3
           obtain ⟨r0, r1, r2, r3, r4, r5⟩ := HR.out _ (chain hx3 hbx)
           obtain ⟨q0, q1, q2, q3, q4, q5, q6, q7, q8⟩ := HC.out _ _ hbx)
        | (have hguard := hx3; clear hguard; go_at_call 23; with_reducible (refine Calls.mono (H2.out _) ?_); rintro e w3 ⟨rfl, hb3⟩
           have hbx := chain hbx hb3
           obtain ⟨r0, r1, r2, r3, r4, r5⟩ := HR.out _ (chain hx3 hbx)
           obtain ⟨q0, q1, q2, q3, q4, q5, q6, q7, q8⟩ := HC.out _ _ hbx)
        | (have hguard := hx3; clear hguard; go_at_call 23; with_reducible (refine Calls.mono (H3.out _) ?_); rintro e w3 ⟨rfl, hb3⟩
           have hbx := chain hbx hb3
           obtain ⟨r0, r1, r2, r3, r4, r5⟩ := HR.out _ (chain hx3 hbx)
           obtain ⟨q0, q1, q2, q3, q4, q5, q6, q7, q8⟩ := HC.out _ _ hbx)
        | (have hguard := hx3; clear hguard; go_at_call 23; with_reducible (refine Calls.mono (H4.out _) ?_); rintro e w3 ⟨rfl, hb3⟩
           have hbx := chain hbx hb3
           obtain ⟨r0, r1, r2, r3, r4, r5⟩ := HR.out _ (chain hx3 hbx)
           obtain ⟨q0, q1, q2, q3, q4, q5, q6, q7, q8⟩ := HC.out _ _ hbx))
      go_ret
      exact ⟨rfl, chain hb0'.out (chain hx3 hbx)⟩
    ·
      cases p3
      · skip
        go_enter Tryz.func10, Tryz.ntmps10
        go_wp2_with fail
        rw [← hW0]
        clear hW0
        go_wp2_with (first
          | (go_at_call 23; with_reducible (refine Calls.mono (H0.out _) ?_); rintro e w1 ⟨rfl, hb1⟩
             obtain ⟨r0, r1, r2, r3, r4, r5⟩ := HR.out _ hb1)
          | (go_at_call 24; with_reducible (refine Calls.mono (HF.out _) ?_); rintro e w2 ⟨rfl, hb2⟩
             have hx2 := chain hb1 hb2
             have hx3 := hx2.alloc hx2.size (.cells #[.int .i64 a0, .int .i64 a1, .int .i64 b0, .int .i64 b1, .int .i64 c0, .int .i64 c1, .int .i64 d0, .int .i64 d1, .int .i64 ky] 59)
             have hbx := Below.refl (w2.alloc (.cells #[.int .i64 a0, .int .i64 a1, .int .i64 b0, .int .i64 b1, .int .i64 c0, .int .i64 c1, .int .i64 d0, .int .i64 d1, .int .i64 ky] 59)).heap.size (w2.alloc (.cells #[.int .i64 a0, .int .i64 a1, .int .i64 b0, .int .i64 b1, .int .i64 c0, .int .i64 c1, .int .i64 d0, .int .i64 d1, .int .i64 ky] 59))
             obtain ⟨r0, r1, r2, r3, r4, r5⟩ := HR.out _ hx3)
          | (have hguard := hx3; clear hguard; go_at_call 23; with_reducible (refine Calls.mono (H1.out _) ?_); rintro e w3 ⟨rfl, hb3⟩
             have hbx := chain hbx hb3
             obtain ⟨r0, r1, r2, r3, r4, r5⟩ := HR.out _ (chain hx3 hbx)
             obtain ⟨q0, q1, q2, q3, q4, q5, q6, q7, q8⟩ := HC.out _ _ hbx)
          | (have hguard := hx3; clear hguard; go_at_call 23; with_reducible (refine Calls.mono (H2.out _) ?_); rintro e w3 ⟨rfl, hb3⟩
             have hbx := chain hbx hb3
             obtain ⟨r0, r1, r2, r3, r4, r5⟩ := HR.out _ (chain hx3 hbx)
             obtain ⟨q0, q1, q2, q3, q4, q5, q6, q7, q8⟩ := HC.out _ _ hbx)
          | (have hguard := hx3; clear hguard; go_at_call 23; with_reducible (refine Calls.mono (H3.out _) ?_); rintro e w3 ⟨rfl, hb3⟩
             have hbx := chain hbx hb3
             obtain ⟨r0, r1, r2, r3, r4, r5⟩ := HR.out _ (chain hx3 hbx)
             obtain ⟨q0, q1, q2, q3, q4, q5, q6, q7, q8⟩ := HC.out _ _ hbx)
          | (have hguard := hx3; clear hguard; go_at_call 23; with_reducible (refine Calls.mono (H4.out _) ?_); rintro e w3 ⟨rfl, hb3⟩
             have hbx := chain hbx hb3
             obtain ⟨r0, r1, r2, r3, r4, r5⟩ := HR.out _ (chain hx3 hbx)
             obtain ⟨q0, q1, q2, q3, q4, q5, q6, q7, q8⟩ := HC.out _ _ hbx))
        go_ret
        exact ⟨rfl, chain hb0'.out (chain hx3 hbx)⟩
      ·
        cases p4
        · skip
          go_enter Tryz.func10, Tryz.ntmps10
          go_wp2_with fail
          rw [← hW0]
          clear hW0
          go_wp2_with (first
            | (go_at_call 23; with_reducible (refine Calls.mono (H0.out _) ?_); rintro e w1 ⟨rfl, hb1⟩
               obtain ⟨r0, r1, r2, r3, r4, r5⟩ := HR.out _ hb1)
            | (go_at_call 24; with_reducible (refine Calls.mono (HF.out _) ?_); rintro e w2 ⟨rfl, hb2⟩
               have hx2 := chain hb1 hb2
               have hx3 := hx2.alloc hx2.size (.cells #[.int .i64 a0, .int .i64 a1, .int .i64 b0, .int .i64 b1, .int .i64 c0, .int .i64 c1, .int .i64 d0, .int .i64 d1, .int .i64 ky] 59)
               have hbx := Below.refl (w2.alloc (.cells #[.int .i64 a0, .int .i64 a1, .int .i64 b0, .int .i64 b1, .int .i64 c0, .int .i64 c1, .int .i64 d0, .int .i64 d1, .int .i64 ky] 59)).heap.size (w2.alloc (.cells #[.int .i64 a0, .int .i64 a1, .int .i64 b0, .int .i64 b1, .int .i64 c0, .int .i64 c1, .int .i64 d0, .int .i64 d1, .int .i64 ky] 59))
               obtain ⟨r0, r1, r2, r3, r4, r5⟩ := HR.out _ hx3)
            | (have hguard := hx3; clear hguard; go_at_call 23; with_reducible (refine Calls.mono (H1.out _) ?_); rintro e w3 ⟨rfl, hb3⟩
               have hbx := chain hbx hb3
               obtain ⟨r0, r1, r2, r3, r4, r5⟩ := HR.out _ (chain hx3 hbx)
               obtain ⟨q0, q1, q2, q3, q4, q5, q6, q7, q8⟩ := HC.out _ _ hbx)
            | (have hguard := hx3; clear hguard; go_at_call 23; with_reducible (refine Calls.mono (H2.out _) ?_); rintro e w3 ⟨rfl, hb3⟩
               have hbx := chain hbx hb3
               obtain ⟨r0, r1, r2, r3, r4, r5⟩ := HR.out _ (chain hx3 hbx)
               obtain ⟨q0, q1, q2, q3, q4, q5, q6, q7, q8⟩ := HC.out _ _ hbx)
            | (have hguard := hx3; clear hguard; go_at_call 23; with_reducible (refine Calls.mono (H3.out _) ?_); rintro e w3 ⟨rfl, hb3⟩
               have hbx := chain hbx hb3
               obtain ⟨r0, r1, r2, r3, r4, r5⟩ := HR.out _ (chain hx3 hbx)
               obtain ⟨q0, q1, q2, q3, q4, q5, q6, q7, q8⟩ := HC.out _ _ hbx)
            | (have hguard := hx3; clear hguard; go_at_call 23; with_reducible (refine Calls.mono (H4.out _) ?_); rintro e w3 ⟨rfl, hb3⟩
               have hbx := chain hbx hb3
               obtain ⟨r0, r1, r2, r3, r4, r5⟩ := HR.out _ (chain hx3 hbx)
               obtain ⟨q0, q1, q2, q3, q4, q5, q6, q7, q8⟩ := HC.out _ _ hbx))
          go_ret
          exact ⟨rfl, chain hb0'.out (chain hx3 hbx)⟩
        ·
          cases p5
          · skip
            go_enter Tryz.func10, Tryz.ntmps10
            go_wp2_with fail
            rw [← hW0]
            clear hW0
            go_wp2_with (first
              | (go_at_call 23; with_reducible (refine Calls.mono (H0.out _) ?_); rintro e w1 ⟨rfl, hb1⟩
                 obtain ⟨r0, r1, r2, r3, r4, r5⟩ := HR.out _ hb1)
              | (go_at_call 24; with_reducible (refine Calls.mono (HF.out _) ?_); rintro e w2 ⟨rfl, hb2⟩
                 have hx2 := chain hb1 hb2
                 have hx3 := hx2.alloc hx2.size (.cells #[.int .i64 a0, .int .i64 a1, .int .i64 b0, .int .i64 b1, .int .i64 c0, .int .i64 c1, .int .i64 d0, .int .i64 d1, .int .i64 ky] 59)
                 have hbx := Below.refl (w2.alloc (.cells #[.int .i64 a0, .int .i64 a1, .int .i64 b0, .int .i64 b1, .int .i64 c0, .int .i64 c1, .int .i64 d0, .int .i64 d1, .int .i64 ky] 59)).heap.size (w2.alloc (.cells #[.int .i64 a0, .int .i64 a1, .int .i64 b0, .int .i64 b1, .int .i64 c0, .int .i64 c1, .int .i64 d0, .int .i64 d1, .int .i64 ky] 59))
                 obtain ⟨r0, r1, r2, r3, r4, r5⟩ := HR.out _ hx3)
              | (have hguard := hx3; clear hguard; go_at_call 23; with_reducible (refine Calls.mono (H1.out _) ?_); rintro e w3 ⟨rfl, hb3⟩
                 have hbx := chain hbx hb3
                 obtain ⟨r0, r1, r2, r3, r4, r5⟩ := HR.out _ (chain hx3 hbx)
                 obtain ⟨q0, q1, q2, q3, q4, q5, q6, q7, q8⟩ := HC.out _ _ hbx)
              | (have hguard := hx3; clear hguard; go_at_call 23; with_reducible (refine Calls.mono (H2.out _) ?_); rintro e w3 ⟨rfl, hb3⟩
                 have hbx := chain hbx hb3
                 obtain ⟨r0, r1, r2, r3, r4, r5⟩ := HR.out _ (chain hx3 hbx)
                 obtain ⟨q0, q1, q2, q3, q4, q5, q6, q7, q8⟩ := HC.out _ _ hbx)
              | (have hguard := hx3; clear hguard; go_at_call 23; with_reducible (refine Calls.mono (H3.out _) ?_); rintro e w3 ⟨rfl, hb3⟩
                 have hbx := chain hbx hb3
                 obtain ⟨r0, r1, r2, r3, r4, r5⟩ := HR.out _ (chain hx3 hbx)
                 obtain ⟨q0, q1, q2, q3, q4, q5, q6, q7, q8⟩ := HC.out _ _ hbx)
              | (have hguard := hx3; clear hguard; go_at_call 23; with_reducible (refine Calls.mono (H4.out _) ?_); rintro e w3 ⟨rfl, hb3⟩
                 have hbx := chain hbx hb3
                 obtain ⟨r0, r1, r2, r3, r4, r5⟩ := HR.out _ (chain hx3 hbx)
                 obtain ⟨q0, q1, q2, q3, q4, q5, q6, q7, q8⟩ := HC.out _ _ hbx))
            go_ret
            exact ⟨rfl, chain hb0'.out (chain hx3 hbx)⟩
          ·
            go_enter Tryz.func10, Tryz.ntmps10
            go_wp2_with fail
            rw [← hW0]
            clear hW0
            go_wp2_with (first
              | (go_at_call 23; with_reducible (refine Calls.mono (H0.out _) ?_); rintro e w1 ⟨rfl, hb1⟩
                 obtain ⟨r0, r1, r2, r3, r4, r5⟩ := HR.out _ hb1)
              | (go_at_call 24; with_reducible (refine Calls.mono (HF.out _) ?_); rintro e w2 ⟨rfl, hb2⟩
                 have hx2 := chain hb1 hb2
                 have hx3 := hx2.alloc hx2.size (.cells #[.int .i64 a0, .int .i64 a1, .int .i64 b0, .int .i64 b1, .int .i64 c0, .int .i64 c1, .int .i64 d0, .int .i64 d1, .int .i64 ky] 59)
                 have hbx := Below.refl (w2.alloc (.cells #[.int .i64 a0, .int .i64 a1, .int .i64 b0, .int .i64 b1, .int .i64 c0, .int .i64 c1, .int .i64 d0, .int .i64 d1, .int .i64 ky] 59)).heap.size (w2.alloc (.cells #[.int .i64 a0, .int .i64 a1, .int .i64 b0, .int .i64 b1, .int .i64 c0, .int .i64 c1, .int .i64 d0, .int .i64 d1, .int .i64 ky] 59))
                 obtain ⟨r0, r1, r2, r3, r4, r5⟩ := HR.out _ hx3)
              | (have hguard := hx3; clear hguard; go_at_call 23; with_reducible (refine Calls.mono (H1.out _) ?_); rintro e w3 ⟨rfl, hb3⟩
                 have hbx := chain hbx hb3
                 obtain ⟨r0, r1, r2, r3, r4, r5⟩ := HR.out _ (chain hx3 hbx)
                 obtain ⟨q0, q1, q2, q3, q4, q5, q6, q7, q8⟩ := HC.out _ _ hbx)
              | (have hguard := hx3; clear hguard; go_at_call 23; with_reducible (refine Calls.mono (H2.out _) ?_); rintro e w3 ⟨rfl, hb3⟩
                 have hbx := chain hbx hb3
                 obtain ⟨r0, r1, r2, r3, r4, r5⟩ := HR.out _ (chain hx3 hbx)
                 obtain ⟨q0, q1, q2, q3, q4, q5, q6, q7, q8⟩ := HC.out _ _ hbx)
              | (have hguard := hx3; clear hguard; go_at_call 23; with_reducible (refine Calls.mono (H3.out _) ?_); rintro e w3 ⟨rfl, hb3⟩
                 have hbx := chain hbx hb3
                 obtain ⟨r0, r1, r2, r3, r4, r5⟩ := HR.out _ (chain hx3 hbx)
                 obtain ⟨q0, q1, q2, q3, q4, q5, q6, q7, q8⟩ := HC.out _ _ hbx)
              | (have hguard := hx3; clear hguard; go_at_call 23; with_reducible (refine Calls.mono (H4.out _) ?_); rintro e w3 ⟨rfl, hb3⟩
                 have hbx := chain hbx hb3
                 obtain ⟨r0, r1, r2, r3, r4, r5⟩ := HR.out _ (chain hx3 hbx)
                 obtain ⟨q0, q1, q2, q3, q4, q5, q6, q7, q8⟩ := HC.out _ _ hbx))
            go_ret
            exact ⟨rfl, chain hb0'.out (chain hx3 hbx)⟩

end Go.Proofs.YtnenpafofplbhaaGreat
