/-
  The law TableTakes as a walk.
-/
import Derived.Test.YtnenpafofplbhaaTableNews
import Derived.Test.YtnenpafofplbhaaTableC1
namespace Go.Proofs.Ytnenpafofplbhaa
open Go.RowKit

/-- A record laid in a row of its own. -/
theorem recs_one (W : World) (r : Rc) (T : TypeId) : RecsAt (W.alloc (.cells (rcV r) T)) (W.alloc (.cells (rcV r) T)).heap.size (some ⟨W.heap.size, 0, none⟩) [r] := fun k hk => by
  have hk0 : k = 0 := by simp at hk; omega
  subst hk0
  have h := heap_alloc_new W (.cells (rcV r) T)
  exact ⟨W.heap.size, 0, rfl, by simp, by rw [cell_of_row _ _ _ _ _ _ h]; rfl, by rw [cell_of_row _ _ _ _ _ _ h]; rfl, by rw [cell_of_row _ _ _ _ _ _ h]; rfl, by rw [cell_of_row _ _ _ _ _ _ h]; rfl, by rw [cell_of_row _ _ _ _ _ _ h]; rfl, by rw [cell_of_row _ _ _ _ _ _ h]; rfl⟩
theorem own_ok {a b : Int} (ha : inR a 0 63) (hb : inR b 0 7) : (ownRec a b).ok := by
  unfold inR at ha hb
  exact ⟨by show I64n 9; unfold I64n; omega, by show I64n a; unfold I64n; omega, by show I64n b; unfold I64n; omega, by show I64n 0; unfold I64n; omega, by show I64n 0; unfold I64n; omega, by show (0 : Nat) ≤ _; omega⟩
/-- 'Apply' of one change that is laid for it. -/
theorem apply_one_go {w0 : World} (HS : TableSpec w0) (V : TabW) (t : Tab) (r : Rc) (W : World) (hw : Below w0.heap.size w0 W) (h : TabAt W W.heap.size V t) (ho : t.ok) (hr : r.ok) :
    Calls Try.prog 19 #[.agg (tabV V t), .slice (some ⟨W.heap.size, 0, none⟩) 1 1] (W.alloc (.cells (rcV r) 42)) fun e w' => ∃ V', e = .returned (.tuple #[.agg (tabV V' (applyR t [r]).2), .int .i64 (applyR t [r]).1]) ∧ TabAt w' w'.heap.size V' (applyR t [r]).2 ∧ Below W.heap.size W w' := by
  have hba : Below W.heap.size W (W.alloc (.cells (rcV r) 42)) := (Below.refl _ _).alloc (Nat.le_refl _) _
  have q := HS.apply V t (some ⟨W.heap.size, 0, none⟩) 1 [r] _ (hw.trans (hba.mono hw.size)) ((h.below hba).more hba.size) ho (recs_one W r _) (Nat.le_refl _) (by intro x hx; rw [List.mem_singleton] at hx; subst hx; exact hr) (show (1 : Nat) ≤ _ by omega)
  exact q.mono fun e w' ⟨V', q1, q2, _, q4⟩ => ⟨V', q1, q2, hba.trans (q4.mono hba.size)⟩

set_option maxHeartbeats 3200000 in
set_option maxRecDepth 20000 in
/-- TableTakes. -/
theorem tableTakes_go (V : TabW) (t : Tab) (s n : Int) (w : World) (HS : TableSpec w) (h : TabAt w w.heap.size V t) (ho : t.ok) (hs : 0 ≤ s ∧ s ≤ 255) (hn : 0 ≤ n ∧ n ≤ 255) :
    Calls Try.prog 8 #[.agg (tabV V t), .int .u8 s, .int .u8 n] w fun e w' => e = .returned (.bool true) ∧ Below w.heap.size w w' := by
  obtain ⟨a, ha⟩ : ∃ a, a = s % 64 := ⟨_, rfl⟩
  obtain ⟨b, hb⟩ : ∃ b, b = n % 7 + 1 := ⟨_, rfl⟩
  have ra : inR a 0 63 := by unfold inR; omega
  have rb : inR b 1 7 := by unfold inR; omega
  have rb2 : inR b 0 7 := by unfold inR at rb ⊢; omega
  have hR := own_ok ra rb2
  have hR0 := own_ok ra (b := 0) (by unfold inR; omega)
  have ib : I64n b := hR.b
  have e1 := ha.symm
  have e2 := hb.symm
  have hb0 : Below w.heap.size w (w.alloc (.cells (tabV V t) 26)) := (Below.refl _ _).alloc (Nat.le_refl _) _
  have hb1 := hb0.alloc hb0.size (.cells (rcV (ownRec a b)) 42)
  have hsz : ((w.alloc (.cells (tabV V t) 26)).alloc (.cells (rcV (ownRec a b)) 42)).heap.size = w.heap.size + 1 + 1 := by simp
  have hg0 : ((w.alloc (.cells (tabV V t) 26)).alloc (.cells (rcV (ownRec a b)) 42)).heap[w.heap.size]? = some (.cells (tabV V t) 26 (0, 0)) := by
    rw [Below.heap_alloc _ _ _ (by simp)]; exact heap_alloc_new _ _
  have hg1 := heap_alloc_new (w.alloc (.cells (tabV V t) 26)) (.cells (rcV (ownRec a b)) 42)
  rw [show (w.alloc (.cells (tabV V t) 26)).heap.size = w.heap.size + 1 by simp] at hg1
  obtain ⟨W1, hW1⟩ : ∃ W, W = (w.alloc (.cells (tabV V t) 26)).alloc (.cells (rcV (ownRec a b)) 42) := ⟨_, rfl⟩
  rw [← hW1] at hb1 hsz hg0 hg1
  have HT3 : ∀ X, Below W1.heap.size W1 X → X.cell? ⟨w.heap.size, 0, none⟩ = some (.slice V.A1 t.ts.length V.c1) ∧ X.cell? ⟨w.heap.size, 1, none⟩ = some (.slice V.A2 t.vs.length V.c2) ∧ X.cell? ⟨w.heap.size, 2, none⟩ = some (.slice V.A3 t.os.length V.c3) := fun X hb => cells3 ((hb.block _ (Array.getElem?_eq_some_iff.1 hg0).1).trans hg0)
  have HT7 : ∀ X, Below W1.heap.size W1 X → X.cell? ⟨w.heap.size + 1, 0, none⟩ = some (.int .i64 9) ∧ X.cell? ⟨w.heap.size + 1, 1, none⟩ = some (.int .i64 a) ∧ X.cell? ⟨w.heap.size + 1, 2, none⟩ = some (.int .i64 b) ∧ X.cell? ⟨w.heap.size + 1, 3, none⟩ = some (.int .i64 0) ∧ X.cell? ⟨w.heap.size + 1, 4, none⟩ = some (.int .i64 0) ∧ X.cell? ⟨w.heap.size + 1, 5, none⟩ = some (.string ⟨#[]⟩) := fun X hb => cells6 ((hb.block _ (Array.getElem?_eq_some_iff.1 hg1).1).trans hg1)
  have HTAB : ∀ X, Below W1.heap.size W1 X → Below w.heap.size w X ∧ TabAt X X.heap.size V t := fun X hb => ⟨chain hb1 hb, (h.below (chain hb1 hb)).more (chain hb1 hb).size⟩
  have A1 := apply_one_go HS V t (ownRec a b) W1 hb1 (HTAB W1 (Below.refl _ _)).2 ho hR
  have HAW := Lib.hid (fun X (hb : Below w.heap.size w X) => tableAwake HS X hb)
  rw [hsz] at A1
  have HSZ := Lib.hid hsz
  have HB1 := Lib.hid hb1
  have hE : (applyR t [ownRec a b]).1 ≠ 0 ∨ (applyR t [ownRec a b]).1 = 0 := by by_cases h : (applyR t [ownRec a b]).1 = 0 <;> simp [h]
  rcases hE with hE | hE
  · obtain ⟨E, hEE⟩ : ∃ E, E = (applyR t [ownRec a b]).1 := ⟨_, rfl⟩
    obtain ⟨T1, hT1⟩ : ∃ T, T = (applyR t [ownRec a b]).2 := ⟨_, rfl⟩
    rw [← hEE] at hE
    rw [← hEE, ← hT1] at A1
    have d1 : (E != 0) = true := bne_iff_ne.2 hE
    have d2 : (E == 0) = false := beq_eq_false_iff_ne.2 hE
    unfold tabV rcV ownRec at A1 hW1
    simp only at A1 hW1
    unfold tabV
    have HA1 := Lib.hid A1
    obtain ⟨f0, f1, f2⟩ := HT3 W1 (Below.refl _ _)
    have HT3H := Lib.hid HT3
    clear A1 HTAB HT7 HT3 hg0 hg1 hb0 hb1 hsz hEE hE hT1 hR hR0 ra rb rb2 ha hb h ho HS ib
    go_enter Try.func8, Try.ntmps8
    go_wp2_with fail
    rw [← hW1]
    clear hW1
    go_wp2_with (first
      | (go_at_call 19; with_reducible (refine Calls.mono HA1.out ?_); rintro e w3 ⟨V1, rfl, ht1, hb3'⟩
         have hb3 : Below W1.heap.size W1 w3 := by rw [HSZ.out]; exact hb3'
         have hx3 := (chain HB1.out hb3).alloc (chain HB1.out hb3).size (.cells #[.slice V1.A1 T1.ts.length V1.c1, .slice V1.A2 T1.vs.length V1.c2, .slice V1.A3 T1.os.length V1.c3] 26))
      | (go_at_call 11; with_reducible (refine Calls.mono (HAW.out _ hx3) ?_); rintro e w4 ⟨rfl, hb4⟩; have hx4 := chain hx3 hb4)
      | (go_at_call 11; with_reducible (refine Calls.mono (HAW.out _ hx4) ?_); rintro e w5 ⟨rfl, hb5⟩))
    go_ret
    exact ⟨rfl, chain hx4 hb5⟩
  · obtain ⟨g1, g2, g3⟩ := apply_takes ra rb hE
    obtain ⟨hs0, hs1, hs2⟩ := apply_sound hE
    have ho1 := sound_ok hs1
    obtain ⟨T1, hT1⟩ : ∃ T, T = (applyR t [ownRec a b]).2 := ⟨_, rfl⟩
    rw [hE, ← hT1] at A1
    rw [← hT1] at g1 g2 g3 ho1
    obtain ⟨m0, hm0⟩ : ∃ m, m = ownN t.os b := ⟨_, rfl⟩
    obtain ⟨m1, hm1⟩ : ∃ m, m = ownN T1.os b := ⟨_, rfl⟩
    rw [← hm0, ← hm1] at g3
    have hm64 : m0 ≤ 64 := by
      have := ownN_le t.os b
      have := (sound_few hs0).2.2
      omega
    obtain ⟨n1, n2, n3⟩ := sound_few hs0
    have A2 : ∀ X V1, Below w.heap.size w X → TabAt X X.heap.size V1 T1 → Calls Try.prog 19 #[.agg (tabV V1 T1), .slice (some ⟨X.heap.size, 0, none⟩) 1 1] (X.alloc (.cells (rcV (ownRec a 0)) 42)) fun e w' => ∃ V', e = .returned (.tuple #[.agg (tabV V' t), .int .i64 0]) ∧ TabAt w' w'.heap.size V' t ∧ Below X.heap.size X w' := fun X V1 hb ht => by
      have q := apply_one_go HS V1 T1 (ownRec a 0) X hb ht ho1 hR0
      rwa [g1] at q
    have A3 : ∀ X V1, Below w.heap.size w X → TabAt X X.heap.size V1 T1 → Calls Try.prog 19 #[.agg (tabV V1 T1), .slice (some ⟨X.heap.size, 0, none⟩) 1 1] (X.alloc (.cells (rcV (ownRec a b)) 42)) fun e w' => ∃ V', e = .returned (.tuple #[.agg (tabV V' (applyR T1 [ownRec a b]).2), .int .i64 5]) ∧ TabAt w' w'.heap.size V' (applyR T1 [ownRec a b]).2 ∧ Below X.heap.size X w' := fun X V1 hb ht => by
      have q := apply_one_go HS V1 T1 (ownRec a b) X hb ht ho1 hR
      rwa [g2] at q
    obtain ⟨T3, hT3⟩ : ∃ T, T = (applyR T1 [ownRec a b]).2 := ⟨_, rfl⟩
    simp only [← hT3] at A3
    have O0 : ∀ X, Below W1.heap.size W1 X → Calls Try.prog 13 #[.agg (tabV V t), .int .i64 b] X fun e w' => e = .returned (.int .i64 (m0 : Nat)) ∧ Below X.heap.size X w' := fun X hb => by
      have q := HS.owned V t b X (HTAB X hb).1 (HTAB X hb).2 ho ib
      rwa [← hm0] at q
    have O1 : ∀ X V1, Below w.heap.size w X → TabAt X X.heap.size V1 T1 → Calls Try.prog 13 #[.agg (tabV V1 T1), .int .i64 b] X fun e w' => e = .returned (.int .i64 (m1 : Nat)) ∧ Below X.heap.size X w' := fun X V1 hb ht => by
      have q := HS.owned V1 T1 b X hb ht ho1 ib
      rwa [← hm1] at q
    have SM : ∀ X V2, Below W1.heap.size W1 X → TabAt X X.heap.size V2 t → Calls Try.prog 16 #[.agg (tabV V2 t), .agg (tabV V t)] X fun e w' => e = .returned (.bool true) ∧ Below X.heap.size X w' := fun X V2 hb ht =>
      refSame16_any V2 V t X ht (HTAB X hb).2 (by omega) (by omega) (by omega)
    have hg3 : ((m1 : Nat) : Int) = (m0 : Int) + 1 := by omega
    have hw1 : IntKind.i64.wrap ((m0 : Int) + 1) = (m1 : Int) := by rw [IntWalk.i64_in _ (by omega)]; omega
    have hg4 : ((m1 : Int) == (m1 : Int)) = true := by simp
    unfold tabV rcV ownRec at A1 hW1 A2 A3
    unfold tabV at O0 O1 SM HT3
    simp only at A1 hW1 A2 A3
    unfold tabV
    have HA1 := Lib.hid A1
    have HA2 := Lib.hid A2
    have HA3 := Lib.hid A3
    have HO0 := Lib.hid O0
    have HO1 := Lib.hid O1
    have HSM := Lib.hid SM
    have HT3H := Lib.hid HT3
    have HT7H := Lib.hid HT7
    obtain ⟨f0, f1, f2⟩ := HT3 W1 (Below.refl _ _)
    have HW1 := Lib.hid hw1
    clear A1 A2 A3 O0 O1 SM HTAB HT7 HT3 hg0 hg1 hb0 hb1 hsz hE hT1 hT3 hR hR0 ra rb rb2 ha hb h ho HS ib g1 g2 g3 hs0 hs1 hs2 ho1 hm0 hm1 hg3 n1 n2 n3 hm64
    go_enter Try.func8, Try.ntmps8
    go_wp2_with fail
    rw [← hW1]
    clear hW1
    go_wp2_with (first
      | (go_at_call 19; with_reducible (refine Calls.mono HA1.out ?_); rintro e w3 ⟨V1, rfl, ht1, hb3'⟩
         have hb3 : Below W1.heap.size W1 w3 := by rw [HSZ.out]; exact hb3'
         have hx3 := hb3.alloc hb3.size (.cells #[.slice V1.A1 T1.ts.length V1.c1, .slice V1.A2 T1.vs.length V1.c2, .slice V1.A3 T1.os.length V1.c3] 26)
         have HT8 : Hid (∀ X, Below (w3.alloc (.cells #[.slice V1.A1 T1.ts.length V1.c1, .slice V1.A2 T1.vs.length V1.c2, .slice V1.A3 T1.os.length V1.c3] 26)).heap.size (w3.alloc (.cells #[.slice V1.A1 T1.ts.length V1.c1, .slice V1.A2 T1.vs.length V1.c2, .slice V1.A3 T1.os.length V1.c3] 26)) X → (X.cell? ⟨w3.heap.size, 0, none⟩ = some (.slice V1.A1 T1.ts.length V1.c1) ∧ X.cell? ⟨w3.heap.size, 1, none⟩ = some (.slice V1.A2 T1.vs.length V1.c2) ∧ X.cell? ⟨w3.heap.size, 2, none⟩ = some (.slice V1.A3 T1.os.length V1.c3)) ∧ TabAt X X.heap.size V1 T1) := fun X hb => ⟨cells3 ((hb.block _ (by simp)).trans (heap_alloc_new w3 _)), (ht1.below (chain ((Below.refl w3.heap.size w3).alloc (Nat.le_refl _) _) hb)).more (chain ((Below.refl w3.heap.size w3).alloc (Nat.le_refl _) _) hb).size⟩
         clear ht1)
      | (go_at_call 11; with_reducible (refine Calls.mono (HAW.out _ (chain HB1.out hx3)) ?_); rintro e w4 ⟨rfl, hb4⟩
         have hx4 := chain hx3 hb4
         obtain ⟨⟨y0, y1, y2⟩, ht4⟩ := HT8.out _ hb4
         obtain ⟨z0, z1, z2, z3, z4, z5⟩ := HT7H.out _ hx4)
      | (go_at_call 19; with_reducible (refine Calls.mono (HA2.out _ _ (chain HB1.out hx4) ht4) ?_); rintro e w5 ⟨V2, rfl, ht5, hb5⟩
         have hx5 := chain hx4 hb5
         have hy5 := chain hb4 hb5
         have ha5 : Below w5.heap.size w5 (w5.alloc (.cells #[.slice V2.A1 t.ts.length V2.c1, .slice V2.A2 t.vs.length V2.c2, .slice V2.A3 t.os.length V2.c3] 26)) := (Below.refl _ _).alloc (Nat.le_refl _) _
         have hz5 : (w5.alloc (.cells #[.slice V2.A1 t.ts.length V2.c1, .slice V2.A2 t.vs.length V2.c2, .slice V2.A3 t.os.length V2.c3] 26)).heap.size = w5.heap.size + 1 := by simp
         have HT10 : Hid (∀ X, Below (w5.alloc (.cells #[.slice V2.A1 t.ts.length V2.c1, .slice V2.A2 t.vs.length V2.c2, .slice V2.A3 t.os.length V2.c3] 26)).heap.size (w5.alloc (.cells #[.slice V2.A1 t.ts.length V2.c1, .slice V2.A2 t.vs.length V2.c2, .slice V2.A3 t.os.length V2.c3] 26)) X → (X.cell? ⟨w5.heap.size, 0, none⟩ = some (.slice V2.A1 t.ts.length V2.c1) ∧ X.cell? ⟨w5.heap.size, 1, none⟩ = some (.slice V2.A2 t.vs.length V2.c2) ∧ X.cell? ⟨w5.heap.size, 2, none⟩ = some (.slice V2.A3 t.os.length V2.c3)) ∧ TabAt X X.heap.size V2 t) := fun X hb => ⟨cells3 ((hb.block _ (by simp)).trans (heap_alloc_new w5 _)), (ht5.below (chain ha5 hb)).more (chain ha5 hb).size⟩
         have hx6 := chain hx5 ha5
         have hy6 := chain hy5 ha5
         obtain ⟨⟨y0, y1, y2⟩, ht6⟩ := HT8.out _ hy6
         obtain ⟨z0, z1, z2, z3, z4, z5⟩ := HT7H.out _ hx6
         have a3 := HA3.out (w5.alloc (.cells #[.slice V2.A1 t.ts.length V2.c1, .slice V2.A2 t.vs.length V2.c2, .slice V2.A3 t.os.length V2.c3] 26)) V1 (chain HB1.out hx6) ht6
         rw [hz5] at a3
         have HA3b := Lib.hid a3
         have HZ5 := Lib.hid hz5
         clear a3 hz5 ht5)
      | (go_at_call 19; with_reducible (refine Calls.mono HA3b.out ?_); rintro e w6 ⟨V3, rfl, _, hb6'⟩
         have hb6 : Below (w5.alloc (.cells #[.slice V2.A1 t.ts.length V2.c1, .slice V2.A2 t.vs.length V2.c2, .slice V2.A3 t.os.length V2.c3] 26)).heap.size (w5.alloc (.cells #[.slice V2.A1 t.ts.length V2.c1, .slice V2.A2 t.vs.length V2.c2, .slice V2.A3 t.os.length V2.c3] 26)) w6 := by rw [HZ5.out]; exact hb6'
         have ha6 : Below w6.heap.size w6 (w6.alloc (.cells #[.slice V3.A1 T3.ts.length V3.c1, .slice V3.A2 T3.vs.length V3.c2, .slice V3.A3 T3.os.length V3.c3] 26)) := (Below.refl _ _).alloc (Nat.le_refl _) _
         have hc7 := chain hb6 ha6
         have hx7 := chain hx6 hc7
         have hy7 := chain hy6 hc7))
    have hbx : Below (w6.alloc (.cells #[.slice V3.A1 T3.ts.length V3.c1, .slice V3.A2 T3.vs.length V3.c2, .slice V3.A3 T3.os.length V3.c3] 26)).heap.size (w6.alloc (.cells #[.slice V3.A1 T3.ts.length V3.c1, .slice V3.A2 T3.vs.length V3.c2, .slice V3.A3 T3.os.length V3.c3] 26)) (w6.alloc (.cells #[.slice V3.A1 T3.ts.length V3.c1, .slice V3.A2 T3.vs.length V3.c2, .slice V3.A3 T3.os.length V3.c3] 26)).drew := (Below.refl _ _).drew
    go_region_held3 (fun X => ((X.cell? ⟨w.heap.size, 0, none⟩ = some (.slice V.A1 t.ts.length V.c1) ∧ X.cell? ⟨w.heap.size, 1, none⟩ = some (.slice V.A2 t.vs.length V.c2) ∧ X.cell? ⟨w.heap.size, 2, none⟩ = some (.slice V.A3 t.os.length V.c3)) ∧ (X.cell? ⟨w3.heap.size, 0, none⟩ = some (.slice V1.A1 T1.ts.length V1.c1) ∧ X.cell? ⟨w3.heap.size, 1, none⟩ = some (.slice V1.A2 T1.vs.length V1.c2) ∧ X.cell? ⟨w3.heap.size, 2, none⟩ = some (.slice V1.A3 T1.os.length V1.c3))) ∧ X.cell? ⟨w.heap.size + 1, 2, none⟩ = some (.int .i64 b))
      (exact ⟨⟨HT3H.out _ (chain hx7 hbx), (HT8.out _ (chain hy7 hbx)).1⟩, (HT7H.out _ (chain hx7 hbx)).2.2.1⟩)
      (first
        | (go_at_call 13; with_reducible (refine Calls.mono (HO0.out _ (chain hx7 hbx)) ?_); rintro e w7 ⟨rfl, hb7⟩; have hbx := chain hbx hb7)
        | (go_at_call 13; with_reducible (refine Calls.mono (HO1.out _ _ (chain HB1.out (chain hx7 hbx)) (HT8.out _ (chain hy7 hbx)).2) ?_); rintro e w8 ⟨rfl, hb8⟩; have hbx := chain hbx hb8)
        | fail)
    obtain ⟨⟨y0, y1, y2⟩, ht9⟩ := HT10.out _ (chain hc7 hbx)
    obtain ⟨f0, f1, f2⟩ := HT3H.out _ (chain hx7 hbx)
    go_wp2_with (go_at_call 16; with_reducible (refine Calls.mono (HSM.out _ _ (chain hx7 hbx) ht9) ?_); rintro e w9 ⟨rfl, hb9⟩)
    go_ret
    exact ⟨rfl, chain HB1.out (chain (chain hx7 hbx) hb9)⟩

end Go.Proofs.Ytnenpafofplbhaa
