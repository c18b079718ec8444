/-
  The simplest facts of the layer table.
-/
import Derived.Test.YtnenpafofplbhaaGreatTableSpec
namespace Go.Proofs.YtnenpafofplbhaaGreat
open Go.RowKit

/-- Two records laid in a row of their own. -/
theorem recs_new (W : World) (r s : Rc) (T : TypeId) : RecsAt (W.alloc (.cells ((rcV r).toList ++ (rcV s).toList).toArray T)) (W.alloc (.cells ((rcV r).toList ++ (rcV s).toList).toArray T)).heap.size (some ⟨W.heap.size, 0, none⟩) [r, s] := fun k hk => by
  have h := heap_alloc_new W (.cells ((rcV r).toList ++ (rcV s).toList).toArray T)
  have hk2 : k = 0 ∨ k = 1 := by simp at hk; omega
  rcases hk2 with rfl | rfl
  · exact ⟨W.heap.size, 0, rfl, by simp, by rw [cell_of_row _ _ _ _ _ _ h]; rfl, by rw [cell_of_row _ _ _ _ _ _ h]; rfl, by rw [cell_of_row _ _ _ _ _ _ h]; rfl, by rw [cell_of_row _ _ _ _ _ _ h]; rfl, by rw [cell_of_row _ _ _ _ _ _ h]; rfl, by rw [cell_of_row _ _ _ _ _ _ h]; rfl⟩
  · exact ⟨W.heap.size, 0, rfl, by simp, by rw [cell_of_row _ _ _ _ _ _ h]; rfl, by rw [cell_of_row _ _ _ _ _ _ h]; rfl, by rw [cell_of_row _ _ _ _ _ _ h]; rfl, by rw [cell_of_row _ _ _ _ _ _ h]; rfl, by rw [cell_of_row _ _ _ _ _ _ h]; rfl, by rw [cell_of_row _ _ _ _ _ _ h]; rfl⟩
/-- Strictly rising numbers between two bounds are not many. -/
theorem rising_len {α : Type} (k : α → Int) (hi : Int) : ∀ {l : List α} (lo : Int), (l.Pairwise fun a b => k a < k b) → (∀ x ∈ l, lo ≤ k x ∧ k x ≤ hi) → lo ≤ hi + 1 → (l.length : Int) ≤ hi + 1 - lo
  | [], lo, _, _, h => by simp; omega
  | x :: l, lo, hp, hb, h => by
    obtain ⟨h1, h2⟩ := List.pairwise_cons.1 hp
    have hx := hb x (by simp)
    have := rising_len k hi (l := l) (k x + 1) h2 (fun y hy => ⟨by have := h1 y hy; omega, (hb y (by simp [hy])).2⟩) (by omega)
    rw [List.length_cons]
    omega
theorem sound_few {t : Tab} (h : t.sound) : t.ts.length ≤ 7 ∧ t.vs.length ≤ 8 ∧ t.os.length ≤ 64 := by
  have h1 := rising_len Ten.id 7 1 h.up (fun x hx => (h.ten x hx).1.id) (by omega)
  have h2 := rising_len Vol.id 7 0 h.vup (fun x hx => (h.vol x hx).1) (by omega)
  have h3 := h.len
  omega
/-- A sound table's numbers are small. -/
theorem sound_ok {t : Tab} (h : t.sound) : t.ok := by
  obtain ⟨n1, n2, n3⟩ := sound_few h
  refine ⟨fun x hx => ?_, fun x hx => ?_, fun o ho => ?_, by omega, by omega, by omega⟩
  · obtain ⟨p1, p2, p3, p4, p5⟩ := (h.ten x hx).1
    exact ⟨⟨by omega, by omega⟩, ⟨by omega, by omega⟩, ⟨by omega, by omega⟩, ⟨by omega, by omega⟩, by omega⟩
  · obtain ⟨q1, q2, q3, q4⟩ := h.vol x hx
    obtain ⟨y, hy, hk⟩ := tenAt_isSome.1 q2
    have := (h.ten y hy).1.id
    exact ⟨⟨by omega, by omega⟩, ⟨by omega, by omega⟩, ⟨by omega, by omega⟩, ⟨by omega, by omega⟩⟩
  · rcases h.own o ho with rfl | h0
    · exact ⟨by decide, by decide⟩
    · obtain ⟨y, hy, hk⟩ := tenAt_isSome.1 h0
      have := (h.ten y hy).1.id
      exact ⟨by omega, by omega⟩
theorem zero_ok : Tab.zero.ok := ⟨by simp [Tab.zero], by simp [Tab.zero], by simp [Tab.zero], by simp [Tab.zero], by simp [Tab.zero], by simp [Tab.zero]⟩
theorem apply_sound {t : Tab} {l : List Rc} (h : (applyR t l).1 = 0) : t.sound ∧ (applyR t l).2.sound ∧ (applyR t l).2.os.length = t.os.length := by
  unfold applyR at h ⊢
  by_cases hs : t.sound
  · rw [if_pos hs] at h ⊢
    exact ⟨hs, sound_run hs h⟩
  · rw [if_neg hs] at h
    exact absurd h (by decide)
theorem apply_ok {t : Tab} {l : List Rc} : (applyR t l).2.ok := by
  by_cases h : (applyR t l).1 = 0
  · exact sound_ok (apply_sound h).2.1
  · rw [apply_zero h]; exact zero_ok
/-- One change: taken, given back, and taken twice, all told. -/
theorem apply_takes {t : Tab} {a b : Int} (ha : inR a 0 63) (hb : inR b 1 7) (h : (applyR t [ownRec a b]).1 = 0) :
    applyR (applyR t [ownRec a b]).2 [ownRec a 0] = (0, t) ∧ (applyR (applyR t [ownRec a b]).2 [ownRec a b]).1 = 5 ∧ ownN (applyR t [ownRec a b]).2.os b = ownN t.os b + 1 := by
  obtain ⟨hs, hs2, _⟩ := apply_sound h
  have hf : formR (ownRec a b) := own_form ha (by unfold inR at hb ⊢; omega)
  have hf0 : formR (ownRec a 0) := own_form ha (by unfold inR; omega)
  have e : ∀ {t : Tab} {r : Rc}, t.sound → formR r → applyR t [r] = if (oneR t r).1 = 0 then (0, (oneR t r).2) else ((oneR t r).1, Tab.zero) := fun {t r} hs hf => by
    rw [apply_one hs]
    unfold runR
    rw [if_pos hf]
    rfl
  rw [e hs hf] at h
  have ho : (oneR t (ownRec a b)).1 = 0 := by
    by_cases h0 : (oneR t (ownRec a b)).1 = 0
    · exact h0
    · rw [if_neg h0] at h; exact h
  obtain ⟨g1, g2, g3⟩ := given ha hb ho
  have e1 : applyR t [ownRec a b] = (0, (oneR t (ownRec a b)).2) := by rw [e hs hf, if_pos ho]
  rw [e1] at hs2 ⊢
  refine ⟨?_, ?_, g3⟩
  · rw [e hs2 hf0]
    show (if (oneR (oneR t (ownRec a b)).2 (ownRec a 0)).1 = 0 then _ else _) = _
    rw [g1, if_pos rfl]
  · rw [e hs2 hf]
    have hne : ¬ (oneR (oneR t (ownRec a b)).2 (ownRec a b)).1 = 0 := by rw [g2]; decide
    show (if (oneR (oneR t (ownRec a b)).2 (ownRec a b)).1 = 0 then ((0 : Int), (oneR (oneR t (ownRec a b)).2 (ownRec a b)).2) else ((oneR (oneR t (ownRec a b)).2 (ownRec a b)).1, Tab.zero)).1 = _
    rw [if_neg hne, g2]
theorem okA : recA.ok := ⟨⟨by decide, by decide⟩, ⟨by decide, by decide⟩, ⟨by decide, by decide⟩, ⟨by decide, by decide⟩, ⟨by decide, by decide⟩, by decide +kernel⟩
theorem okB : recB.ok := ⟨⟨by decide, by decide⟩, ⟨by decide, by decide⟩, ⟨by decide, by decide⟩, ⟨by decide, by decide⟩, ⟨by decide, by decide⟩, by decide +kernel⟩
theorem tabV_one (V : TabW) (t : Tab) : (tabV V t).all (·.oneCell') = true := by simp [tabV, Value.oneCell']
theorem Tryz.infoTable : (Tryz.prog.info? 26).map (·.size) = some 3 := by kernel_rfl

set_option maxHeartbeats 1600000 in
set_option maxRecDepth 20000 in
theorem tableAwake {w0 : World} (HS : TableSpec w0) (w : World) (hw : Below w0.heap.size w0 w) : Calls Tryz.prog 6 #[] w fun e w' => e = .returned (.bool true) ∧ Below w.heap.size w w' := by
  have H1 := Lib.hid (HS.new 4 w hw (by decide) (by decide))
  have H2 : Hid (∀ (W : World) (V : TabW), Below w.heap.size w W → TabAt W W.heap.size V (newR 4) → Calls Tryz.prog 4 #[.agg (tabV V (newR 4)), .slice (some ⟨W.heap.size, 0, none⟩) 2 2] (W.alloc (.cells #[.int .i64 1, .int .i64 1, .int .i64 2, .int .i64 0, .int .i64 1, .string ⟨#[48, 49, 50, 51, 52, 53, 54, 55, 56, 57, 97, 98, 99, 100, 101, 102]⟩, .int .i64 9, .int .i64 3, .int .i64 1, .int .i64 0, .int .i64 0, .string ⟨#[]⟩] 40)) fun e w' => ∃ V', e = .returned (.tuple #[.agg (tabV V' tabAB), .int .i64 0]) ∧ TabAt w' w'.heap.size V' tabAB ∧ TabFrom W.heap.size V' ∧ Below W.heap.size W w') := fun W V hb ht => by
    rw [show (#[.int .i64 1, .int .i64 1, .int .i64 2, .int .i64 0, .int .i64 1, .string ⟨#[48, 49, 50, 51, 52, 53, 54, 55, 56, 57, 97, 98, 99, 100, 101, 102]⟩, .int .i64 9, .int .i64 3, .int .i64 1, .int .i64 0, .int .i64 0, .string ⟨#[]⟩] : Array Value) = ((rcV recA).toList ++ (rcV recB).toList).toArray from rfl]
    have hba : Below W.heap.size W (W.alloc (.cells ((rcV recA).toList ++ (rcV recB).toList).toArray 40)) := (Below.refl _ _).alloc (Nat.le_refl _) _
    have h := HS.apply V (newR 4) (some ⟨W.heap.size, 0, none⟩) 2 [recA, recB] _ (hw.trans ((hb.trans (hba.mono hb.size)).mono hw.size)) ((ht.below hba).more hba.size) (newR_ok (by decide)) (recs_new W recA recB _) (Nat.le_refl _) (by
      intro r hr
      have : r = recA ∨ r = recB := by simpa using hr
      rcases this with rfl | rfl
      · exact okA
      · exact okB) (by decide)
    rw [applyAB] at h
    exact h.mono fun e w' ⟨V', q1, q2, q4, q3⟩ => ⟨V', q1, q2, fun a ha => Nat.le_trans hba.size (q4 a ha), hba.trans (q3.mono hba.size)⟩
  have H3 : Hid (∀ (W : World) (V : TabW), Below w.heap.size w W → TabAt W W.heap.size V tabAB → Calls Tryz.prog 17 #[.agg (tabV V tabAB), .int .i64 1] W fun e w' => e = .returned (.int .i64 1) ∧ Below W.heap.size W w') := fun W V hb ht => HS.owned V tabAB 1 W (hw.trans (hb.mono hw.size)) ht okAB ⟨by decide, by decide⟩
  have H4 : Hid (∀ (W : World) (V : TabW), Below w.heap.size w W → TabAt W W.heap.size V tabAB → Calls Tryz.prog 8 #[.agg (tabV V tabAB)] W fun e w' => e = .returned (.int .i64 0) ∧ Below W.heap.size W w') := fun W V hb ht => HS.check V tabAB W (hw.trans (hb.mono hw.size)) ht okAB soundAB
  have HI : Hid (∀ V t, (Tryz.prog.info? 26).map (·.size) = some (tabV V t).size) := fun V t => Tryz.infoTable
  have HNEW := Lib.hid (fun W : World => heap_alloc_new W (.cells #[.slice none 0 0, .slice none 0 0, .slice none 0 0] 26))
  have HAL := Lib.hid (fun W : World => (Below.refl W.heap.size W).alloc (Nat.le_refl _) (.cells #[.slice none 0 0, .slice none 0 0, .slice none 0 0] 26))
  have HSZ : Hid (∀ V t, (3 : Nat) = (tabV V t).size) := fun V t => rfl
  clear HS hw
  go_enter Tryz.func6, Tryz.ntmps6
  go_wp2_with (first
    | (go_at_call 16; with_reducible (refine Calls.mono H1.out ?_); rintro e w1 ⟨V1, rfl, ht1, hf1, hb1⟩)
    | (have hguard := hf1; clear hguard; refine wpList_store_fresh rfl 26 _ _ rfl w1.heap.size (tabV V1 (newR 4)) rfl rfl 26 _ (HNEW.out w1) (HI.out _ _) (HSZ.out _ _) (tabV_one _ _) (HAL.out w1) (Nat.le_refl _) ?_; intro W2 hW2 hbW2 hkW hsW
       have hx2 := hb1.trans (hbW2.mono hb1.size)
       have ht2 := (ht1.below hbW2).more hbW2.size
       have HQ := Lib.hid (Array.getElem?_eq_some_iff.1 hW2).1
       have HW2 := Lib.hid hW2
       clear hkW hsW hW2 hf1 ht1)
    | (refine wpList_load_row rfl 26 _ rfl w1.heap.size rfl 26 _ (0, 0) _ HW2.out Tryz.underlying26 rfl (HI.out _ _) ?_)
    | (go_at_call 4; with_reducible (refine Calls.mono (H2.out W2 V1 hx2 ht2) ?_); rintro e w3 ⟨V3, rfl, ht3, hf3, hb3⟩; have HW3 := Lib.hid ((hb3.block _ HQ.out).trans HW2.out); clear HW2)
    | (have hguard := hf3; clear hguard; refine wpList_store_fresh rfl 26 _ _ rfl w1.heap.size (tabV V3 tabAB) rfl rfl 26 _ HW3.out (HI.out _ _) (HSZ.out _ _) (tabV_one _ _) (hbW2.trans (hb3.mono hbW2.size)) (Nat.le_refl _) ?_; intro W4 hW4 hbW4 hkW hsW
       have hx4 := hb1.trans (hbW4.mono hb1.size)
       have ht4 := (ht3.other hf3 HQ.out hkW).more (Nat.le_of_eq hsW.symm)
       have hc0 : W4.cell? ⟨w1.heap.size, 0, none⟩ = some (.slice V3.A1 1 V3.c1) := by rw [cell_of_row _ _ _ _ _ _ hW4]; rfl
       have HQ4 := Lib.hid (Array.getElem?_eq_some_iff.1 hW4).1
       have HW4 := Lib.hid hW4
       clear hkW hsW hW4 hf3 ht3)
    | (refine wpList_load_when (by rfl) 26 _ rfl w1.heap.size rfl 26 _ HW4.out Tryz.underlying26 rfl (HI.out _ _) ?_)
    | (go_at_call 17; with_reducible (refine Calls.mono (H3.out W4 V3 hx4 ht4) ?_); rintro e w5 ⟨rfl, hb5⟩; have hx5 := hx4.trans (hb5.mono hx4.size); have ht5 := (ht4.below hb5).more hb5.size; have HW5 := Lib.hid ((hb5.block _ HQ4.out).trans HW4.out); clear HW4)
    | (refine wpList_load_when (by rfl) 26 _ rfl w1.heap.size rfl 26 _ HW5.out Tryz.underlying26 rfl (HI.out _ _) ?_)
    | (go_at_call 8; with_reducible (refine Calls.mono (H4.out w5 V3 hx5 ht5) ?_); rintro e w6 ⟨rfl, hb6⟩; have hx6 := hx5.trans (hb6.mono hx5.size)))
  go_ret
  exact ⟨rfl, hx6⟩

end Go.Proofs.YtnenpafofplbhaaGreat
