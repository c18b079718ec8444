/-
  The landed table: addTenant.
-/
import Derived.Test.YtnenpafofplbhaaGreatTableSortV
import Derived.Deep.AppendLies
namespace Go.Proofs.YtnenpafofplbhaaGreat
open Go.RowKit

theorem insF_new {ts : List Ten} {x : Ten} (h : ts.Pairwise fun a b => a.id < b.id) : insF Ten.id (ts ++ [x]) = insK Ten.id x ts := by rw [insF_snoc, insF_sorted Ten.id h]
theorem box_cell0 {X : World} {p : Nat} {T : TypeId} {v0 v1 v2 : Value} (x : Value) (h : X.heap[p]? = some (.cells #[v0, v1, v2] T (0, 0))) : (X.setCell ⟨p, 0, none⟩ x).heap[p]? = some (.cells #[x, v1, v2] T (0, 0)) ∧ X.grownBy (X.setCell ⟨p, 0, none⟩ x) (some p) :=
  ⟨by simp [World.setCell, Array.getElem?_modify, h], setCells_grown X p 0 [x]⟩

set_option maxHeartbeats 3200000 in
set_option maxRecDepth 20000 in
/-- 'addTenant'. -/
theorem addTenant_go {lo p : Nat} {w : World} {V : TabW} {t : Tab} (h : DrIn lo w p V t) (hs : t.sound) (r : Rc) (hf : plainT r) :
    Calls Tryz.prog 25 #[.pointer (some ⟨p, 0, none⟩), .agg #[.int .i64 r.a, .int .i64 r.b, .int .i64 r.c, .int .i64 r.d, .string r.key, .bool false]] w fun e w' => ∃ V', e = .returned (.int .i64 (one1 t r).1) ∧ DrIn lo w' p V' (one1 t r).2 ∧ Below lo w w' := by
  have HB : Hid (∀ X, Below w.heap.size w X → DrIn lo X p V t ∧ Below lo w X) := fun X hb => ⟨h.below hb, hb.mono h.lo_le⟩
  obtain ⟨n1, n2, n3⟩ := sound_few hs
  obtain ⟨i0, hi, hz0, hz1, hz2⟩ := info_parts Tryz.infoTenD
  obtain ⟨hf1, hf2, hf3, hf4, hf5⟩ := hf
  unfold inR at hf1 hf2
  have hb0 : Below w.heap.size w (w.alloc (.cells #[.int .i64 r.a, .int .i64 r.b, .int .i64 r.c, .int .i64 r.d, .string r.key, .bool false] 49)) := (Below.refl _ _).alloc (Nat.le_refl _) _
  have hg0 := heap_alloc_new w (.cells #[.int .i64 r.a, .int .i64 r.b, .int .i64 r.c, .int .i64 r.d, .string r.key, .bool false] 49)
  obtain ⟨W0, hW0⟩ : ∃ W, W = w.alloc (.cells #[.int .i64 r.a, .int .i64 r.b, .int .i64 r.c, .int .i64 r.d, .string r.key, .bool false] 49) := ⟨_, rfl⟩
  rw [← hW0] at hb0 hg0
  have HXB : Hid (∀ X, Below W0.heap.size W0 X → X.cell? ⟨w.heap.size, 0, none⟩ = some (.int .i64 r.a) ∧ X.cell? ⟨w.heap.size, 1, none⟩ = some (.int .i64 r.b) ∧ X.cell? ⟨w.heap.size, 2, none⟩ = some (.int .i64 r.c) ∧ X.cell? ⟨w.heap.size, 3, none⟩ = some (.int .i64 r.d) ∧ X.cell? ⟨w.heap.size, 4, none⟩ = some (.string r.key) ∧ X.cell? ⟨w.heap.size, 5, none⟩ = some (.bool false)) := fun X hb => cells6 ((hb.block _ (Array.getElem?_eq_some_iff.1 hg0).1).trans hg0)
  obtain ⟨r0, r1, r2, r3, r4, r5⟩ := HXB.out W0 (Below.refl _ _)
  have HB0 := Lib.hid hb0
  by_cases hth : (tenAt t.ts r.a).isSome = true
  · obtain ⟨k, hk, he, hl, ha⟩ | ⟨hl, ha⟩ := ten_cases t.ts r.a
    · obtain ⟨g, hA, hg, hgl, hX, hC⟩ := h.foundT hs hk he hl
      have HC := Lib.hid (hC W0 hb0)
      have H1 : Hid (one1 t r = (5, t)) := if_pos hth
      rw [H1.out]
      clear hX hC hA hl ha he hth H1 h hs n1 n2 n3 hf1 hf2 hf3 hf4 hf5 hi hz0 hz1 hz2 hg0 hb0
      go_enter Tryz.func25, Tryz.ntmps25
      go_wp2_with fail
      rw [← hW0]
      clear hW0
      go_wp2_with (go_at_call 46; with_reducible (refine Calls.mono HC.out ?_); rintro e w1 ⟨rfl, hb1⟩)
      go_ret
      exact ⟨V, rfl, HB.out _ (chain HB0.out hb1)⟩
    · rw [ha] at hth; cases hth
  · obtain ⟨k, hk, he, hl, ha⟩ | ⟨hl, ha⟩ := ten_cases t.ts r.a
    · rw [ha] at hth; exact absurd rfl hth
    · have HC := Lib.hid (h.noT hs hl W0 hb0)
      have HBX := Lib.hid (fun X (hb : Below w.heap.size w X) => (h.below hb).cells)
      have HQ := Lib.hid (fun X (hb : Below w.heap.size w X) => dquotas_any p V.A1 V.c1 t.ts X (h.below hb).cells.1 (h.below hb).tab.ts (by omega) (fun x hx => (hs.ten x hx).1.quota))
      have hsq := sumQ_small (fun x hx => (hs.ten x hx).1.quota) t.ts.length
      rw [List.take_length] at hsq
      obtain ⟨s, hsm⟩ : ∃ s, s = sumQ t.ts := ⟨_, rfl⟩
      simp only [← hsm] at HQ
      rw [← hsm] at hsq
      have hone : one1 t r = if (t.os.length : Int) < s + r.b then (6, t) else (0, { t with ts := insK Ten.id ⟨r.a, r.b, r.c, r.d, r.key, false⟩ t.ts }) := by
        unfold one1
        rw [if_neg hth, ← hsm]
      have HONE := Lib.hid hone
      have v : IntKind.i64.wrap (s + r.b) = s + r.b := IntWalk.i64_in _ (by omega)
      by_cases c2 : (t.os.length : Int) < s + r.b
      · have H1 : Hid (one1 t r = (6, t)) := by show _ = _; rw [HONE.out, if_pos c2]
        rw [H1.out]
        obtain ⟨N3, hN3⟩ : ∃ x, x = t.os.length := ⟨_, rfl⟩
        simp only [← hN3] at HBX c2
        have d2 : s + r.b > (N3 : Int) := c2
        clear H1 HONE hone c2 hl ha hth h hs n1 n2 n3 hf1 hf2 hf3 hf4 hf5 hsq hsm hN3 hi hz0 hz1 hz2 hg0 hb0
        go_enter Tryz.func25, Tryz.ntmps25
        go_wp2_with fail
        rw [← hW0]
        clear hW0
        go_wp2_with (go_at_call 46; with_reducible (refine Calls.mono HC.out ?_); rintro e w1 ⟨rfl, hb1⟩)
        have hbx := hb1.drew
        go_region_held3 (fun W => W.cell? ⟨w.heap.size, 1, none⟩ = some (.int .i64 r.b) ∧ W.cell? ⟨p, 2, none⟩ = some (.slice V.A3 N3 V.c3))
          (exact ⟨(HXB.out _ hbx).2.1, (HBX.out _ (chain HB0.out hbx)).2.2⟩)
          (first
            | (go_at_call 47; with_reducible (refine Calls.mono (HQ.out _ (chain HB0.out hbx)) ?_); rintro e w3 ⟨rfl, hb3⟩; have hbx := chain hbx hb3)
            | fail)
        go_wp2
        go_ret
        exact ⟨V, rfl, HB.out _ (chain HB0.out hbx)⟩
      · have H1 : Hid (one1 t r = (0, { t with ts := insK Ten.id ⟨r.a, r.b, r.c, r.d, r.key, false⟩ t.ts })) := by show _ = _; rw [HONE.out, if_neg c2]
        rw [H1.out]
        have HH : Hid (DrIn lo w p V t) := h
        have hnew : ∀ x ∈ t.ts ++ [(⟨r.a, r.b, r.c, r.d, r.key, false⟩ : Ten)], 0 ≤ x.id ∧ x.id ≤ 7 := fun x hx => by
          rcases List.mem_append.1 hx with hx | hx
          · have := (hs.ten x hx).1.id; omega
          · rw [List.mem_singleton] at hx; subst hx; show 0 ≤ r.a ∧ r.a ≤ 7; omega
        have HNEW := Lib.hid hnew
        have HUP : Hid (insF Ten.id (t.ts ++ [(⟨r.a, r.b, r.c, r.d, r.key, false⟩ : Ten)]) = insK Ten.id ⟨r.a, r.b, r.c, r.d, r.key, false⟩ t.ts) := insF_new hs.up
        have HFL : Hid (flat tenC t.ts ++ [.int .i64 r.a, .int .i64 r.b, .int .i64 r.c, .int .i64 r.d, .string r.key, .bool false] = flat tenC (t.ts ++ [(⟨r.a, r.b, r.c, r.d, r.key, false⟩ : Ten)])) := (flat_snoc (E := tenC) t.ts ⟨r.a, r.b, r.c, r.d, r.key, false⟩).symm
        have HLEN : Hid ((t.ts ++ [(⟨r.a, r.b, r.c, r.d, r.key, false⟩ : Ten)]).length = t.ts.length + 1) := List.length_append
        have HN1 : Hid (t.ts.length + 1 ≤ 12) := by unfold Hid; omega
        obtain ⟨N3, hN3⟩ : ∃ x, x = t.os.length := ⟨_, rfl⟩
        simp only [← hN3] at HBX c2
        have d2 : ¬ s + r.b > (N3 : Int) := c2
        clear H1 HONE hone c2 hl ha hth h hs n2 n3 hf1 hf2 hf3 hf4 hf5 hsq hsm hg0 hb0 hnew
        go_enter Tryz.func25, Tryz.ntmps25
        go_wp2_with fail
        rw [← hW0]
        clear hW0
        go_wp2_with (go_at_call 46; with_reducible (refine Calls.mono HC.out ?_); rintro e w1 ⟨rfl, hb1⟩)
        have hbx := hb1.drew
        go_region_held3 (fun W => W.cell? ⟨w.heap.size, 1, none⟩ = some (.int .i64 r.b) ∧ W.cell? ⟨p, 2, none⟩ = some (.slice V.A3 N3 V.c3))
          (exact ⟨(HXB.out _ hbx).2.1, (HBX.out _ (chain HB0.out hbx)).2.2⟩)
          (first
            | (go_at_call 47; with_reducible (refine Calls.mono (HQ.out _ (chain HB0.out hbx)) ?_); rintro e w3 ⟨rfl, hb3⟩; have hbx := chain hbx hb3)
            | fail)
        clear r0 r1 r2 r3 r4 r5
        go_wp2_with fail
        obtain ⟨r0, r1, r2, r3, r4, r5⟩ := HXB.out _ hbx
        obtain ⟨y0, y1, y2⟩ := HBX.out _ (chain HB0.out hbx)
        have hd3 := (HH.out.below (chain HB0.out hbx)).below (Below.refl _ _).drew
        have hba : Below w3.drew.heap.size w3.drew (w3.drew.alloc (.cells #[.int .i64 r.a, .int .i64 r.b, .int .i64 r.c, .int .i64 r.d, .string r.key, .bool false] 49)) := (Below.refl _ _).alloc (Nat.le_refl _) _
        have hda := hd3.below hba
        have za : (w3.alloc (.cells #[.int .i64 r.a, .int .i64 r.b, .int .i64 r.c, .int .i64 r.d, .string r.key, .bool false] 49)).cell? ⟨p, 0, none⟩ = some (.slice V.A1 t.ts.length V.c1) := hda.cells.1
        have HDA := Lib.hid hda
        have HNW : Hid (∀ j u, ([.int .i64 r.a, .int .i64 r.b, .int .i64 r.c, .int .i64 r.d, .string r.key, .bool false] : List Value)[j]? = some u → (w3.drew.alloc (.cells #[.int .i64 r.a, .int .i64 r.b, .int .i64 r.c, .int .i64 r.d, .string r.key, .bool false] 49)).cell? ((⟨w3.drew.heap.size, 0, none⟩ : Addr).add j) = some u) := World.news_of_block (heap_alloc_new _ _)
        have HON : Hid (∀ u ∈ ([.int .i64 r.a, .int .i64 r.b, .int .i64 r.c, .int .i64 r.d, .string r.key, .bool false] : List Value), u.oneCell' = true) := tenC_one ⟨r.a, r.b, r.c, r.d, r.key, false⟩
        clear hd3 hda
        go_region_law (refine step_append_lies _ rfl _ _ 22 rfl lo 49 i0 (.agg #[.int .i64 0, .int .i64 0, .int .i64 0, .int .i64 0, .string ⟨#[]⟩, .bool false]) 6 56 Tryz.underlying22 hi hz0 hz1 hz2 rfl (by decide) (.slice V.A1 t.ts.length V.c1) t.ts.length (flat tenC t.ts) rfl HDA.out.rows.ts ⟨w3.drew.heap.size, 0, none⟩ 1 1 [.int .i64 r.a, .int .i64 r.b, .int .i64 r.c, .int .i64 r.d, .string r.key, .bool false] rfl rfl HNW.out HON.out (by decide) (by unfold maxLen; have := HN1.out; omega) (by have := HN1.out; omega) HDA.out.lo_le _ rfl ?_; intro g5 c5 w5 ho5 hg5 hn5 hl5; have hq5 := (hg5.block p HDA.out.lt (fun q => HDA.out.p1 p (by rw [← ob_slice]; exact q.symm) rfl)).trans HDA.out.box; obtain ⟨z0, _, _⟩ := cells3 hq5; have zf := frozen_of_row _ _ 0 _ _ hq5)
        all_goals
          have hs6 := box_cell0 (.slice (some ⟨g5, 0, none⟩) (t.ts.length + 1) c5) hq5
          have hga : w3.grownBy w5 (ob V.A1) := by
            rw [← ob_slice V.A1 t.ts.length V.c1]
            exact (grown_of_below (Below.refl _ _).drew _).trans ((grown_of_below hba _).trans hg5)
          have hd3 := HH.out.below (chain HB0.out hbx)
          rw [HFL.out] at ho5
          have hd6 := hd3.turnT (W := (w5.setCell ⟨p, 0, none⟩ (.slice (some ⟨g5, 0, none⟩) (t.ts.length + 1) c5))) (ts' := t.ts ++ [(⟨r.a, r.b, r.c, r.d, r.key, false⟩ : Ten)]) (A' := some ⟨g5, 0, none⟩) (c' := c5) (by rw [HLEN.out]; exact ho5) hga (hn5.elim (fun q => .inl (by rw [← ob_slice V.A1 t.ts.length V.c1, q]; rfl)) (fun q => .inr (.inr ⟨g5, rfl, by rw [q]; exact hba.size⟩))) (by rw [HLEN.out]; exact hs6.1) hs6.2
          have hb6 : Below lo w (w5.setCell ⟨p, 0, none⟩ (.slice (some ⟨g5, 0, none⟩) (t.ts.length + 1) c5)) := by
            have q1 := (HB.out _ (chain HB0.out hbx)).2
            have q2 := q1.grown hga hd3.lo_le fun b hb => (row_lt hd3.rows.ts b hb).1
            exact grown_below q2 hs6.2 (Nat.le_trans hd3.lo_le hga.size) HH.out.hp
          obtain ⟨W6, hW6⟩ : ∃ W, W = w5.setCell ⟨p, 0, none⟩ (.slice (some ⟨g5, 0, none⟩) (t.ts.length + 1) c5) := ⟨_, rfl⟩
          rw [← hW6] at hd6 hb6 ⊢
          have hR6 : RwT lo g5 (t.ts.length + 1) c5 W6 (t.ts ++ [(⟨r.a, r.b, r.c, r.d, r.key, false⟩ : Ten)]) W6 := ⟨by have := hd6.rows.ts; rwa [HLEN.out] at this, grown_refl _ _, HLEN.out.symm⟩
          have HSO := Lib.hid (sortT_go lo g5 (t.ts.length + 1) c5 49 _ W6 hR6 HN1.out (fun args w => by kernel_rfl) (fun x hx y hy X => cmpT_any x y X (HNEW.out x hx) (HNEW.out y hy)))
          have y6 : W6.cell? ⟨p, 0, none⟩ = some (.slice (some ⟨g5, 0, none⟩) (t.ts.length + 1) c5) := by
            have := hd6.cells.1
            rwa [HLEN.out] at this
          have HD6 := Lib.hid hd6
          have HB6 := Lib.hid hb6
          clear hs6 hga hd3 hd6 hb6 hR6 hq5 z0 zf ho5 hg5 hn5 hl5 hW6 hba za r0 r1 r2 r3 r4 r5 y0 y1 y2 HNW HON HDA HC HQ HBX hbx hi hz0 hz1 hz2
          go_wp2_with (go_at_call 48; with_reducible (refine Calls.mono HSO.out ?_); rintro e w7 ⟨rfl, hR7⟩)
          go_ret
          have hl7 : (insF Ten.id (t.ts ++ [(⟨r.a, r.b, r.c, r.d, r.key, false⟩ : Ten)])).length = (t.ts ++ [(⟨r.a, r.b, r.c, r.d, r.key, false⟩ : Ten)]).length := insF_len _ _
          have hd7 := HD6.out.inT (g := g5) rfl hl7 (by have := hR7.own; rw [← HLEN.out] at this; exact this) hR7.grown
          rw [HUP.out] at hd7
          exact ⟨_, rfl, hd7, grown_below HB6.out hR7.grown (HD6.out.lo_le) (row_lt HD6.out.rows.ts g5 rfl).1⟩

end Go.Proofs.YtnenpafofplbhaaGreat
