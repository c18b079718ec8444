/-
  The landed table: addVolume.
-/
import Derived.Test.YtnenpafofplbhaaGreatTableC16
namespace Go.Proofs.YtnenpafofplbhaaGreat
open Go.RowKit

theorem insFV_new {vs : List Vol} {x : Vol} (h : vs.Pairwise fun a b => a.id < b.id) : insF Vol.id (vs ++ [x]) = insK Vol.id x vs := by rw [insF_snoc, insF_sorted Vol.id h]
theorem box_cell1 {X : World} {p : Nat} {T : TypeId} {v0 v1 v2 : Value} (x : Value) (h : X.heap[p]? = some (.cells #[v0, v1, v2] T (0, 0))) : (X.setCell ⟨p, 1, none⟩ x).heap[p]? = some (.cells #[v0, x, v2] T (0, 0)) ∧ X.grownBy (X.setCell ⟨p, 1, none⟩ x) (some p) :=
  ⟨by simp [World.setCell, Array.getElem?_modify, h], setCells_grown X p 1 [x]⟩

set_option maxHeartbeats 3200000 in
set_option maxRecDepth 20000 in
/-- 'addVolume'. -/
theorem addVolume_go {lo p : Nat} {w : World} {V : TabW} {t : Tab} (h : DrIn lo w p V t) (hs : t.sound) (r : Rc) (hf : inR r.a 0 7) :
    Calls Tryz.prog 29 #[.pointer (some ⟨p, 0, none⟩), .agg #[.int .i64 r.a, .int .i64 r.b, .int .i64 r.c, .int .i64 0]] w fun e w' => ∃ V', e = .returned (.int .i64 (one5 t r).1) ∧ DrIn lo w' p V' (one5 t r).2 ∧ Below lo w w' := by
  have HB : Hid (∀ X, Below w.heap.size w X → DrIn lo X p V t ∧ Below lo w X) := fun X hb => ⟨h.below hb, hb.mono h.lo_le⟩
  obtain ⟨n1, n2, n3⟩ := sound_few hs
  obtain ⟨i0, hi, hz0, hz1, hz2⟩ := info_parts Tryz.infoVolD
  unfold inR at hf
  have hb0 : Below w.heap.size w (w.alloc (.cells #[.int .i64 r.a, .int .i64 r.b, .int .i64 r.c, .int .i64 0] 51)) := (Below.refl _ _).alloc (Nat.le_refl _) _
  have hg0 := heap_alloc_new w (.cells #[.int .i64 r.a, .int .i64 r.b, .int .i64 r.c, .int .i64 0] 51)
  obtain ⟨W0, hW0⟩ : ∃ W, W = w.alloc (.cells #[.int .i64 r.a, .int .i64 r.b, .int .i64 r.c, .int .i64 0] 51) := ⟨_, rfl⟩
  rw [← hW0] at hb0 hg0
  have HXB : Hid (∀ X, Below W0.heap.size W0 X → X.cell? ⟨w.heap.size, 0, none⟩ = some (.int .i64 r.a) ∧ X.cell? ⟨w.heap.size, 1, none⟩ = some (.int .i64 r.b) ∧ X.cell? ⟨w.heap.size, 2, none⟩ = some (.int .i64 r.c) ∧ X.cell? ⟨w.heap.size, 3, none⟩ = some (.int .i64 0)) := fun X hb => cells4 ((hb.block _ (Array.getElem?_eq_some_iff.1 hg0).1).trans hg0)
  obtain ⟨r0, r1, r2, r3⟩ := HXB.out W0 (Below.refl _ _)
  have HB0 := Lib.hid hb0
  obtain ⟨k, hk, he, hl, ha⟩ | ⟨hl, ha⟩ := vol_cases t.vs r.a
  · obtain ⟨g, hA, hg, hgl, hX, hC⟩ := h.foundV hs hk he hl
    have HC := Lib.hid (hC W0 hb0)
    have H1 : Hid (one5 t r = (5, t)) := by show one5 t r = _; unfold one5; rw [ha]; rfl
    rw [H1.out]
    clear hX hC hA hl ha he H1 h hs n1 n2 n3 hf hi hz0 hz1 hz2 hg0 hb0
    go_enter Tryz.func29, Tryz.ntmps29
    go_wp2_with fail
    rw [← hW0]
    clear hW0
    go_wp2_with (go_at_call 53; with_reducible (refine Calls.mono HC.out ?_); rintro e w1 ⟨rfl, hb1⟩)
    go_ret
    exact ⟨V, rfl, HB.out _ (chain HB0.out hb1)⟩
  · have HC := Lib.hid (h.noV hs hl W0 hb0)
    obtain ⟨k, hk, he, hl2, ha2⟩ | ⟨hl2, ha2⟩ := ten_cases t.ts r.b
    · obtain ⟨g, hA, hg, hgl, hX, hC⟩ := h.foundT hs hk he hl2
      have HCT := Lib.hid (fun X (hb : Below w.heap.size w X) => hC X hb)
      have HX := Lib.hid hX
      have hone : one5 t r = if t.ts[k].dying = true then (10, t) else (0, { t with vs := insK Vol.id ⟨r.a, r.b, r.c, 0⟩ t.vs }) := by
        unfold one5
        rw [ha, ha2]
        rfl
      have HONE := Lib.hid hone
      by_cases hd : t.ts[k].dying = true
      · have H1 : Hid (one5 t r = (10, t)) := by show _ = _; rw [HONE.out, if_pos hd]
        rw [H1.out]
        simp only [hd] at HX
        clear hX hC hA hl hl2 ha ha2 he hd H1 HONE hone h hs n1 n2 n3 hf hi hz0 hz1 hz2 hg0 hb0
        go_enter Tryz.func29, Tryz.ntmps29
        go_wp2_with fail
        rw [← hW0]
        clear hW0
        go_wp2_with (first
          | (go_at_call 53; with_reducible (refine Calls.mono HC.out ?_); rintro e w1 ⟨rfl, hb1⟩; obtain ⟨r0, r1, r2, r3⟩ := HXB.out _ hb1)
          | (go_at_call 46; with_reducible (refine Calls.mono (HCT.out _ (chain HB0.out hb1)) ?_); rintro e w2 ⟨rfl, hb2⟩; obtain ⟨⟨x0, x1, x5⟩, f1, f5⟩ := HX.out _ (chain HB0.out (chain hb1 hb2))))
        go_ret
        exact ⟨V, rfl, HB.out _ (chain HB0.out (chain hb1 hb2))⟩
      · have hd2 : t.ts[k].dying = false := by simpa using hd
        have H1 : Hid (one5 t r = (0, { t with vs := insK Vol.id ⟨r.a, r.b, r.c, 0⟩ t.vs })) := by show _ = _; rw [HONE.out, if_neg hd]
        rw [H1.out]
        simp only [hd2] at HX
        have HH : Hid (DrIn lo w p V t) := h
        have HBX := Lib.hid (fun X (hb : Below w.heap.size w X) => (h.below hb).cells)
        have hnew : ∀ x ∈ t.vs ++ [(⟨r.a, r.b, r.c, 0⟩ : Vol)], 0 ≤ x.id ∧ x.id ≤ 7 := fun x hx => by
          rcases List.mem_append.1 hx with hx | hx
          · exact (hs.vol x hx).1
          · rw [List.mem_singleton] at hx; subst hx; exact hf
        have HNEW := Lib.hid hnew
        have HUP : Hid (insF Vol.id (t.vs ++ [(⟨r.a, r.b, r.c, 0⟩ : Vol)]) = insK Vol.id ⟨r.a, r.b, r.c, 0⟩ t.vs) := insFV_new hs.vup
        have HFL : Hid (flat volC t.vs ++ [.int .i64 r.a, .int .i64 r.b, .int .i64 r.c, .int .i64 0] = flat volC (t.vs ++ [(⟨r.a, r.b, r.c, 0⟩ : Vol)])) := (flat_snoc (E := volC) t.vs ⟨r.a, r.b, r.c, 0⟩).symm
        have HLEN : Hid ((t.vs ++ [(⟨r.a, r.b, r.c, 0⟩ : Vol)]).length = t.vs.length + 1) := List.length_append
        have HN1 : Hid (t.vs.length + 1 ≤ 12) := by unfold Hid; omega
        clear hX hC hA H1 HONE hone hl hl2 ha ha2 he hd hd2 h hs n1 n2 n3 hf hg0 hb0 hnew
        go_enter Tryz.func29, Tryz.ntmps29
        go_wp2_with fail
        rw [← hW0]
        clear hW0
        go_wp2_with (first
          | (go_at_call 53; with_reducible (refine Calls.mono HC.out ?_); rintro e w1 ⟨rfl, hb1⟩; obtain ⟨r0, r1, r2, r3⟩ := HXB.out _ hb1)
          | (go_at_call 46; with_reducible (refine Calls.mono (HCT.out _ (chain HB0.out hb1)) ?_); rintro e w3 ⟨rfl, hb2⟩; have hbx := chain hb1 hb2; obtain ⟨⟨x0, x1, x5⟩, f1, f5⟩ := HX.out _ (chain HB0.out hbx); obtain ⟨r0, r1, r2, r3⟩ := HXB.out _ hbx))
        obtain ⟨y0, y1, y2⟩ := HBX.out _ (chain HB0.out hbx)
        have hd3 := (HH.out.below (chain HB0.out hbx)).below (Below.refl _ _).drew
        have hba : Below w3.drew.heap.size w3.drew (w3.drew.alloc (.cells #[.int .i64 r.a, .int .i64 r.b, .int .i64 r.c, .int .i64 0] 51)) := (Below.refl _ _).alloc (Nat.le_refl _) _
        have hda := hd3.below hba
        have za : (w3.alloc (.cells #[.int .i64 r.a, .int .i64 r.b, .int .i64 r.c, .int .i64 0] 51)).cell? ⟨p, 1, none⟩ = some (.slice V.A2 t.vs.length V.c2) := hda.cells.2.1
        have HDA := Lib.hid hda
        have HNW : Hid (∀ j u, ([.int .i64 r.a, .int .i64 r.b, .int .i64 r.c, .int .i64 0] : List Value)[j]? = some u → (w3.drew.alloc (.cells #[.int .i64 r.a, .int .i64 r.b, .int .i64 r.c, .int .i64 0] 51)).cell? ((⟨w3.drew.heap.size, 0, none⟩ : Addr).add j) = some u) := World.news_of_block (heap_alloc_new _ _)
        have HON : Hid (∀ u ∈ ([.int .i64 r.a, .int .i64 r.b, .int .i64 r.c, .int .i64 0] : List Value), u.oneCell' = true) := volC_one ⟨r.a, r.b, r.c, 0⟩
        clear hd3 hda
        go_region_law (refine step_append_lies _ rfl _ _ 23 rfl lo 51 i0 (.agg #[.int .i64 0, .int .i64 0, .int .i64 0, .int .i64 0]) 4 32 Tryz.underlying23 hi hz0 hz1 hz2 rfl (by decide) (.slice V.A2 t.vs.length V.c2) t.vs.length (flat volC t.vs) rfl HDA.out.rows.vs ⟨w3.drew.heap.size, 0, none⟩ 1 1 [.int .i64 r.a, .int .i64 r.b, .int .i64 r.c, .int .i64 0] rfl rfl HNW.out HON.out (by decide) (by unfold maxLen; have := HN1.out; omega) (by have := HN1.out; omega) HDA.out.lo_le _ rfl ?_; intro g5 c5 w5 ho5 hg5 hn5 hl5; have hq5 := (hg5.block p HDA.out.lt (fun q => HDA.out.p2 p (by rw [← ob_slice]; exact q.symm) rfl)).trans HDA.out.box; obtain ⟨_, z0, _⟩ := cells3 hq5; have zf := frozen_of_row _ _ 1 _ _ hq5)
        all_goals
          have hs6 := box_cell1 (.slice (some ⟨g5, 0, none⟩) (t.vs.length + 1) c5) hq5
          have hga : w3.grownBy w5 (ob V.A2) := by
            rw [← ob_slice V.A2 t.vs.length V.c2]
            exact (grown_of_below (Below.refl _ _).drew _).trans ((grown_of_below hba _).trans hg5)
          have hd3 := HH.out.below (chain HB0.out hbx)
          rw [HFL.out] at ho5
          have hd6 := hd3.turnV (W := (w5.setCell ⟨p, 1, none⟩ (.slice (some ⟨g5, 0, none⟩) (t.vs.length + 1) c5))) (vs' := t.vs ++ [(⟨r.a, r.b, r.c, 0⟩ : Vol)]) (A' := some ⟨g5, 0, none⟩) (c' := c5) (by rw [HLEN.out]; exact ho5) hga (hn5.elim (fun q => .inl (by rw [← ob_slice V.A2 t.vs.length V.c2, q]; rfl)) (fun q => .inr (.inr ⟨g5, rfl, by rw [q]; exact hba.size⟩))) (by rw [HLEN.out]; exact hs6.1) hs6.2
          have hb6 : Below lo w (w5.setCell ⟨p, 1, none⟩ (.slice (some ⟨g5, 0, none⟩) (t.vs.length + 1) c5)) := by
            have q1 := (HB.out _ (chain HB0.out hbx)).2
            have q2 := q1.grown hga hd3.lo_le fun b hb => (row_lt hd3.rows.vs b hb).1
            exact grown_below q2 hs6.2 (Nat.le_trans hd3.lo_le hga.size) HH.out.hp
          obtain ⟨W6, hW6⟩ : ∃ W, W = w5.setCell ⟨p, 1, none⟩ (.slice (some ⟨g5, 0, none⟩) (t.vs.length + 1) c5) := ⟨_, rfl⟩
          rw [← hW6] at hd6 hb6 ⊢
          have hR6 : RwV lo g5 (t.vs.length + 1) c5 W6 (t.vs ++ [(⟨r.a, r.b, r.c, 0⟩ : Vol)]) W6 := ⟨by have := hd6.rows.vs; rwa [HLEN.out] at this, grown_refl _ _, HLEN.out.symm⟩
          have HSO := Lib.hid (sortV_go lo g5 (t.vs.length + 1) c5 55 _ W6 hR6 HN1.out (fun args w => by kernel_rfl) (fun x hx y hy X => cmpV_any x y X (HNEW.out x hx) (HNEW.out y hy)))
          have y6 : W6.cell? ⟨p, 1, none⟩ = some (.slice (some ⟨g5, 0, none⟩) (t.vs.length + 1) c5) := by
            have := hd6.cells.2.1
            rwa [HLEN.out] at this
          have HD6 := Lib.hid hd6
          have HB6 := Lib.hid hb6
          clear hs6 hga hd3 hd6 hb6 hR6 hq5 z0 zf ho5 hg5 hn5 hl5 hW6 hba za r0 r1 r2 r3 y0 y1 y2 HNW HON HDA HC HBX hbx hi hz0 hz1 hz2 x0 x1 x5 f1 f5
          go_wp2_with (go_at_call 54; with_reducible (refine Calls.mono HSO.out ?_); rintro e w7 ⟨rfl, hR7⟩)
          go_ret
          have hl7 : (insF Vol.id (t.vs ++ [(⟨r.a, r.b, r.c, 0⟩ : Vol)])).length = (t.vs ++ [(⟨r.a, r.b, r.c, 0⟩ : Vol)]).length := insF_len _ _
          have hd7 := HD6.out.inV (g := g5) rfl hl7 (by have := hR7.own; rw [← HLEN.out] at this; exact this) hR7.grown
          rw [HUP.out] at hd7
          exact ⟨_, rfl, hd7, grown_below HB6.out hR7.grown (HD6.out.lo_le) (row_lt HD6.out.rows.vs g5 rfl).1⟩
    · have HCT := Lib.hid (fun X (hb : Below w.heap.size w X) => h.noT hs hl2 X hb)
      have H1 : Hid (one5 t r = (4, t)) := by show one5 t r = _; unfold one5; rw [ha, ha2]; rfl
      rw [H1.out]
      clear hl hl2 ha ha2 H1 h hs n1 n2 n3 hf hi hz0 hz1 hz2 hg0 hb0
      go_enter Tryz.func29, Tryz.ntmps29
      go_wp2_with fail
      rw [← hW0]
      clear hW0
      go_wp2_with (first
        | (go_at_call 53; with_reducible (refine Calls.mono HC.out ?_); rintro e w1 ⟨rfl, hb1⟩; obtain ⟨r0, r1, r2, r3⟩ := HXB.out _ hb1)
        | (go_at_call 46; with_reducible (refine Calls.mono (HCT.out _ (chain HB0.out hb1)) ?_); rintro e w2 ⟨rfl, hb2⟩))
      go_ret
      exact ⟨V, rfl, HB.out _ (chain HB0.out (chain hb1 hb2))⟩

end Go.Proofs.YtnenpafofplbhaaGreat
