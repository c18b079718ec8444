/-
  The landed table: removeTenant, removeVolume.
-/
import Derived.Test.YtbnhkplhmanmoaaGreatTableDelVG
namespace Go.Proofs.YtbnhkplhmanmoaaGreat
open Go.RowKit

set_option maxHeartbeats 800000 in
theorem rmt1_any (x : Ten) (id : Int) (q : Nat) (w : World) (hq : w.cell? ⟨q, 0, none⟩ = some (.int .i64 id)) :
    Calls Tryz.prog 98 (#[.agg (tenV x)] ++ #[.pointer (some ⟨q, 0, none⟩)]) w fun e w' => e = .returned (.bool (decide (x.id = id))) ∧ Below w.heap.size w w' := by
  show Calls Tryz.prog 98 #[.agg (tenV x), .pointer (some ⟨q, 0, none⟩)] w _
  obtain ⟨p0, p1, p2, p3, p4, p5⟩ := x
  simp only [tenV]
  have hb : Below w.heap.size w (w.alloc (.cells #[.int .i64 p0, .int .i64 p1, .int .i64 p2, .int .i64 p3, .string p4, .bool p5] 52)) := (Below.refl _ _).alloc (Nat.le_refl _) _
  have hq2 : (w.alloc (.cells #[.int .i64 p0, .int .i64 p1, .int .i64 p2, .int .i64 p3, .string p4, .bool p5] 52)).cell? ⟨q, 0, none⟩ = some (.int .i64 id) := (hb.cell (p := ⟨q, 0, none⟩) (World.block_lt_of_cell? w _ hq)).trans hq
  have e : (p0 == id) = decide (p0 = id) := by rw [Bool.eq_iff_iff]; simp
  go_enter Tryz.func98, Tryz.ntmps98
  go_wp2
  go_ret
  exact ⟨rfl, hb⟩
set_option maxHeartbeats 800000 in
theorem rmv1_any (x : Vol) (id : Int) (q : Nat) (w : World) (hq : w.cell? ⟨q, 0, none⟩ = some (.int .i64 id)) :
    Calls Tryz.prog 103 (#[.agg (volV x)] ++ #[.pointer (some ⟨q, 0, none⟩)]) w fun e w' => e = .returned (.bool (decide (x.id = id))) ∧ Below w.heap.size w w' := by
  show Calls Tryz.prog 103 #[.agg (volV x), .pointer (some ⟨q, 0, none⟩)] w _
  obtain ⟨p0, p1, p2, p3⟩ := x
  simp only [volV]
  have hb : Below w.heap.size w (w.alloc (.cells #[.int .i64 p0, .int .i64 p1, .int .i64 p2, .int .i64 p3] 82)) := (Below.refl _ _).alloc (Nat.le_refl _) _
  have hq2 : (w.alloc (.cells #[.int .i64 p0, .int .i64 p1, .int .i64 p2, .int .i64 p3] 82)).cell? ⟨q, 0, none⟩ = some (.int .i64 id) := (hb.cell (p := ⟨q, 0, none⟩) (World.block_lt_of_cell? w _ hq)).trans hq
  have e : (p0 == id) = decide (p0 = id) := by rw [Bool.eq_iff_iff]; simp
  go_enter Tryz.func103, Tryz.ntmps103
  go_wp2
  go_ret
  exact ⟨rfl, hb⟩

set_option maxHeartbeats 3200000 in
set_option maxRecDepth 20000 in
/-- 'removeVolume'. -/
theorem removeVolume_go {lo p : Nat} {w : World} {V : TabW} {t : Tab} (h : DrIn lo w p V t) (hs : t.sound) (r : Rc) :
    Calls Tryz.prog 73 #[.pointer (some ⟨p, 0, none⟩), .int .i64 r.a] w fun e w' => ∃ V', e = .returned (.int .i64 (one7 t r).1) ∧ DrIn lo w' p V' (one7 t r).2 ∧ Below lo w w' := by
  have HB : Hid (∀ X, Below w.heap.size w X → DrIn lo X p V t ∧ Below lo w X) := fun X hb => ⟨h.below hb, hb.mono h.lo_le⟩
  have hb0 : Below w.heap.size w (w.alloc (.cells #[.int .i64 r.a] 3)) := (Below.refl _ _).alloc (Nat.le_refl _) _
  have hg0 := heap_alloc_new w (.cells #[.int .i64 r.a] 3)
  obtain ⟨W0, hW0⟩ : ∃ W, W = w.alloc (.cells #[.int .i64 r.a] 3) := ⟨_, rfl⟩
  rw [← hW0] at hb0 hg0
  have hq0 : W0.cell? ⟨w.heap.size, 0, none⟩ = some (.int .i64 r.a) := by rw [cell_of_row _ _ _ _ _ _ hg0]; rfl
  have HQ0 : Hid (∀ X, Below W0.heap.size W0 X → X.cell? ⟨w.heap.size, 0, none⟩ = some (.int .i64 r.a)) := fun X hb => (hb.cell (p := ⟨w.heap.size, 0, none⟩) (World.block_lt_of_cell? _ _ hq0)).trans hq0
  have HB0 := Lib.hid hb0
  obtain ⟨k, hk, he, hl, ha⟩ | ⟨hl, ha⟩ := vol_cases t.vs r.a
  · obtain ⟨g, hA, hg, hgl, hX, hC⟩ := h.foundV hs hk he hl
    have HC := Lib.hid (hC W0 hb0)
    have H1 : Hid (one7 t r = (0, { t with vs := t.vs.eraseIdx k })) := by
      show one7 t r = _
      unfold one7; rw [ha]
      show (_, _) = _
      rw [filter_erase Vol.id hk hs.vup he]
    rw [H1.out]
    have HD : Hid (∀ X, Below W0.heap.size W0 X → Calls Tryz.prog 102 #[.slice (some ⟨g, 0, none⟩) t.vs.length V.c2, .func (.func 103) #[] #[.pointer (some ⟨w.heap.size, 0, none⟩)]] X fun e w' => e = .returned (.slice (some ⟨g, 0, none⟩) (t.vs.length - 1 : Nat) V.c2) ∧ RwV lo g (t.vs.length - 1) V.c2 X (t.vs.eraseIdx k) w') := fun X hb => by
      have hd := h.below (chain hb0 hb)
      have hrow := hd.rows.vs
      rw [hA] at hrow
      refine deleteV_go lo g t.vs.length V.c2 k r.a 103 #[.pointer (some ⟨w.heap.size, 0, none⟩)] t.vs X ⟨hrow, grown_refl _ _, rfl⟩ (by have := (sound_few hs).2.1; omega) hs.vup hk he (fun args w => by kernel_rfl) fun x Y hY => ?_
      have hqX := HQ0.out X hb
      exact rmv1_any x r.a w.heap.size Y (hY.cell hqX (by intro q; injection q with q; have q' : w.heap.size = g := q; omega))
    have HBX : Hid (∀ X, Below w.heap.size w X → X.cell? ⟨p, 0, none⟩ = some (.slice V.A1 t.ts.length V.c1) ∧ X.cell? ⟨p, 1, none⟩ = some (.slice (some ⟨g, 0, none⟩) t.vs.length V.c2) ∧ X.cell? ⟨p, 2, none⟩ = some (.slice V.A3 t.os.length V.c3)) := fun X hb => by
      have q := (h.below hb).cells
      rwa [hA] at q
    have HEND : Hid (∀ X W, Below w.heap.size w X → RwV lo g (t.vs.length - 1) V.c2 X (t.vs.eraseIdx k) W → W.heap[p]? = some (.cells (tabV V t) 93 (0, 0)) ∧ DrIn lo (W.setCell ⟨p, 1, none⟩ (.slice (some ⟨g, 0, none⟩) (t.vs.length - 1) V.c2)) p { V with A2 := some ⟨g, 0, none⟩, c2 := V.c2 } { t with vs := t.vs.eraseIdx k } ∧ Below lo w (W.setCell ⟨p, 1, none⟩ (.slice (some ⟨g, 0, none⟩) (t.vs.length - 1) V.c2))) := fun X W hb hR => by
      have hd := h.below hb
      have hob : ob V.A2 = some g := by rw [hA]; rfl
      have hq : W.heap[p]? = some (.cells (tabV V t) 93 (0, 0)) := (hR.grown.block p hd.lt (fun q => hd.p2 g hob (by injection q))).trans hd.box
      have hs6 := box_cell1 (.slice (some ⟨g, 0, none⟩) (t.vs.length - 1) V.c2) hq
      have hlen : (t.vs.eraseIdx k).length = t.vs.length - 1 := List.length_eraseIdx_of_lt hk
      refine ⟨hq, hd.turnV (by rw [hlen]; exact hR.own) (by rw [hob]; exact hR.grown) (.inl (by rw [hob]; rfl)) (by rw [hlen]; exact hs6.1) hs6.2, ?_⟩
      have q2 := (hb.mono h.lo_le).grown hR.grown hd.lo_le fun b hb => by injection hb with hb; subst hb; exact (row_lt hd.rows.vs _ hob).1
      exact grown_below q2 hs6.2 (Nat.le_trans hd.lo_le hR.grown.size) h.hp
    obtain ⟨T, hT⟩ : ∃ T, T = { t with vs := t.vs.eraseIdx k } := ⟨_, rfl⟩
    rw [← hT] at HEND ⊢
    clear hX hC hA hl ha he H1 h hs hT HB hg0 hb0
    go_enter Tryz.func73, Tryz.ntmps73
    go_wp2_with fail
    rw [← hW0]
    clear hW0
    go_wp2_with (first
      | (go_at_call 99; with_reducible (refine Calls.mono HC.out ?_); rintro e w1 ⟨rfl, hb1⟩; obtain ⟨y0, y1, y2⟩ := HBX.out _ (chain HB0.out hb1))
      | (go_at_call 102; with_reducible (refine Calls.mono (HD.out _ hb1) ?_); rintro e w2 ⟨rfl, hR2⟩
         obtain ⟨hq2, hd2, hz2⟩ := HEND.out _ _ (chain HB0.out hb1) hR2
         obtain ⟨_, z1, _⟩ := cells3 hq2
         have zf := frozen_of_row _ _ 1 _ _ hq2))
    go_ret
    exact ⟨_, rfl, hd2, hz2⟩
  · have H1 : Hid (one7 t r = (4, t)) := by show one7 t r = _; unfold one7; rw [ha]
    have HC := Lib.hid (h.noV hs hl W0 hb0)
    rw [H1.out]
    clear hl ha H1 h hs hg0 hb0
    go_enter Tryz.func73, Tryz.ntmps73
    go_wp2_with fail
    rw [← hW0]
    clear hW0
    go_wp2_with (go_at_call 99; with_reducible (refine Calls.mono HC.out ?_); rintro e w1 ⟨rfl, hb1⟩)
    go_ret
    exact ⟨V, rfl, HB.out _ (chain HB0.out hb1)⟩

set_option maxHeartbeats 3200000 in
set_option maxRecDepth 20000 in
/-- 'removeTenant'. -/
theorem removeTenant_go {lo p : Nat} {w : World} {V : TabW} {t : Tab} (h : DrIn lo w p V t) (hs : t.sound) (r : Rc) :
    Calls Tryz.prog 70 #[.pointer (some ⟨p, 0, none⟩), .int .i64 r.a] w fun e w' => ∃ V', e = .returned (.int .i64 (one4 t r).1) ∧ DrIn lo w' p V' (one4 t r).2 ∧ Below lo w w' := by
  have HB : Hid (∀ X, Below w.heap.size w X → DrIn lo X p V t ∧ Below lo w X) := fun X hb => ⟨h.below hb, hb.mono h.lo_le⟩
  have hb0 : Below w.heap.size w (w.alloc (.cells #[.int .i64 r.a] 3)) := (Below.refl _ _).alloc (Nat.le_refl _) _
  have hg0 := heap_alloc_new w (.cells #[.int .i64 r.a] 3)
  obtain ⟨W0, hW0⟩ : ∃ W, W = w.alloc (.cells #[.int .i64 r.a] 3) := ⟨_, rfl⟩
  rw [← hW0] at hb0 hg0
  have hq0 : W0.cell? ⟨w.heap.size, 0, none⟩ = some (.int .i64 r.a) := by rw [cell_of_row _ _ _ _ _ _ hg0]; rfl
  have HQ0 : Hid (∀ X, Below W0.heap.size W0 X → X.cell? ⟨w.heap.size, 0, none⟩ = some (.int .i64 r.a)) := fun X hb => (hb.cell (p := ⟨w.heap.size, 0, none⟩) (World.block_lt_of_cell? _ _ hq0)).trans hq0
  have HB0 := Lib.hid hb0
  obtain ⟨k, hk, he, hl, ha⟩ | ⟨hl, ha⟩ := ten_cases t.ts r.a
  · obtain ⟨g, hA, hg, hgl, hX, hC⟩ := h.foundT hs hk he hl
    have HC := Lib.hid (hC W0 hb0)
    have HX := Lib.hid hX
    have HBX : Hid (∀ X, Below w.heap.size w X → X.cell? ⟨p, 0, none⟩ = some (.slice (some ⟨g, 0, none⟩) t.ts.length V.c1) ∧ X.cell? ⟨p, 1, none⟩ = some (.slice V.A2 t.vs.length V.c2) ∧ X.cell? ⟨p, 2, none⟩ = some (.slice V.A3 t.os.length V.c3)) := fun X hb => by
      have q := (h.below hb).cells
      rwa [hA] at q
    have hone : one4 t r = if t.ts[k].dying = false ∨ 0 < ownN t.os r.a ∨ hasV t.vs r.a then (10, t) else (0, { t with ts := t.ts.eraseIdx k }) := by
      unfold one4; rw [ha]
      show (if t.ts[k].dying = false ∨ 0 < ownN t.os r.a ∨ hasV t.vs r.a then _ else _) = _
      rw [filter_erase Ten.id hk hs.up he]
    have HONE := Lib.hid hone
    by_cases hd : t.ts[k].dying = true
    · have HO : ∀ X, Below w.heap.size w X → Calls Tryz.prog 95 #[.agg #[.slice (some ⟨g, 0, none⟩) t.ts.length V.c1, .slice V.A2 t.vs.length V.c2, .slice V.A3 t.os.length V.c3], .int .i64 r.a] X fun e w' => e = .returned (.int .i64 (ownN t.os r.a : Nat)) ∧ Below X.heap.size X w' := fun X hb => by
        have q := owned_any V t r.a X (h.below hb).tab (by have := (sound_few hs).2.2; omega)
        unfold tabV at q
        rwa [hA] at q
      have HV := Lib.hid (fun X (hb : Below w.heap.size w X) => hasv_any p V.A2 V.c2 t.vs r.a X (h.below hb).cells.2.1 (by have := (sound_few hs).2.1; omega) (h.below hb).tab.vs)
      have HD : Hid (∀ X, Below W0.heap.size W0 X → Calls Tryz.prog 97 #[.slice (some ⟨g, 0, none⟩) t.ts.length V.c1, .func (.func 98) #[] #[.pointer (some ⟨w.heap.size, 0, none⟩)]] X fun e w' => e = .returned (.slice (some ⟨g, 0, none⟩) (t.ts.length - 1 : Nat) V.c1) ∧ RwT lo g (t.ts.length - 1) V.c1 X (t.ts.eraseIdx k) w') := fun X hb => by
        have hd := h.below (chain hb0 hb)
        have hrow := hd.rows.ts
        rw [hA] at hrow
        refine deleteT_go lo g t.ts.length V.c1 k r.a 98 #[.pointer (some ⟨w.heap.size, 0, none⟩)] t.ts X ⟨hrow, grown_refl _ _, rfl⟩ (by have := (sound_few hs).1; omega) hs.up hk he (fun args w => by kernel_rfl) fun x Y hY => ?_
        have hqX := HQ0.out X hb
        exact rmt1_any x r.a w.heap.size Y (hY.cell hqX (by intro q; injection q with q; have q' : w.heap.size = g := q; omega))
      have HEND : Hid (∀ X W, Below w.heap.size w X → RwT lo g (t.ts.length - 1) V.c1 X (t.ts.eraseIdx k) W → W.heap[p]? = some (.cells (tabV V t) 93 (0, 0)) ∧ DrIn lo (W.setCell ⟨p, 0, none⟩ (.slice (some ⟨g, 0, none⟩) (t.ts.length - 1) V.c1)) p { V with A1 := some ⟨g, 0, none⟩, c1 := V.c1 } { t with ts := t.ts.eraseIdx k } ∧ Below lo w (W.setCell ⟨p, 0, none⟩ (.slice (some ⟨g, 0, none⟩) (t.ts.length - 1) V.c1))) := fun X W hb hR => by
        have hd := h.below hb
        have hob : ob V.A1 = some g := by rw [hA]; rfl
        have hq : W.heap[p]? = some (.cells (tabV V t) 93 (0, 0)) := (hR.grown.block p hd.lt (fun q => hd.p1 g hob (by injection q))).trans hd.box
        have hs6 := box_cell0 (.slice (some ⟨g, 0, none⟩) (t.ts.length - 1) V.c1) hq
        have hlen : (t.ts.eraseIdx k).length = t.ts.length - 1 := List.length_eraseIdx_of_lt hk
        refine ⟨hq, hd.turnT (by rw [hlen]; exact hR.own) (by rw [hob]; exact hR.grown) (.inl (by rw [hob]; rfl)) (by rw [hlen]; exact hs6.1) hs6.2, ?_⟩
        have q2 := (hb.mono h.lo_le).grown hR.grown hd.lo_le fun b hb => by injection hb with hb; subst hb; exact (row_lt hd.rows.ts _ hob).1
        exact grown_below q2 hs6.2 (Nat.le_trans hd.lo_le hR.grown.size) h.hp
      obtain ⟨T, hT⟩ : ∃ T, T = { t with ts := t.ts.eraseIdx k } := ⟨_, rfl⟩
      rw [← hT] at HEND HONE
      obtain ⟨m, hm⟩ : ∃ m, m = ownN t.os r.a := ⟨_, rfl⟩
      rw [← hm] at HONE HO
      have HOH := Lib.hid HO
      simp only [hd] at HX
      by_cases c1 : 0 < m
      · have H1 : Hid (one4 t r = (10, t)) := by show _ = _; rw [HONE.out, if_pos (.inr (.inl c1))]
        rw [H1.out]
        have d1 : (m : Int) > 0 := by omega
        have d2 : decide ((m : Int) > 0) = true := decide_eq_true d1
        have d3 : decide (0 < m) = true := decide_eq_true c1
        clear H1 HONE hone hX hC hA hl ha he hd h hs hT hg0 hb0 HO hm HD HEND HV
        go_enter Tryz.func70, Tryz.ntmps70
        go_wp2_with fail
        rw [← hW0]
        clear hW0
        go_wp2_with (go_at_call 91; with_reducible (refine Calls.mono HC.out ?_); rintro e w1 ⟨rfl, hb1⟩)
        have hbx := hb1.drew
        obtain ⟨⟨x0, x1, x5⟩, f1, f5⟩ := HX.out _ (chain HB0.out hb1)
        obtain ⟨y0, y1, y2⟩ := HBX.out _ (chain HB0.out hb1)
        refine wp_region_held_drew (S := (fun W => (W.cell? ⟨g, k * 6 + 5, none⟩ = some (.bool true) ∧ W.cell? ⟨w.heap.size, 0, none⟩ = some (.int .i64 r.a)) ∧ W.cell? ⟨p, 0, none⟩ = some (.slice (some ⟨g, 0, none⟩) t.ts.length V.c1) ∧ W.cell? ⟨p, 1, none⟩ = some (.slice V.A2 t.vs.length V.c2) ∧ W.cell? ⟨p, 2, none⟩ = some (.slice V.A3 t.os.length V.c3))) (by kernel_rfl) (⟨⟨(HX.out _ (chain HB0.out hbx)).1.2.2, HQ0.out _ hbx⟩, HBX.out _ (chain HB0.out hbx)⟩) (fun hHeld => ?_)
        refine wpAnyH_take (i := 0) (oi := _) (v := ?_) rfl (by kernel_rfl) (by kernel_rfl) (by kernel_rfl) (fun _ _ _ h => h) (Or.inl ⟨by rfl, ?_⟩) (by assumption) ?_
        rotate_left 1
        · intro w hSw; clear hSw; first | (go_simp; done) | (go_simp; with_reducible rfl)
        change wpAnyH _ _ _ _ _ _ _ (Act.put _ (some 11) _) _
        (try simp only [Act.put, List.setIfInBounds_toArray, List.set_cons_zero, List.set_cons_succ])
        refine wpAnyH_take (i := 1) (oi := _) (v := ?_) rfl (by kernel_rfl) (by kernel_rfl) (by kernel_rfl) (fun _ _ _ h => h) (Or.inl ⟨by rfl, ?_⟩) (by assumption) ?_
        rotate_left 1
        · intro w hSw; clear hSw; first | (go_simp; done) | (go_simp; with_reducible rfl)
        change wpAnyH _ _ _ _ _ _ _ (Act.put _ (some 12) _) _
        (try simp only [Act.put, List.setIfInBounds_toArray, List.set_cons_zero, List.set_cons_succ])
        refine wpAnyH_take (i := 2) (oi := _) (v := ?_) rfl (by kernel_rfl) (by kernel_rfl) (by kernel_rfl) (fun _ _ _ h => h) (Or.inl ⟨by rfl, ?_⟩) (by assumption) ?_
        rotate_left 1
        · intro w hSw; clear hSw; first | (go_simp; done) | (go_simp; with_reducible rfl)
        change wpAnyH _ _ _ _ _ _ _ (Act.put _ (some 13) _) _
        (try simp only [Act.put, List.setIfInBounds_toArray, List.set_cons_zero, List.set_cons_succ])
        refine wpAnyH_take (i := 3) (oi := _) (v := ?_) rfl (by kernel_rfl) (by kernel_rfl) (by kernel_rfl) (fun _ _ _ h => h) (Or.inl ⟨by rfl, ?_⟩) (by assumption) ?_
        rotate_left 1
        · intro w hSw; obtain ⟨⟨s1, s2⟩, s3, s4, s5⟩ := hSw; first | (go_simp; done) | (go_simp; with_reducible rfl)
        change wpAnyH _ _ _ _ _ _ _ (Act.put _ (some 14) _) _
        (try simp only [Act.put, List.setIfInBounds_toArray, List.set_cons_zero, List.set_cons_succ])
        refine wpAnyH_take (i := 4) (oi := _) (v := ?_) rfl (by kernel_rfl) (by kernel_rfl) (by kernel_rfl) (fun _ _ _ h => h) (Or.inl ⟨by rfl, ?_⟩) (by assumption) ?_
        rotate_left 1
        · intro w hSw; clear hSw; first | (go_simp; done) | (go_simp; with_reducible rfl)
        change wpAnyH _ _ _ _ _ _ _ (Act.put _ (some 15) _) _
        (try simp only [Act.put, List.setIfInBounds_toArray, List.set_cons_zero, List.set_cons_succ])
        refine wpAnyH_take (i := 5) (oi := _) (v := ?_) rfl (by kernel_rfl) (by kernel_rfl) (by kernel_rfl) (fun _ _ _ h => h) (Or.inl ⟨by rfl, ?_⟩) (by assumption) ?_
        rotate_left 1
        · intro w hSw; clear hSw; first | (go_simp; done) | (go_simp; with_reducible rfl)
        change wpAnyH _ _ _ _ _ _ _ (Act.put _ (some 16) _) _
        (try simp only [Act.put, List.setIfInBounds_toArray, List.set_cons_zero, List.set_cons_succ])
        refine wpAnyH_take (i := 6) (oi := _) (v := ?_) rfl (by kernel_rfl) (by kernel_rfl) (by kernel_rfl) (fun _ _ _ h => h) (Or.inl ⟨by rfl, ?_⟩) (by assumption) ?_
        rotate_left 1
        · intro w hSw; clear hSw; first | (go_simp; done) | (go_simp; with_reducible rfl)
        change wpAnyH _ _ _ _ _ _ _ (Act.put _ (some 17) _) _
        (try simp only [Act.put, List.setIfInBounds_toArray, List.set_cons_zero, List.set_cons_succ])
        refine wpAnyH_take (i := 7) (oi := _) (v := ?_) rfl (by kernel_rfl) (by kernel_rfl) (by kernel_rfl) (fun _ _ _ h => h) (Or.inl ⟨by rfl, ?_⟩) (by assumption) ?_
        rotate_left 1
        · intro w hSw; clear hSw; first | (go_simp; done) | (go_simp; with_reducible rfl)
        change wpAnyH _ _ _ _ _ _ _ (Act.put _ (some 18) _) _
        (try simp only [Act.put, List.setIfInBounds_toArray, List.set_cons_zero, List.set_cons_succ])
        refine wpAnyH_take (i := 8) (oi := _) (v := ?_) rfl (by kernel_rfl) (by kernel_rfl) (by kernel_rfl) (fun _ _ _ h => h) (Or.inl ⟨by rfl, ?_⟩) (by assumption) ?_
        rotate_left 1
        · intro w hSw; clear hSw; first | (go_simp; done) | (go_simp; with_reducible rfl)
        change wpAnyH _ _ _ _ _ _ _ (Act.put _ (some 19) _) _
        (try simp only [Act.put, List.setIfInBounds_toArray, List.set_cons_zero, List.set_cons_succ])
        refine wpAnyH_take (i := 9) (oi := _) (v := ?_) rfl (by kernel_rfl) (by kernel_rfl) (by kernel_rfl) (fun _ _ _ h => h) (Or.inl ⟨by rfl, ?_⟩) (by assumption) ?_
        rotate_left 1
        · intro w hSw; obtain ⟨⟨s1, s2⟩, s3, s4, s5⟩ := hSw; first | (go_simp; done) | (go_simp; with_reducible rfl)
        change wpAnyH _ _ _ _ _ _ _ (Act.put _ (some 20) _) _
        (try simp only [Act.put, List.setIfInBounds_toArray, List.set_cons_zero, List.set_cons_succ])
        refine wpAnyH_take (i := 10) (oi := _) (v := ?_) rfl (by kernel_rfl) (by kernel_rfl) (by kernel_rfl) (fun _ _ _ h => h) (Or.inl ⟨by rfl, ?_⟩) (by assumption) ?_
        rotate_left 1
        · intro w hSw; obtain ⟨⟨s1, s2⟩, s3, s4, s5⟩ := hSw; first | (go_simp; done) | (go_simp; with_reducible rfl)
        change wpAnyH _ _ _ _ _ _ _ (Act.put _ (some 21) _) _
        (try simp only [Act.put, List.setIfInBounds_toArray, List.set_cons_zero, List.set_cons_succ])
        refine wpAnyH_ready (rs := [11]) (by kernel_rfl) (by simp) ?_
        refine AllReadyH.cons (o := _) rfl (fun K hK => ?_) AllReadyH.nil
        go_simp
        (go_at_call 95; with_reducible (refine Calls.mono (HOH.out _ (chain HB0.out hbx)) ?_); rintro e w3 ⟨rfl, hb3⟩; have hbx := chain hbx hb3)
        refine hK.out _ _ (⟨⟨(HX.out _ (chain HB0.out hbx)).1.2.2, HQ0.out _ hbx⟩, HBX.out _ (chain HB0.out hbx)⟩) (fun hHeld11 => ?_)
        (try simp only [Act.put, List.setIfInBounds_toArray, List.set_cons_zero, List.set_cons_succ])
        clear hK K
        refine wpAnyH_take (i := 12) (oi := _) (v := ?_) rfl (by kernel_rfl) (by kernel_rfl) (by kernel_rfl) (fun _ _ _ h => h) (Or.inl ⟨by rfl, ?_⟩) (by assumption) ?_
        rotate_left 1
        · intro w hSw; clear hSw; first | (go_simp; done) | (go_simp; with_reducible rfl)
        change wpAnyH _ _ _ _ _ _ _ (Act.put _ (some 23) _) _
        (try simp only [Act.put, List.setIfInBounds_toArray, List.set_cons_zero, List.set_cons_succ])
        refine wpAnyH_take (i := 13) (oi := _) (v := ?_) rfl (by kernel_rfl) (by kernel_rfl) (by kernel_rfl) (fun _ _ _ h => h) (Or.inl ⟨by rfl, ?_⟩) (by assumption) ?_
        rotate_left 1
        · intro w hSw; clear hSw; first | (go_simp; done) | (go_simp; with_reducible rfl)
        change wpAnyH _ _ _ _ _ _ _ (Act.put _ (some 24) _) _
        (try simp only [Act.put, List.setIfInBounds_toArray, List.set_cons_zero, List.set_cons_succ])
        refine wpAnyH_take (i := 14) (oi := _) (v := ?_) rfl (by kernel_rfl) (by kernel_rfl) (by kernel_rfl) (fun _ _ _ h => h) (Or.inl ⟨by rfl, ?_⟩) (by assumption) ?_
        rotate_left 1
        · intro w hSw; clear hSw; first | (go_simp; done) | (go_simp; with_reducible rfl)
        change wpAnyH _ _ _ _ _ _ _ (Act.put _ (some 25) _) _
        (try simp only [Act.put, List.setIfInBounds_toArray, List.set_cons_zero, List.set_cons_succ])
        refine wpAnyH_take (i := 15) (oi := _) (v := undef) rfl (by kernel_rfl) (by kernel_rfl) (by kernel_rfl) (fun _ _ _ h => h) (Or.inr ⟨by rfl, rfl⟩) (by assumption) ?_
        change wpAnyH _ _ _ _ _ _ _ (Act.put _ (some 26) _) _
        (try simp only [Act.put, List.setIfInBounds_toArray, List.set_cons_zero, List.set_cons_succ])
        refine wpAnyH_take (i := 16) (oi := _) (v := undef) rfl (by kernel_rfl) (by kernel_rfl) (by kernel_rfl) (fun _ _ _ h => h) (Or.inr ⟨by rfl, rfl⟩) (by assumption) ?_
        change wpAnyH _ _ _ _ _ _ _ (Act.put _ (some 27) _) _
        (try simp only [Act.put, List.setIfInBounds_toArray, List.set_cons_zero, List.set_cons_succ])
        refine wpAnyH_take (i := 17) (oi := _) (v := undef) rfl (by kernel_rfl) (by kernel_rfl) (by kernel_rfl) (fun _ _ _ h => h) (Or.inr ⟨by rfl, rfl⟩) (by assumption) ?_
        change wpAnyH _ _ _ _ _ _ _ (Act.put _ (some 28) _) _
        (try simp only [Act.put, List.setIfInBounds_toArray, List.set_cons_zero, List.set_cons_succ])
        refine wpAnyH_take (i := 18) (oi := _) (v := ?_) rfl (by kernel_rfl) (by kernel_rfl) (by kernel_rfl) (fun _ _ _ h => h) (Or.inl ⟨by rfl, ?_⟩) (by assumption) ?_
        rotate_left 1
        · intro w hSw; clear hSw; first | (go_simp; done) | (go_simp; with_reducible rfl)
        change wpAnyH _ _ _ _ _ _ _ (Act.put _ (some 29) _) _
        (try simp only [Act.put, List.setIfInBounds_toArray, List.set_cons_zero, List.set_cons_succ])
        refine wpAnyH_done (by kernel_rfl) ?_ _
        go_wp2
        go_ret
        exact ⟨V, rfl, HB.out _ (chain HB0.out hbx)⟩
      · obtain rfl : m = 0 := by omega
        obtain ⟨b, hb⟩ : ∃ b, b = decide (hasV t.vs r.a) := ⟨_, rfl⟩
        have hbb : hasV t.vs r.a ↔ b = true := by rw [hb, decide_eq_true_iff]
        simp only [← hb] at HV
        cases b
        · have H1 : Hid (one4 t r = (0, T)) := by show _ = _; rw [HONE.out, if_neg (fun q => q.elim (fun q => by rw [hd] at q; cases q) (fun q => q.elim c1 (fun q => by have := hbb.1 q; cases this)))]
          rw [H1.out]
          clear H1 HONE hone c1 hX hC hA hl ha he hd h hs hT hg0 hb0 HO hm hb hbb
          go_enter Tryz.func70, Tryz.ntmps70
          go_wp2_with fail
          rw [← hW0]
          clear hW0
          go_wp2_with (go_at_call 91; with_reducible (refine Calls.mono HC.out ?_); rintro e w1 ⟨rfl, hb1⟩)
          have hbx := hb1.drew
          obtain ⟨⟨x0, x1, x5⟩, f1, f5⟩ := HX.out _ (chain HB0.out hb1)
          obtain ⟨y0, y1, y2⟩ := HBX.out _ (chain HB0.out hb1)
          go_region_held3 (fun W => (W.cell? ⟨g, k * 6 + 5, none⟩ = some (.bool true) ∧ W.cell? ⟨w.heap.size, 0, none⟩ = some (.int .i64 r.a)) ∧ W.cell? ⟨p, 0, none⟩ = some (.slice (some ⟨g, 0, none⟩) t.ts.length V.c1) ∧ W.cell? ⟨p, 1, none⟩ = some (.slice V.A2 t.vs.length V.c2) ∧ W.cell? ⟨p, 2, none⟩ = some (.slice V.A3 t.os.length V.c3))
            (exact ⟨⟨(HX.out _ (chain HB0.out hbx)).1.2.2, HQ0.out _ hbx⟩, HBX.out _ (chain HB0.out hbx)⟩)
            (first
              | (go_at_call 95; with_reducible (refine Calls.mono (HOH.out _ (chain HB0.out hbx)) ?_); rintro e w3 ⟨rfl, hb3⟩; have hbx := chain hbx hb3)
              | (go_at_call 96; with_reducible (refine Calls.mono (HV.out _ (chain HB0.out hbx)) ?_); rintro e w4 ⟨rfl, hb4⟩; have hbx := chain hbx hb4)
              | fail)
          obtain ⟨y0, y1, y2⟩ := HBX.out _ (chain HB0.out hbx)
          go_wp2_with (go_at_call 97; with_reducible (refine Calls.mono (HD.out _ hbx) ?_); rintro e w5 ⟨rfl, hR2⟩; obtain ⟨hq2, hd2, hz2⟩ := HEND.out _ _ (chain HB0.out hbx) hR2; obtain ⟨z1, _, _⟩ := cells3 hq2; have zf := frozen_of_row _ _ 0 _ _ hq2)
          go_ret
          exact ⟨_, rfl, hd2, hz2⟩
        · have H1 : Hid (one4 t r = (10, t)) := by show _ = _; rw [HONE.out, if_pos (.inr (.inr (hbb.2 rfl)))]
          rw [H1.out]
          clear H1 HONE hone c1 hX hC hA hl ha he hd h hs hT hg0 hb0 HO hm hb hbb
          go_enter Tryz.func70, Tryz.ntmps70
          go_wp2_with fail
          rw [← hW0]
          clear hW0
          go_wp2_with (go_at_call 91; with_reducible (refine Calls.mono HC.out ?_); rintro e w1 ⟨rfl, hb1⟩)
          have hbx := hb1.drew
          obtain ⟨⟨x0, x1, x5⟩, f1, f5⟩ := HX.out _ (chain HB0.out hb1)
          obtain ⟨y0, y1, y2⟩ := HBX.out _ (chain HB0.out hb1)
          go_region_held3 (fun W => (W.cell? ⟨g, k * 6 + 5, none⟩ = some (.bool true) ∧ W.cell? ⟨w.heap.size, 0, none⟩ = some (.int .i64 r.a)) ∧ W.cell? ⟨p, 0, none⟩ = some (.slice (some ⟨g, 0, none⟩) t.ts.length V.c1) ∧ W.cell? ⟨p, 1, none⟩ = some (.slice V.A2 t.vs.length V.c2) ∧ W.cell? ⟨p, 2, none⟩ = some (.slice V.A3 t.os.length V.c3))
            (exact ⟨⟨(HX.out _ (chain HB0.out hbx)).1.2.2, HQ0.out _ hbx⟩, HBX.out _ (chain HB0.out hbx)⟩)
            (first
              | (go_at_call 95; with_reducible (refine Calls.mono (HOH.out _ (chain HB0.out hbx)) ?_); rintro e w3 ⟨rfl, hb3⟩; have hbx := chain hbx hb3)
              | (go_at_call 96; with_reducible (refine Calls.mono (HV.out _ (chain HB0.out hbx)) ?_); rintro e w4 ⟨rfl, hb4⟩; have hbx := chain hbx hb4)
              | fail)
          obtain ⟨y0, y1, y2⟩ := HBX.out _ (chain HB0.out hbx)
          go_wp2
          go_ret
          exact ⟨V, rfl, HB.out _ (chain HB0.out hbx)⟩
    · have hd2 : t.ts[k].dying = false := by simpa using hd
      have H1 : Hid (one4 t r = (10, t)) := by show _ = _; rw [HONE.out, if_pos (.inl hd2)]
      rw [H1.out]
      simp only [hd2] at HX
      clear H1 HONE hone hX hC hA hl ha he hd hd2 h hs hg0 hb0
      go_enter Tryz.func70, Tryz.ntmps70
      go_wp2_with fail
      rw [← hW0]
      clear hW0
      go_wp2_with (go_at_call 91; with_reducible (refine Calls.mono HC.out ?_); rintro e w1 ⟨rfl, hb1⟩)
      obtain ⟨⟨x0, x1, x5⟩, f1, f5⟩ := HX.out _ (chain HB0.out hb1)
      go_quiet (fail)
      go_wp2
      go_ret
      exact ⟨V, rfl, HB.out _ (chain HB0.out (below_drewN hb1 nq))⟩
  · have H1 : Hid (one4 t r = (4, t)) := by show one4 t r = _; unfold one4; rw [ha]
    have HC := Lib.hid (h.noT hs hl W0 hb0)
    rw [H1.out]
    clear hl ha H1 h hs hg0 hb0
    go_enter Tryz.func70, Tryz.ntmps70
    go_wp2_with fail
    rw [← hW0]
    clear hW0
    go_wp2_with (go_at_call 91; with_reducible (refine Calls.mono HC.out ?_); rintro e w1 ⟨rfl, hb1⟩)
    go_ret
    exact ⟨V, rfl, HB.out _ (chain HB0.out hb1)⟩

end Go.Proofs.YtbnhkplhmanmoaaGreat
