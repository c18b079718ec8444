/-
  The landed table: setQuota, setBlocks, setBase, giveUp, take, setOwner.
-/
import Derived.Test.YtnenpafofplbhaaGreatTableC11
namespace Go.Proofs.YtnenpafofplbhaaGreat
open Go.RowKit

set_option maxHeartbeats 3200000 in
set_option maxRecDepth 20000 in
/-- 'setQuota'. -/
theorem setQuota_go {lo p : Nat} {w : World} {V : TabW} {t : Tab} (h : DrIn lo w p V t) (hs : t.sound) (r : Rc) (hf : inR r.b 1 64) :
    Calls Tryz.prog 26 #[.pointer (some ⟨p, 0, none⟩), .int .i64 r.a, .int .i64 r.b] w fun e w' => ∃ V', e = .returned (.int .i64 (one2 t r).1) ∧ DrIn lo w' p V' (one2 t r).2 ∧ Below lo w w' := by
  have HB : Hid (∀ X, Below w.heap.size w X → DrIn lo X p V t ∧ Below lo w X) := fun X hb => ⟨h.below hb, hb.mono h.lo_le⟩
  obtain ⟨n1, n2, n3⟩ := sound_few hs
  unfold inR at hf
  rcases ten_cases t.ts r.a with ⟨k, hk, he, hl, ha⟩ | ⟨hl, ha⟩
  · obtain ⟨g, hA, hg, hgl, hX, hC⟩ := h.foundT hs hk he hl
    have HX := Lib.hid hX
    have HC := Lib.hid (hC w (Below.refl _ _))
    have HO := Lib.hid (fun X (hb : Below w.heap.size w X) => owned_any V t r.a X (h.below hb).tab (by omega))
    have HBX := Lib.hid (fun X (hb : Below w.heap.size w X) => (h.below hb).cells)
    have HQ := Lib.hid (fun X (hb : Below w.heap.size w X) => dquotas_any p V.A1 V.c1 t.ts X (h.below hb).cells.1 (h.below hb).tab.ts (by omega) (fun x hx => (hs.ten x hx).1.quota))
    have hsq := sumQ_small (fun x hx => (hs.ten x hx).1.quota) t.ts.length
    rw [List.take_length] at hsq
    have hxq := (hs.ten _ (List.getElem_mem hk)).1.quota
    unfold tabV at HO
    by_cases hd : t.ts[k].dying = true
    · have H1 : Hid (one2 t r = (10, t)) := by
        show one2 t r = _
        unfold one2; rw [ha]
        exact if_pos (.inl hd)
      rw [H1.out]
      simp only [hd] at HX
      clear hX hC hA hl ha he hd H1 h hs HO HQ hsq hxq hf
      go_enter Tryz.func26, Tryz.ntmps26
      go_wp2_with (go_at_call 46; with_reducible (refine Calls.mono HC.out ?_); rintro e w1 ⟨rfl, hb1⟩; obtain ⟨⟨x0, x1, x5⟩, f1, f5⟩ := HX.out _ hb1)
      go_ret
      exact ⟨V, rfl, HB.out _ hb1⟩
    · have hd2 : t.ts[k].dying = false := by simpa using hd
      obtain ⟨m, hm⟩ : ∃ m, m = ownN t.os r.a := ⟨_, rfl⟩
      obtain ⟨s, hsm⟩ : ∃ s, s = sumQ t.ts := ⟨_, rfl⟩
      simp only [← hm] at HO
      simp only [← hsm] at HQ
      rw [← hsm] at hsq
      have hone : one2 t r = if r.b < (m : Int) then (10, t) else if (t.os.length : Int) < s - t.ts[k].quota + r.b then (6, t) else (0, { t with ts := t.ts.set k { t.ts[k] with quota := r.b } }) := by
        unfold one2
        rw [ha]
        show (if t.ts[k].dying = true ∨ r.b < (ownN t.os r.a : Int) then _ else _) = _
        rw [← hm, ← hsm]
        by_cases h1 : r.b < (m : Int)
        · rw [if_pos (.inr h1), if_pos h1]
        · rw [if_neg (fun q => q.elim hd h1), if_neg h1, updK_set Ten.id (fun x => { x with quota := r.b }) hk hs.up he]
      have HS : Hid (∀ X, Below w.heap.size w X → DrIn lo (X.setCell ⟨g, k * 6 + 1, none⟩ (.int .i64 r.b)) p V { t with ts := t.ts.set k { t.ts[k] with quota := r.b } } ∧ Below lo w (X.setCell ⟨g, k * 6 + 1, none⟩ (.int .i64 r.b))) := fun X hb => by
        have q := (h.below hb).setT hA hk (j := 1) (by decide) (.int .i64 r.b) { t.ts[k] with quota := r.b } rfl
        exact ⟨q.1, (hb.mono h.lo_le).trans (q.2.mono (Nat.le_refl _))⟩
      obtain ⟨T, hT⟩ : ∃ T, T = { t with ts := t.ts.set k { t.ts[k] with quota := r.b } } := ⟨_, rfl⟩
      rw [← hT] at HS hone
      have HONE := Lib.hid hone
      obtain ⟨xq, hxqq⟩ : ∃ x, x = t.ts[k].quota := ⟨_, rfl⟩
      obtain ⟨xi, hxi⟩ : ∃ x, x = t.ts[k].id := ⟨_, rfl⟩
      obtain ⟨N1, hN1⟩ : ∃ x, x = t.ts.length := ⟨_, rfl⟩
      obtain ⟨N2, hN2⟩ : ∃ x, x = t.vs.length := ⟨_, rfl⟩
      obtain ⟨N3, hN3⟩ : ∃ x, x = t.os.length := ⟨_, rfl⟩
      rw [← hxqq] at HONE hxq
      simp only [hd2, ← hxqq, ← hxi] at HX
      rw [← hN3] at HONE n3
      rw [← hN1] at n1 hsq
      simp only [← hN1, ← hN2, ← hN3] at HO HBX
      obtain ⟨ra, hra⟩ : ∃ x, x = r.a := ⟨_, rfl⟩
      obtain ⟨rb, hrb⟩ : ∃ x, x = r.b := ⟨_, rfl⟩
      rw [← hra] at HC
      simp only [← hra] at HO
      rw [← hrb] at hf HONE
      simp only [← hrb] at HS
      rw [← hra, ← hrb]
      obtain ⟨b0, b1⟩ := hf
      obtain ⟨s0, s1⟩ := hsq
      obtain ⟨q0, q1⟩ := hxq
      have v1 : IntKind.i64.wrap (s - xq) = s - xq := IntWalk.i64_in _ (by omega)
      have v2 : IntKind.i64.wrap (s - xq + rb) = s - xq + rb := IntWalk.i64_in _ (by omega)
      have HV1 := Lib.hid v1
      have HV2 := Lib.hid v2
      clear hX hC hA hl ha he hd hd2 h hs hT hone hm hsm hxqq hxi hN1 hN2 hN3 hra hrb n1 n2 n3 hg hgl hk v1 v2
      by_cases c1 : rb < (m : Int)
      · have H1 : Hid (one2 t r = (10, t)) := by show _ = _; rw [HONE.out, if_pos c1]
        rw [H1.out]
        have d1 : (m : Int) > rb := c1
        clear H1 HONE c1 b0 b1 s0 s1 q0 q1
        go_enter Tryz.func26, Tryz.ntmps26
        go_wp2_with (first
          | (go_at_call 46; with_reducible (refine Calls.mono HC.out ?_); rintro e w1 ⟨rfl, hb1⟩; obtain ⟨⟨x0, x1, x5⟩, f1, f5⟩ := HX.out _ hb1; obtain ⟨y0, y1, y2⟩ := HBX.out _ hb1)
          | (go_at_call 17; with_reducible (refine Calls.mono (HO.out _ hb1) ?_); rintro e w2 ⟨rfl, hb2⟩))
        go_ret
        exact ⟨V, rfl, HB.out _ (chain hb1 hb2)⟩
      · by_cases c2 : (N3 : Int) < s - xq + rb
        all_goals
          first
            | (have H1 : Hid (one2 t r = (6, t)) := by show _ = _; rw [HONE.out, if_neg c1, if_pos c2])
            | (have H1 : Hid (one2 t r = (0, T)) := by show _ = _; rw [HONE.out, if_neg c1, if_neg c2])
          rw [H1.out]
          have d1 : ¬ (m : Int) > rb := c1
          first
            | (have d2 : s - xq + rb > (N3 : Int) := c2)
            | (have d2 : ¬ s - xq + rb > (N3 : Int) := c2)
          have v1 := HV1.out
          have v2 := HV2.out
          clear H1 HONE c1 c2 b0 b1 s0 s1 q0 q1
          go_enter Tryz.func26, Tryz.ntmps26
          go_wp2_with (first
            | (go_at_call 46; with_reducible (refine Calls.mono HC.out ?_); rintro e w1 ⟨rfl, hb1⟩; obtain ⟨⟨x0, x1, x5⟩, f1, f5⟩ := HX.out _ hb1; obtain ⟨y0, y1, y2⟩ := HBX.out _ hb1)
            | (go_at_call 17; with_reducible (refine Calls.mono (HO.out _ hb1) ?_); rintro e w2 ⟨rfl, hb2⟩; have hx2 := chain hb1 hb2; obtain ⟨⟨x0, x1, x5⟩, f1, f5⟩ := HX.out _ hx2; obtain ⟨y0, y1, y2⟩ := HBX.out _ hx2))
          have hbx := hx2.drew
          go_region_held3 (fun W => W.cell? ⟨g, k * 6 + 1, none⟩ = some (.int .i64 xq) ∧ W.cell? ⟨p, 2, none⟩ = some (.slice V.A3 N3 V.c3))
            (exact ⟨(HX.out _ hbx).1.2.1, (HBX.out _ hbx).2.2⟩)
            (first
              | (go_at_call 47; with_reducible (refine Calls.mono (HQ.out _ hbx) ?_); rintro e w3 ⟨rfl, hb3⟩; have hbx := chain hbx hb3)
              | fail)
          obtain ⟨⟨x0, x1, x5⟩, f1, f5⟩ := HX.out _ hbx
          go_wp2
          go_ret
          first
            | exact ⟨V, rfl, HB.out _ hbx⟩
            | exact ⟨V, rfl, HS.out _ hbx⟩
  · have H1 : Hid (one2 t r = (4, t)) := by show one2 t r = _; unfold one2; rw [ha]
    have HC := Lib.hid (h.noT hs hl w (Below.refl _ _))
    rw [H1.out]
    clear hl ha H1 h hs n1 n2 n3 hf
    go_enter Tryz.func26, Tryz.ntmps26
    go_wp2_with (go_at_call 46; with_reducible (refine Calls.mono HC.out ?_); rintro e w1 ⟨rfl, hb1⟩)
    go_ret
    exact ⟨V, rfl, HB.out _ hb1⟩

set_option maxHeartbeats 1600000 in
/-- 'setBlocks'. -/
theorem setBlocks_go {lo p : Nat} {w : World} {V : TabW} {t : Tab} (h : DrIn lo w p V t) (hs : t.sound) (r : Rc) :
    Calls Tryz.prog 30 #[.pointer (some ⟨p, 0, none⟩), .int .i64 r.a, .int .i64 r.b] w fun e w' => ∃ V', e = .returned (.int .i64 (one6 t r).1) ∧ DrIn lo w' p V' (one6 t r).2 ∧ Below lo w w' := by
  have HB : Hid (∀ X, Below w.heap.size w X → DrIn lo X p V t ∧ Below lo w X) := fun X hb => ⟨h.below hb, hb.mono h.lo_le⟩
  rcases vol_cases t.vs r.a with ⟨k, hk, he, hl, ha⟩ | ⟨hl, ha⟩
  · obtain ⟨g, hA, hg, hgl, hX, hC⟩ := h.foundV hs hk he hl
    have HX := Lib.hid hX
    have HC := Lib.hid (hC w (Below.refl _ _))
    have H1 : Hid (one6 t r = (0, { t with vs := t.vs.set k { t.vs[k] with blocks := r.b } })) := by
      show one6 t r = _
      unfold one6; rw [ha]
      show (_, _) = _
      rw [updK_set Vol.id (fun x => { x with blocks := r.b }) hk hs.vup he]
    have HS : Hid (∀ X, Below w.heap.size w X → DrIn lo (X.setCell ⟨g, k * 4 + 2, none⟩ (.int .i64 r.b)) p V { t with vs := t.vs.set k { t.vs[k] with blocks := r.b } } ∧ Below lo w (X.setCell ⟨g, k * 4 + 2, none⟩ (.int .i64 r.b))) := fun X hb => by
      have q := (h.below hb).setV hA hk (j := 2) (by decide) (.int .i64 r.b) { t.vs[k] with blocks := r.b } rfl
      exact ⟨q.1, (hb.mono h.lo_le).trans (q.2.mono (Nat.le_refl _))⟩
    rw [H1.out]
    obtain ⟨T, hT⟩ : ∃ T, T = { t with vs := t.vs.set k { t.vs[k] with blocks := r.b } } := ⟨_, rfl⟩
    rw [← hT] at HS ⊢
    clear hX hC hA hl ha he H1 h hs hT HB
    go_enter Tryz.func30, Tryz.ntmps30
    go_wp2_with (go_at_call 53; with_reducible (refine Calls.mono HC.out ?_); rintro e w1 ⟨rfl, hb1⟩; obtain ⟨⟨x2, x3⟩, f2, f3⟩ := HX.out _ hb1)
    go_ret
    exact ⟨V, rfl, HS.out _ hb1⟩
  · have H1 : Hid (one6 t r = (4, t)) := by show one6 t r = _; unfold one6; rw [ha]
    have HC := Lib.hid (h.noV hs hl w (Below.refl _ _))
    rw [H1.out]
    clear hl ha H1 h hs
    go_enter Tryz.func30, Tryz.ntmps30
    go_wp2_with (go_at_call 53; with_reducible (refine Calls.mono HC.out ?_); rintro e w1 ⟨rfl, hb1⟩)
    go_ret
    exact ⟨V, rfl, HB.out _ hb1⟩

set_option maxHeartbeats 1600000 in
/-- 'setBase'. -/
theorem setBase_go {lo p : Nat} {w : World} {V : TabW} {t : Tab} (h : DrIn lo w p V t) (hs : t.sound) (r : Rc) :
    Calls Tryz.prog 32 #[.pointer (some ⟨p, 0, none⟩), .int .i64 r.a, .int .i64 r.b] w fun e w' => ∃ V', e = .returned (.int .i64 (one8 t r).1) ∧ DrIn lo w' p V' (one8 t r).2 ∧ Below lo w w' := by
  have HB : Hid (∀ X, Below w.heap.size w X → DrIn lo X p V t ∧ Below lo w X) := fun X hb => ⟨h.below hb, hb.mono h.lo_le⟩
  rcases vol_cases t.vs r.a with ⟨k, hk, he, hl, ha⟩ | ⟨hl, ha⟩
  · obtain ⟨g, hA, hg, hgl, hX, hC⟩ := h.foundV hs hk he hl
    have HX := Lib.hid hX
    have HC := Lib.hid (hC w (Below.refl _ _))
    have hone : one8 t r = if r.b < t.vs[k].base then (7, t) else (0, { t with vs := t.vs.set k { t.vs[k] with base := r.b } }) := by
      unfold one8; rw [ha]
      show (if r.b < t.vs[k].base then _ else _) = _
      rw [updK_set Vol.id (fun x => { x with base := r.b }) hk hs.vup he]
    have HS : Hid (∀ X, Below w.heap.size w X → DrIn lo (X.setCell ⟨g, k * 4 + 3, none⟩ (.int .i64 r.b)) p V { t with vs := t.vs.set k { t.vs[k] with base := r.b } } ∧ Below lo w (X.setCell ⟨g, k * 4 + 3, none⟩ (.int .i64 r.b))) := fun X hb => by
      have q := (h.below hb).setV hA hk (j := 3) (by decide) (.int .i64 r.b) { t.vs[k] with base := r.b } rfl
      exact ⟨q.1, (hb.mono h.lo_le).trans (q.2.mono (Nat.le_refl _))⟩
    obtain ⟨T, hT⟩ : ∃ T, T = { t with vs := t.vs.set k { t.vs[k] with base := r.b } } := ⟨_, rfl⟩
    rw [← hT] at HS hone
    obtain ⟨xb, hxb⟩ : ∃ x, x = t.vs[k].base := ⟨_, rfl⟩
    rw [← hxb] at hone
    simp only [← hxb] at HX
    have HONE := Lib.hid hone
    clear hX hC hA hl ha he h hs hT hone hxb
    by_cases c : r.b < xb
    all_goals
      first
        | (have H1 : Hid (one8 t r = (7, t)) := by show _ = _; rw [HONE.out, if_pos c])
        | (have H1 : Hid (one8 t r = (0, T)) := by show _ = _; rw [HONE.out, if_neg c])
      rw [H1.out]
      clear H1 HONE
      go_enter Tryz.func32, Tryz.ntmps32
      go_wp2_with (go_at_call 53; with_reducible (refine Calls.mono HC.out ?_); rintro e w1 ⟨rfl, hb1⟩; obtain ⟨⟨x2, x3⟩, f2, f3⟩ := HX.out _ hb1)
      go_ret
      first
        | exact ⟨V, rfl, HB.out _ hb1⟩
        | exact ⟨V, rfl, HS.out _ hb1⟩
  · have H1 : Hid (one8 t r = (4, t)) := by show one8 t r = _; unfold one8; rw [ha]
    have HC := Lib.hid (h.noV hs hl w (Below.refl _ _))
    rw [H1.out]
    clear hl ha H1 h hs
    go_enter Tryz.func32, Tryz.ntmps32
    go_wp2_with (go_at_call 53; with_reducible (refine Calls.mono HC.out ?_); rintro e w1 ⟨rfl, hb1⟩)
    go_ret
    exact ⟨V, rfl, HB.out _ hb1⟩

set_option maxHeartbeats 1600000 in
/-- 'giveUp'. -/
theorem giveUp_go {lo p : Nat} {w : World} {V : TabW} {t : Tab} (h : DrIn lo w p V t) (r : Rc) (k : Nat) (hk : k < t.os.length) (ha : r.a = k) (hb : r.b = 0) :
    Calls Tryz.prog 58 #[.pointer (some ⟨p, 0, none⟩), .int .i64 r.a] w fun e w' => ∃ V', e = .returned (.int .i64 (one9 t r).1) ∧ DrIn lo w' p V' (one9 t r).2 ∧ Below lo w w' := by
  obtain ⟨g, hA, hg, hgl, hX⟩ := h.foundO hk
  obtain ⟨x0, f0⟩ := hX w (Below.refl _ _)
  obtain ⟨c0, c1, c2⟩ := h.cells
  rw [hA] at c2
  have hgd : t.os.getD k 0 = t.os[k] := by simp [List.getD, hk]
  have hone : one9 t r = if t.os[k] = 0 then (4, t) else (0, { t with os := t.os.set k 0 }) := by
    unfold one9
    rw [if_neg (by omega), if_pos hb, ha, Int.toNat_natCast, hgd]
  have HS := Lib.hid (h.setO hA hk 0)
  have HB : Hid (DrIn lo w p V t ∧ Below lo w w) := ⟨h, Below.refl _ _⟩
  obtain ⟨T, hT⟩ : ∃ T, T = { t with os := t.os.set k 0 } := ⟨_, rfl⟩
  rw [← hT] at HS hone
  obtain ⟨o, ho⟩ : ∃ o, o = t.os[k] := ⟨_, rfl⟩
  rw [← ho] at hone x0
  obtain ⟨N3, hN3⟩ : ∃ N, N = t.os.length := ⟨_, rfl⟩
  rw [← hN3] at c2 hk
  have HONE := Lib.hid hone
  have k1 : (k : Int) < (N3 : Int) := by omega
  have k0 : (0 : Int) ≤ (k : Int) := by omega
  rw [ha]
  clear hone hT ho hX h hA hgd hN3 hg hgl hk ha hb
  by_cases c : o = 0
  · have H1 : Hid (one9 t r = (4, t)) := by show _ = _; rw [HONE.out, if_pos c]
    rw [H1.out]
    have d : (o == 0) = true := beq_iff_eq.2 c
    clear H1 HONE c
    go_enter Tryz.func58, Tryz.ntmps58
    go_wp2
    go_ret
    exact ⟨V, rfl, HB.out⟩
  · have H1 : Hid (one9 t r = (0, T)) := by show _ = _; rw [HONE.out, if_neg c]
    rw [H1.out]
    have d : (o == 0) = false := beq_eq_false_iff_ne.2 c
    clear H1 HONE c
    go_enter Tryz.func58, Tryz.ntmps58
    go_wp2
    go_ret
    exact ⟨V, rfl, HS.out⟩

end Go.Proofs.YtnenpafofplbhaaGreat
