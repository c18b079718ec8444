/-
  The landed table: take, setOwner.
-/
import Derived.Test.YtnenpafofplbhaaGreatTableC12
namespace Go.Proofs.YtnenpafofplbhaaGreat
open Go.RowKit

set_option maxHeartbeats 3200000 in
set_option maxRecDepth 20000 in
/-- 'take'. -/
theorem take_go {lo p : Nat} {w : World} {V : TabW} {t : Tab} (h : DrIn lo w p V t) (hs : t.sound) (r : Rc) (k : Nat) (hk : k < t.os.length) (ha : r.a = k) (hb : r.b ≠ 0) :
    Calls Tryz.prog 59 #[.pointer (some ⟨p, 0, none⟩), .int .i64 r.a, .int .i64 r.b] w fun e w' => ∃ V', e = .returned (.int .i64 (one9 t r).1) ∧ DrIn lo w' p V' (one9 t r).2 ∧ Below lo w w' := by
  have HB : Hid (∀ X, Below w.heap.size w X → DrIn lo X p V t ∧ Below lo w X) := fun X hb => ⟨h.below hb, hb.mono h.lo_le⟩
  obtain ⟨n1, n2, n3⟩ := sound_few hs
  obtain ⟨g, hA, hg, hgl, hX⟩ := h.foundO hk
  have hgd : t.os.getD k 0 = t.os[k] := by simp [List.getD, hk]
  have HXO := Lib.hid hX
  have HBX : ∀ X, Below w.heap.size w X → X.cell? ⟨p, 0, none⟩ = some (.slice V.A1 t.ts.length V.c1) ∧ X.cell? ⟨p, 1, none⟩ = some (.slice V.A2 t.vs.length V.c2) ∧ X.cell? ⟨p, 2, none⟩ = some (.slice (some ⟨g, 0, none⟩) t.os.length V.c3) := fun X hb => by
    have q := (h.below hb).cells
    rwa [hA] at q
  have HO : ∀ X, Below w.heap.size w X → Calls Tryz.prog 17 #[.agg #[.slice V.A1 t.ts.length V.c1, .slice V.A2 t.vs.length V.c2, .slice (some ⟨g, 0, none⟩) t.os.length V.c3], .int .i64 r.b] X fun e w' => e = .returned (.int .i64 (ownN t.os r.b : Nat)) ∧ Below X.heap.size X w' := fun X hb => by
    have q := owned_any V t r.b X (h.below hb).tab (by omega)
    unfold tabV at q
    rwa [hA] at q
  have HS : ∀ X, Below w.heap.size w X → DrIn lo (X.setCell ⟨g, k, none⟩ (.int .i64 r.b)) p V { t with os := t.os.set k r.b } ∧ Below lo w (X.setCell ⟨g, k, none⟩ (.int .i64 r.b)) := fun X hb => by
    have q := (h.below hb).setO hA hk r.b
    exact ⟨q.1, (hb.mono h.lo_le).trans (q.2.mono (Nat.le_refl _))⟩
  have hhead : ¬ (t.os.length : Int) ≤ r.a := by omega
  rcases ten_cases t.ts r.b with ⟨j, hj, he, hl, hat⟩ | ⟨hl, hat⟩
  · obtain ⟨g1, hA1, _, _, hX1, hC⟩ := h.foundT hs hj he hl
    have hone : one9 t r = if t.ts[j].dying = true then (10, t) else if t.os[k] ≠ 0 then (5, t) else if t.ts[j].quota ≤ (ownN t.os r.b : Nat) then (6, t) else (0, { t with os := t.os.set k r.b }) := by
      unfold one9
      rw [if_neg hhead, if_neg hb, hat]
      show (if t.ts[j].dying = true then _ else if t.os.getD r.a.toNat 0 ≠ 0 then _ else if t.ts[j].quota ≤ (ownN t.os r.b : Nat) then _ else _) = _
      rw [ha, Int.toNat_natCast, hgd]
    obtain ⟨T, hT⟩ : ∃ T, T = { t with os := t.os.set k r.b } := ⟨_, rfl⟩
    rw [← hT] at HS hone
    obtain ⟨m, hm⟩ : ∃ m, m = ownN t.os r.b := ⟨_, rfl⟩
    rw [← hm] at HO hone
    obtain ⟨o, ho⟩ : ∃ o, o = t.os[k] := ⟨_, rfl⟩
    obtain ⟨xq, hxq⟩ : ∃ x, x = t.ts[j].quota := ⟨_, rfl⟩
    obtain ⟨xi, hxi⟩ : ∃ x, x = t.ts[j].id := ⟨_, rfl⟩
    obtain ⟨xd, hxd⟩ : ∃ x, x = t.ts[j].dying := ⟨_, rfl⟩
    rw [← ho, ← hxq, ← hxd] at hone
    simp only [← ho] at HXO
    simp only [← hxq, ← hxi, ← hxd] at hX1
    obtain ⟨N1, hN1⟩ : ∃ x, x = t.ts.length := ⟨_, rfl⟩
    obtain ⟨N2, hN2⟩ : ∃ x, x = t.vs.length := ⟨_, rfl⟩
    obtain ⟨N3, hN3⟩ : ∃ x, x = t.os.length := ⟨_, rfl⟩
    simp only [← hN1, ← hN2, ← hN3] at HO HBX
    rw [← hN3] at hk n3
    have k1 : (k : Int) < (N3 : Int) := by omega
    have k0 : (0 : Int) ≤ (k : Int) := by omega
    have HX1 := Lib.hid hX1
    have HC := Lib.hid (hC w (Below.refl _ _))
    have HOH := Lib.hid HO
    have HBH := Lib.hid HBX
    have HSH := Lib.hid HS
    have HONE := Lib.hid hone
    obtain ⟨rb, hrb⟩ : ∃ x, x = r.b := ⟨_, rfl⟩
    rw [← hrb] at HOH HSH HC
    rw [ha, ← hrb]
    clear hX hX1 hC hone HO HBX HS hT hm ho hxq hxi hxd hN1 hN2 hN3 hrb he hl hat hhead hgd hA hA1 h hs n1 n2 n3 hg hgl hk ha hb
    cases xd
    · by_cases c1 : o = 0
      · have d1 : (o != 0) = false := by rw [c1]; rfl
        have d1b : (o == 0) = true := by rw [c1]; rfl
        by_cases c2 : xq ≤ (m : Int)
        all_goals
          first
            | (have H1 : Hid (one9 t r = (6, t)) := by show _ = _; rw [HONE.out, if_neg (by decide), if_neg (fun q => q c1), if_pos c2])
            | (have H1 : Hid (one9 t r = (0, T)) := by show _ = _; rw [HONE.out, if_neg (by decide), if_neg (fun q => q c1), if_neg c2])
          rw [H1.out]
          clear H1 HONE c1
          go_enter Tryz.func59, Tryz.ntmps59
          go_wp2_with (go_at_call 46; with_reducible (refine Calls.mono HC.out ?_); rintro e w1 ⟨rfl, hb1⟩; obtain ⟨⟨x0, x1, x5⟩, f1, f5⟩ := HX1.out _ hb1; obtain ⟨y0, y1, y2⟩ := HBH.out _ hb1; obtain ⟨z0, z1⟩ := HXO.out _ hb1)
          have hbx := hb1.drew
          go_region_held3 (fun W => W.cell? ⟨g1, j * 6 + 1, none⟩ = some (.int .i64 xq) ∧ W.cell? ⟨p, 0, none⟩ = some (.slice V.A1 N1 V.c1) ∧ W.cell? ⟨p, 1, none⟩ = some (.slice V.A2 N2 V.c2) ∧ W.cell? ⟨p, 2, none⟩ = some (.slice (some ⟨g, 0, none⟩) N3 V.c3))
            (exact ⟨(HX1.out _ hbx).1.2.1, HBH.out _ hbx⟩)
            (first
              | (go_at_call 17; with_reducible (refine Calls.mono (HOH.out _ hbx) ?_); rintro e w3 ⟨rfl, hb3⟩; have hbx := chain hbx hb3)
              | fail)
          obtain ⟨y0, y1, y2⟩ := HBH.out _ hbx
          obtain ⟨z0, z1⟩ := HXO.out _ hbx
          go_wp2
          go_ret
          first
            | exact ⟨V, rfl, HB.out _ hbx⟩
            | exact ⟨V, rfl, HSH.out _ hbx⟩
      · have d1 : (o != 0) = true := bne_iff_ne.2 c1
        have d1b : (o == 0) = false := beq_eq_false_iff_ne.2 c1
        have H1 : Hid (one9 t r = (5, t)) := by show _ = _; rw [HONE.out, if_neg (by decide), if_pos c1]
        rw [H1.out]
        clear H1 HONE c1
        go_enter Tryz.func59, Tryz.ntmps59
        go_wp2_with (go_at_call 46; with_reducible (refine Calls.mono HC.out ?_); rintro e w1 ⟨rfl, hb1⟩; obtain ⟨⟨x0, x1, x5⟩, f1, f5⟩ := HX1.out _ hb1; obtain ⟨y0, y1, y2⟩ := HBH.out _ hb1; obtain ⟨z0, z1⟩ := HXO.out _ hb1)
        go_ret
        exact ⟨V, rfl, HB.out _ hb1⟩
    · have H1 : Hid (one9 t r = (10, t)) := by show _ = _; rw [HONE.out, if_pos rfl]
      rw [H1.out]
      clear H1 HONE
      go_enter Tryz.func59, Tryz.ntmps59
      go_wp2_with (go_at_call 46; with_reducible (refine Calls.mono HC.out ?_); rintro e w1 ⟨rfl, hb1⟩; obtain ⟨⟨x0, x1, x5⟩, f1, f5⟩ := HX1.out _ hb1)
      go_ret
      exact ⟨V, rfl, HB.out _ hb1⟩
  · have H1 : Hid (one9 t r = (4, t)) := by
      show one9 t r = _
      unfold one9
      rw [if_neg hhead, if_neg hb, hat]
    have HC := Lib.hid (h.noT hs hl w (Below.refl _ _))
    rw [H1.out]
    clear hl hat H1 h hs n1 n2 n3 hA hg hgl hX hgd HXO HBX HO HS hhead hk ha hb
    go_enter Tryz.func59, Tryz.ntmps59
    go_wp2_with (go_at_call 46; with_reducible (refine Calls.mono HC.out ?_); rintro e w1 ⟨rfl, hb1⟩)
    go_ret
    exact ⟨V, rfl, HB.out _ hb1⟩

set_option maxHeartbeats 1600000 in
/-- 'setOwner'. -/
theorem setOwner_go {lo p : Nat} {w : World} {V : TabW} {t : Tab} (h : DrIn lo w p V t) (hs : t.sound) (r : Rc) (hf : inR r.a 0 63) :
    Calls Tryz.prog 33 #[.pointer (some ⟨p, 0, none⟩), .int .i64 r.a, .int .i64 r.b] w fun e w' => ∃ V', e = .returned (.int .i64 (one9 t r).1) ∧ DrIn lo w' p V' (one9 t r).2 ∧ Below lo w w' := by
  have hn := (sound_few hs).2.2
  unfold inR at hf
  obtain ⟨k, hk⟩ : ∃ k : Nat, r.a = k := ⟨r.a.toNat, by omega⟩
  obtain ⟨c0, c1, c2⟩ := h.cells
  by_cases hge : (t.os.length : Int) ≤ r.a
  · have H1 : Hid (one9 t r = (7, t)) := by show one9 t r = _; unfold one9; rw [if_pos hge]
    rw [H1.out]
    have HB : Hid (DrIn lo w p V t ∧ Below lo w w) := ⟨h, Below.refl _ _⟩
    obtain ⟨N3, hN3⟩ : ∃ x, x = t.os.length := ⟨_, rfl⟩
    rw [← hN3] at c2 hge
    obtain ⟨ra, hra⟩ : ∃ x, x = r.a := ⟨_, rfl⟩
    rw [← hra] at hge
    rw [← hra]
    have d : ra ≥ (N3 : Int) := hge
    clear H1 h hs hn hf hk hN3 hra hge
    go_enter Tryz.func33, Tryz.ntmps33
    go_wp2
    go_ret
    exact ⟨V, rfl, HB.out⟩
  · have hkl : k < t.os.length := by omega
    by_cases hb : r.b = 0
    · have HC := Lib.hid (giveUp_go h r k hkl hk hb)
      obtain ⟨N3, hN3⟩ : ∃ x, x = t.os.length := ⟨_, rfl⟩
      rw [← hN3] at c2 hge
      obtain ⟨ra, hra⟩ : ∃ x, x = r.a := ⟨_, rfl⟩
      obtain ⟨rb, hrb⟩ : ∃ x, x = r.b := ⟨_, rfl⟩
      rw [← hra] at hge HC
      rw [← hra, ← hrb]
      rw [← hrb] at hb
      have d : ¬ ra ≥ (N3 : Int) := hge
      have d2 : (rb == 0) = true := beq_iff_eq.2 hb
      clear h hs hn hf hk hN3 hra hge hrb hb hkl
      go_enter Tryz.func33, Tryz.ntmps33
      go_wp2_with (go_at_call 58; with_reducible (refine Calls.mono HC.out ?_); rintro e w1 ⟨V1, rfl, hd1, hb1⟩)
      go_ret
      exact ⟨V1, rfl, hd1, hb1⟩
    · have HC := Lib.hid (take_go h hs r k hkl hk hb)
      obtain ⟨N3, hN3⟩ : ∃ x, x = t.os.length := ⟨_, rfl⟩
      rw [← hN3] at c2 hge
      obtain ⟨ra, hra⟩ : ∃ x, x = r.a := ⟨_, rfl⟩
      obtain ⟨rb, hrb⟩ : ∃ x, x = r.b := ⟨_, rfl⟩
      rw [← hra, ← hrb] at HC
      rw [← hra] at hge
      rw [← hra, ← hrb]
      rw [← hrb] at hb
      have d : ¬ ra ≥ (N3 : Int) := hge
      have d2 : (rb == 0) = false := beq_eq_false_iff_ne.2 hb
      clear h hs hn hf hk hN3 hra hge hrb hb hkl
      go_enter Tryz.func33, Tryz.ntmps33
      go_wp2_with (go_at_call 59; with_reducible (refine Calls.mono HC.out ?_); rintro e w1 ⟨V1, rfl, hd1, hb1⟩)
      go_ret
      exact ⟨V1, rfl, hd1, hb1⟩

end Go.Proofs.YtnenpafofplbhaaGreat
