/-
  The document's own own (stowageref16). The document's own volume (stowageref16). The document's own tenant (stowageref16). The document's own tenant (stowageref16): a quota. The document's own tenant (stowageref16): a tenant that goes.
-/
import Derived.Test.YtnenpafofplbhaaGreatTableSlG
import Derived.Test.YtnenpafofplbhaaGreatTabDelN
namespace Go.Proofs.YtnenpafofplbhaaGreat
open Go.RowKit

set_option maxHeartbeats 6400000 in
set_option maxRecDepth 20000 in
/-- 'own'. -/
theorem docOwn_any {lo : Nat} {w : World} {t : Tab} (A1 : Option Addr) (c1 : Nat) (A2 : Option Addr) (c2 : Nat) (A3 : Option Addr) (c3 : Nat) (h : RowsSl lo w ⟨A1, c1, A2, c2, A3, c3⟩ t) (hl : lo ≤ w.heap.size) (hs : t.sound) (rk ra rb rc rd : Int) (key : ByteArray) (k : Nat) (hka : ra = k) (V0 : TabW) (hV0 : V0 = ⟨A1, c1, A2, c2, A3, c3⟩) :
    Calls Tryz.prog 42 #[.agg #[.slice A1 t.ts.length c1, .slice A2 t.vs.length c2, .slice A3 t.os.length c3], .agg #[.int .i64 rk, .int .i64 ra, .int .i64 rb, .int .i64 rc, .int .i64 rd, .string key]] w (OneAns lo w V0 (one9 t ⟨rk, ra, rb, rc, rd, key⟩)) := by
  obtain ⟨n1, n2, n3⟩ := sound_few hs
  obtain ⟨W0, hW0, S0⟩ := bx3_start hV0 h hl rk ra rb rc rd key
  clear hV0
  subst hka
  obtain ⟨N1, HN1⟩ : ∃ N, Hid (t.ts.length = N) := ⟨_, rfl⟩
  obtain ⟨N2, HN2⟩ : ∃ N, Hid (t.vs.length = N) := ⟨_, rfl⟩
  obtain ⟨N3, HN3⟩ : ∃ N, Hid (t.os.length = N) := ⟨_, rfl⟩
  have HALL : Hid (∀ X, Below W0.heap.size W0 X → AllAt w X A1 N1 c1 A2 N2 c2 A3 N3 c3 rk (k : Int) rb rc rd key) := fun X hb => (S0.later hb).all HN1.out HN2.out HN3.out
  have HFIN : Hid (∀ X, Below W0.heap.size W0 X → FinAt lo w V0 X A1 N1 c1 A2 N2 c2 A3 N3 c3 t) := fun X hb => (S0.later hb).fin HN1.out HN2.out HN3.out
  have HTE : Hid (∀ X, Below W0.heap.size W0 X → Calls Tryz.prog 37 #[.agg #[.slice A1 N1 c1, .slice A2 N2 c2, .slice A3 N3 c3], .int .i64 rb] X fun e w' => e = .returned (.int .i64 (tenI t.ts rb)) ∧ Below X.heap.size X w') := fun X hb => by
    have q := refTen_any ⟨A1, c1, A2, c2, A3, c3⟩ t rb X (S0.later hb).bx.tab (by omega)
    unfold tabV at q
    rwa [HN1.out, HN2.out, HN3.out] at q
  have HOW : Hid (∀ X, Below W0.heap.size W0 X → Calls Tryz.prog 36 #[.agg #[.slice A1 N1 c1, .slice A2 N2 c2, .slice A3 N3 c3], .int .i64 rb] X fun e w' => e = .returned (.int .i64 (ownN t.os rb : Nat)) ∧ Below X.heap.size X w') := fun X hb => by
    have q := refOwn_any ⟨A1, c1, A2, c2, A3, c3⟩ t rb X (S0.later hb).bx.tab (by omega)
    unfold tabV at q
    rwa [HN1.out, HN2.out, HN3.out] at q
  have H9 : one9 t ⟨rk, (k : Int), rb, rc, rd, key⟩ = (if (t.os.length : Int) ≤ (k : Int) then (7, t) else if rb = 0 then if t.os.getD k 0 = 0 then (4, t) else (0, { t with os := t.os.set k 0 }) else match tenAt t.ts rb with
    | none => (4, t)
    | some x => if x.dying = true then (10, t) else if t.os.getD k 0 ≠ 0 then (5, t) else if x.quota ≤ ownN t.os rb then (6, t) else (0, { t with os := t.os.set k rb }) : Int × Tab) := by
    unfold one9
    simp only [Int.toNat_natCast]
    rfl
  rw [HN1.out, HN2.out, HN3.out] at hW0 ⊢
  rw [HN3.out] at H9 n3
  have HW0 := Lib.hid hW0
  have HOLD := Lib.hid H9
  obtain ⟨y0, y1, y2, r0, r1, r2, r3, r4, r5, s0, s1, s2, sf0, sf1, sf2, pf0, pf1⟩ := HALL.out W0 (Below.refl _ _)
  have HS0 := Lib.hid S0
  have HB0 : Hid (Below W0.heap.size W0 W0) := Below.refl _ _
  have ra0 : (0 : Int) ≤ (k : Int) := by omega
  by_cases hge : (N3 : Int) ≤ (k : Int)
  · have HE : Hid (one9 t ⟨rk, (k : Int), rb, rc, rd, key⟩ = (7, t)) := by show _ = _; rw [H9, if_pos hge]
    rw [HE.out]
    have d : (k : Int) ≥ (N3 : Int) := hge
    clear HE H9 HOLD HTE HOW h hl hs hge S0 hW0 n1 n2 n3
    go_enter Tryz.func42, Tryz.ntmps42
    go_wp2_with (first
      | (rw [← HW0.out]; clear HW0))
    have hr := HFIN.out _ HB0.out
    refine bodyPost_ret (results_row_tmpT rfl _ _ (w.heap.size + 1 + 1) _ _ _ _ rfl hr.1 Tryz.underlying26 rfl (by kernel_rfl)) rfl ?_
    exact hr.2 7 _ rfl
  · rw [if_neg hge] at H9
    have hkx : k < t.os.length := by have := HN3.out; omega
    have hgd : t.os.getD k 0 = t.os[k] := by simp [List.getD, hkx]
    rw [hgd] at H9
    obtain ⟨g, hA, hg, hgl, hX⟩ := S0.bx.foundO hkx
    simp only at hA
    subst hA
    have d : ¬ (k : Int) ≥ (N3 : Int) := hge
    have k1 : (k : Int) < (N3 : Int) := by omega
    obtain ⟨o, ho⟩ : ∃ o, o = t.os[k] := ⟨_, rfl⟩
    simp only [← ho] at hX H9
    have HX := Lib.hid hX
    have HSET : Hid (∀ n X, Below W0.heap.size W0 X → AllAt w (X.setCell ⟨g, k, none⟩ (.int .i64 n)) A1 N1 c1 A2 N2 c2 (some ⟨g, 0, none⟩) N3 c3 rk (k : Int) rb rc rd key ∧ FinAt lo w V0 (X.setCell ⟨g, k, none⟩ (.int .i64 n)) A1 N1 c1 A2 N2 c2 (some ⟨g, 0, none⟩) N3 c3 { t with os := t.os.set k n }) := fun n X hb => by
      have q := (S0.later hb).setO rfl hkx n
      have e3 : ({ t with os := t.os.set k n } : Tab).os.length = N3 := by show (t.os.set k n).length = N3; rw [List.length_set]; exact HN3.out
      exact ⟨q.all HN1.out HN2.out e3, q.fin HN1.out HN2.out e3⟩
    obtain ⟨z0, z1⟩ := hX W0 (Below.refl _ _)
    by_cases hb0 : rb = 0
    · rw [if_pos hb0] at H9
      have e0 : (rb == 0) = true := beq_iff_eq.2 hb0
      by_cases ho0 : o = 0
      · have HE : Hid (one9 t ⟨rk, (k : Int), rb, rc, rd, key⟩ = (4, t)) := by show _ = _; rw [H9, if_pos ho0]
        rw [HE.out]
        have e1 : (o == 0) = true := beq_iff_eq.2 ho0
        clear HE H9 HOLD HTE HOW h hl hs hge S0 hW0 n1 n2 n3 hX ho hkx hgd hg hgl HSET hb0 ho0
        go_enter Tryz.func42, Tryz.ntmps42
        go_wp2_with (first
          | (rw [← HW0.out]; clear HW0))
        have hr := HFIN.out _ HB0.out
        refine bodyPost_ret (results_row_tmpT rfl _ _ (w.heap.size + 1 + 1) _ _ _ _ rfl hr.1 Tryz.underlying26 rfl (by kernel_rfl)) rfl ?_
        exact hr.2 4 _ rfl
      · have HE : Hid (one9 t ⟨rk, (k : Int), rb, rc, rd, key⟩ = (0, { t with os := t.os.set k 0 })) := by show _ = _; rw [H9, if_neg ho0]
        rw [HE.out]
        have e1 : (o == 0) = false := beq_eq_false_iff_ne.2 ho0
        obtain ⟨W1, HW1⟩ : ∃ W, Hid (W = W0.setCell ⟨g, k, none⟩ (.int .i64 0)) := ⟨_, rfl⟩
        have HS1 := Lib.hid (HSET.out 0 _ (Below.refl _ _))
        rw [← HW1.out] at HS1
        clear HE H9 HOLD HTE HOW h hl hs hge S0 hW0 n1 n2 n3 hX ho hkx hgd hg hgl HSET hb0 ho0
        go_enter Tryz.func42, Tryz.ntmps42
        go_wp2_with (first
          | (rw [← HW0.out]; clear HW0)
          | (rw [← HW1.out]; clear HW1; obtain ⟨y0, y1, y2, r0, r1, r2, r3, r4, r5, s0, s1, s2, sf0, sf1, sf2, pf0, pf1⟩ := HS1.out.1))
        have hr := HS1.out.2
        refine bodyPost_ret (results_row_tmpT rfl _ _ (w.heap.size + 1 + 1) _ _ _ _ rfl hr.1 Tryz.underlying26 rfl (by kernel_rfl)) rfl ?_
        exact hr.2 0 _ rfl
    · rw [if_neg hb0] at H9
      have e0 : (rb == 0) = false := beq_eq_false_iff_ne.2 hb0
      rcases ten_cases t.ts rb with ⟨j, hj, he, hlj, hat⟩ | ⟨hlj, hat⟩
      · rw [hat] at H9
        replace H9 : one9 t ⟨rk, (k : Int), rb, rc, rd, key⟩ = if t.ts[j].dying = true then (10, t) else if o ≠ 0 then (5, t) else if t.ts[j].quota ≤ ownN t.os rb then (6, t) else (0, { t with os := t.os.set k rb }) := H9
        have HTI := tenI_at hj he hlj
        rw [HTI] at HTE
        obtain ⟨g1, hA1, _, _, hX1⟩ := S0.bx.tenAt hj
        simp only at hA1
        subst hA1
        have j0 : (0 : Int) ≤ (j : Int) := by omega
        have jn : ¬ (j : Int) < 0 := by omega
        have j1 : (j : Int) < (N1 : Int) := by have := HN1.out; omega
        obtain ⟨xd, hxd⟩ : ∃ x, x = t.ts[j].dying := ⟨_, rfl⟩
        obtain ⟨xq, hxq⟩ : ∃ x, x = t.ts[j].quota := ⟨_, rfl⟩
        obtain ⟨m, hm⟩ : ∃ x, x = ownN t.os rb := ⟨_, rfl⟩
        simp only [← hxd, ← hxq, ← hm] at hX1 H9 HOW
        have HX1 : Hid (∀ X, Below W0.heap.size W0 X → X.cell? ⟨g1, j * 6 + 1, none⟩ = some (.int .i64 xq) ∧ X.cell? ⟨g1, j * 6 + 5, none⟩ = some (.bool xd)) := fun X hb => ⟨(hX1 X hb).1.2.1, (hX1 X hb).1.2.2.2.2.2⟩
        clear HTI hX1 h hl hs hge S0 hW0 n1 n2 n3 hX ho hkx hgd hg hgl hb0 hlj hat he hj hxd hxq hm HOLD
        cases xd
        · by_cases ho0 : o = 0
          · rw [if_neg (by decide), if_neg (fun q => q ho0)] at H9
            have e1 : (o != 0) = false := by rw [ho0]; rfl
            by_cases cq : xq ≤ (m : Int)
            · have HE : Hid (one9 t ⟨rk, (k : Int), rb, rc, rd, key⟩ = (6, t)) := by show _ = _; rw [H9, if_pos cq]
              rw [HE.out]
              have cq3 : (m : Int) ≥ xq := cq
              clear HE H9 ho0
              go_enter Tryz.func42, Tryz.ntmps42
              go_wp2_with (first
                | (rw [← HW0.out]; clear HW0)
                | (go_at_call 37; with_reducible (refine Calls.mono (HTE.out _ HB0.out) ?_); rintro e w1 ⟨rfl, hb1⟩; obtain ⟨y0, y1, y2, r0, r1, r2, r3, r4, r5, s0, s1, s2, sf0, sf1, sf2, pf0, pf1⟩ := HALL.out _ hb1; obtain ⟨x1, x5⟩ := HX1.out _ hb1; obtain ⟨z0, z1⟩ := HX.out _ hb1))
              have hbx := hb1.drew
              go_region_held3 (fun W => (W.cell? ⟨g1, j * 6 + 1, none⟩ = some (.int .i64 xq) ∧ W.cell? ⟨w.heap.size, 0, none⟩ = some (.slice (some ⟨g1, 0, none⟩) N1 c1) ∧ W.cell? ⟨w.heap.size, 1, none⟩ = some (.slice A2 N2 c2) ∧ W.cell? ⟨w.heap.size, 2, none⟩ = some (.slice (some ⟨g, 0, none⟩) N3 c3)) ∧ W.cell? ⟨w.heap.size + 1, 2, none⟩ = some (.int .i64 rb))
                (exact ⟨⟨(HX1.out _ hbx).1, (HALL.out _ hbx).1, (HALL.out _ hbx).2.1, (HALL.out _ hbx).2.2.1⟩, (HALL.out _ hbx).2.2.2.2.2.1⟩)
                (first
                  | (go_at_call 36; with_reducible (refine Calls.mono (HOW.out _ hbx) ?_); rintro e w3 ⟨rfl, hb3⟩; have hbx := chain hbx hb3)
                  | fail)
              obtain ⟨y0, y1, y2, r0, r1, r2, r3, r4, r5, s0, s1, s2, sf0, sf1, sf2, pf0, pf1⟩ := HALL.out _ hbx
              obtain ⟨z0, z1⟩ := HX.out _ hbx
              go_wp2
              have hr := HFIN.out _ hbx
              refine bodyPost_ret (results_row_tmpT rfl _ _ (w.heap.size + 1 + 1) _ _ _ _ rfl hr.1 Tryz.underlying26 rfl (by kernel_rfl)) rfl ?_
              exact hr.2 6 _ rfl
            · have HE : Hid (one9 t ⟨rk, (k : Int), rb, rc, rd, key⟩ = (0, { t with os := t.os.set k rb })) := by show _ = _; rw [H9, if_neg cq]
              rw [HE.out]
              have cq3 : ¬ (m : Int) ≥ xq := cq
              clear HE H9 ho0
              go_enter Tryz.func42, Tryz.ntmps42
              go_wp2_with (first
                | (rw [← HW0.out]; clear HW0)
                | (go_at_call 37; with_reducible (refine Calls.mono (HTE.out _ HB0.out) ?_); rintro e w1 ⟨rfl, hb1⟩; obtain ⟨y0, y1, y2, r0, r1, r2, r3, r4, r5, s0, s1, s2, sf0, sf1, sf2, pf0, pf1⟩ := HALL.out _ hb1; obtain ⟨x1, x5⟩ := HX1.out _ hb1; obtain ⟨z0, z1⟩ := HX.out _ hb1))
              have hbx := hb1.drew
              go_region_held3 (fun W => (W.cell? ⟨g1, j * 6 + 1, none⟩ = some (.int .i64 xq) ∧ W.cell? ⟨w.heap.size, 0, none⟩ = some (.slice (some ⟨g1, 0, none⟩) N1 c1) ∧ W.cell? ⟨w.heap.size, 1, none⟩ = some (.slice A2 N2 c2) ∧ W.cell? ⟨w.heap.size, 2, none⟩ = some (.slice (some ⟨g, 0, none⟩) N3 c3)) ∧ W.cell? ⟨w.heap.size + 1, 2, none⟩ = some (.int .i64 rb))
                (exact ⟨⟨(HX1.out _ hbx).1, (HALL.out _ hbx).1, (HALL.out _ hbx).2.1, (HALL.out _ hbx).2.2.1⟩, (HALL.out _ hbx).2.2.2.2.2.1⟩)
                (first
                  | (go_at_call 36; with_reducible (refine Calls.mono (HOW.out _ hbx) ?_); rintro e w3 ⟨rfl, hb3⟩; have hbx := chain hbx hb3)
                  | fail)
              obtain ⟨y0, y1, y2, r0, r1, r2, r3, r4, r5, s0, s1, s2, sf0, sf1, sf2, pf0, pf1⟩ := HALL.out _ hbx
              obtain ⟨z0, z1⟩ := HX.out _ hbx
              have HS1 := Lib.hid (HSET.out rb _ hbx)
              obtain ⟨W1, HW1⟩ : ∃ W, Hid (W = w3.setCell ⟨g, k, none⟩ (.int .i64 rb)) := ⟨_, rfl⟩
              rw [← HW1.out] at HS1
              go_wp2_with (first
                | (rw [← HW1.out]; clear HW1; obtain ⟨y0, y1, y2, r0, r1, r2, r3, r4, r5, s0, s1, s2, sf0, sf1, sf2, pf0, pf1⟩ := HS1.out.1))
              have hr := HS1.out.2
              refine bodyPost_ret (results_row_tmpT rfl _ _ (w.heap.size + 1 + 1) _ _ _ _ rfl hr.1 Tryz.underlying26 rfl (by kernel_rfl)) rfl ?_
              exact hr.2 0 _ rfl
          · have HE : Hid (one9 t ⟨rk, (k : Int), rb, rc, rd, key⟩ = (5, t)) := by show _ = _; rw [H9, if_neg (by decide), if_pos ho0]
            rw [HE.out]
            have e1 : (o != 0) = true := bne_iff_ne.2 ho0
            clear HE H9 ho0
            go_enter Tryz.func42, Tryz.ntmps42
            go_wp2_with (first
              | (rw [← HW0.out]; clear HW0)
              | (go_at_call 37; with_reducible (refine Calls.mono (HTE.out _ HB0.out) ?_); rintro e w1 ⟨rfl, hb1⟩; obtain ⟨y0, y1, y2, r0, r1, r2, r3, r4, r5, s0, s1, s2, sf0, sf1, sf2, pf0, pf1⟩ := HALL.out _ hb1; obtain ⟨x1, x5⟩ := HX1.out _ hb1; obtain ⟨z0, z1⟩ := HX.out _ hb1))
            have hr := HFIN.out _ hb1
            refine bodyPost_ret (results_row_tmpT rfl _ _ (w.heap.size + 1 + 1) _ _ _ _ rfl hr.1 Tryz.underlying26 rfl (by kernel_rfl)) rfl ?_
            exact hr.2 5 _ rfl
        · have HE : Hid (one9 t ⟨rk, (k : Int), rb, rc, rd, key⟩ = (10, t)) := by show _ = _; rw [H9, if_pos rfl]
          rw [HE.out]
          clear HE H9
          go_enter Tryz.func42, Tryz.ntmps42
          go_wp2_with (first
            | (rw [← HW0.out]; clear HW0)
            | (go_at_call 37; with_reducible (refine Calls.mono (HTE.out _ HB0.out) ?_); rintro e w1 ⟨rfl, hb1⟩; obtain ⟨y0, y1, y2, r0, r1, r2, r3, r4, r5, s0, s1, s2, sf0, sf1, sf2, pf0, pf1⟩ := HALL.out _ hb1; obtain ⟨x1, x5⟩ := HX1.out _ hb1; obtain ⟨z0, z1⟩ := HX.out _ hb1))
          have hr := HFIN.out _ hb1
          refine bodyPost_ret (results_row_tmpT rfl _ _ (w.heap.size + 1 + 1) _ _ _ _ rfl hr.1 Tryz.underlying26 rfl (by kernel_rfl)) rfl ?_
          exact hr.2 10 _ rfl
      · rw [hat] at H9
        have HE : Hid (one9 t ⟨rk, (k : Int), rb, rc, rd, key⟩ = (4, t)) := H9
        rw [HE.out]
        rw [tenI_no hlj] at HTE
        clear HE H9 h hl hs hge S0 hW0 n1 n2 n3 hX ho hkx hgd hg hgl hb0 hlj hat HOLD HSET HOW
        go_enter Tryz.func42, Tryz.ntmps42
        go_wp2_with (first
          | (rw [← HW0.out]; clear HW0)
          | (go_at_call 37; with_reducible (refine Calls.mono (HTE.out _ HB0.out) ?_); rintro e w1 ⟨rfl, hb1⟩; obtain ⟨y0, y1, y2, r0, r1, r2, r3, r4, r5, s0, s1, s2, sf0, sf1, sf2, pf0, pf1⟩ := HALL.out _ hb1))
        have hr := HFIN.out _ hb1
        refine bodyPost_ret (results_row_tmpT rfl _ _ (w.heap.size + 1 + 1) _ _ _ _ rfl hr.1 Tryz.underlying26 rfl (by kernel_rfl)) rfl ?_
        exact hr.2 4 _ rfl

end Go.Proofs.YtnenpafofplbhaaGreat

namespace Go.Proofs.YtnenpafofplbhaaGreat
open Go.RowKit

set_option maxHeartbeats 6400000 in
set_option maxRecDepth 20000 in
/-- 'volume'. -/
theorem docVol_any {lo : Nat} {w : World} {t : Tab} (A1 : Option Addr) (c1 : Nat) (A2 : Option Addr) (c2 : Nat) (A3 : Option Addr) (c3 : Nat) (h : RowsSl lo w ⟨A1, c1, A2, c2, A3, c3⟩ t) (hl : lo ≤ w.heap.size) (hs : t.sound) (rk ra rb rc rd : Int) (key : ByteArray) (hk : rk = 6 ∨ rk = 7 ∨ rk = 8) (V0 : TabW) (hV0 : V0 = ⟨A1, c1, A2, c2, A3, c3⟩) :
    Calls Tryz.prog 41 #[.agg #[.slice A1 t.ts.length c1, .slice A2 t.vs.length c2, .slice A3 t.os.length c3], .agg #[.int .i64 rk, .int .i64 ra, .int .i64 rb, .int .i64 rc, .int .i64 rd, .string key], .int .i64 (volI t.vs ra)] w (OneAns lo w V0 (oneR t ⟨rk, ra, rb, rc, rd, key⟩)) := by
  obtain ⟨n1, n2, n3⟩ := sound_few hs
  obtain ⟨W0, hW0, S0⟩ := bx3_start hV0 h hl rk ra rb rc rd key
  clear hV0
  obtain ⟨N1, HN1⟩ : ∃ N, Hid (t.ts.length = N) := ⟨_, rfl⟩
  obtain ⟨N2, HN2⟩ : ∃ N, Hid (t.vs.length = N) := ⟨_, rfl⟩
  obtain ⟨N3, HN3⟩ : ∃ N, Hid (t.os.length = N) := ⟨_, rfl⟩
  have HALL : Hid (∀ X, Below W0.heap.size W0 X → AllAt w X A1 N1 c1 A2 N2 c2 A3 N3 c3 rk ra rb rc rd key) := fun X hb => (S0.later hb).all HN1.out HN2.out HN3.out
  have HFIN : Hid (∀ X, Below W0.heap.size W0 X → FinAt lo w V0 X A1 N1 c1 A2 N2 c2 A3 N3 c3 t) := fun X hb => (S0.later hb).fin HN1.out HN2.out HN3.out
  rw [HN1.out, HN2.out, HN3.out] at hW0 ⊢
  have HW0 := Lib.hid hW0
  obtain ⟨y0, y1, y2, r0, r1, r2, r3, r4, r5, s0, s1, s2, sf0, sf1, sf2, pf0, pf1⟩ := HALL.out W0 (Below.refl _ _)
  have HS0 := Lib.hid S0
  have HB0 : Hid (Below W0.heap.size W0 W0) := Below.refl _ _
  rcases vol_cases t.vs ra with ⟨j, hj, he, hlj, hat⟩ | ⟨hlj, hat⟩
  · rw [volI_at hj he hlj]
    obtain ⟨g, hA, _, hgl, hX⟩ := S0.bx.volAt hj
    simp only at hA
    subst hA
    have j0 : (0 : Int) ≤ (j : Int) := by omega
    have jn : ¬ (j : Int) < 0 := by omega
    have j1 : (j : Int) < (N2 : Int) := by have := HN2.out; omega
    obtain ⟨xb, hxb⟩ : ∃ x, x = t.vs[j].base := ⟨_, rfl⟩
    obtain ⟨xk, hxk⟩ : ∃ x, x = t.vs[j].blocks := ⟨_, rfl⟩
    have HX : Hid (∀ X, Below W0.heap.size W0 X → (X.cell? ⟨g, j * 4 + 2, none⟩ = some (.int .i64 xk) ∧ X.cell? ⟨g, j * 4 + 3, none⟩ = some (.int .i64 xb)) ∧ X.frozen? ⟨g, j * 4 + 2, none⟩ = false ∧ X.frozen? ⟨g, j * 4 + 3, none⟩ = false) := fun X hb => by
      obtain ⟨⟨_, _, q2, q3⟩, q⟩ := hX X hb
      exact ⟨⟨by rw [hxk]; exact q2, by rw [hxb]; exact q3⟩, q _, q _⟩
    have HSET : Hid (∀ (i : Nat) (v : Value) (y : Vol), i < 4 → volC y = (volC t.vs[j]).set i v → ∀ X, Below W0.heap.size W0 X → AllAt w (X.setCell ⟨g, j * 4 + i, none⟩ v) A1 N1 c1 (some ⟨g, 0, none⟩) N2 c2 A3 N3 c3 rk ra rb rc rd key ∧ FinAt lo w V0 (X.setCell ⟨g, j * 4 + i, none⟩ v) A1 N1 c1 (some ⟨g, 0, none⟩) N2 c2 A3 N3 c3 { t with vs := t.vs.set j y }) := fun i v y hi hy X hb => by
      have q := (S0.later hb).setV rfl hj hi v y hy
      have e2 : ({ t with vs := t.vs.set j y } : Tab).vs.length = N2 := by show (t.vs.set j y).length = N2; rw [List.length_set]; exact HN2.out
      exact ⟨q.all HN1.out e2 HN3.out, q.fin HN1.out e2 HN3.out⟩
    obtain ⟨⟨x2, x3⟩, f2, f3⟩ := HX.out W0 (Below.refl _ _)
    rcases hk with rfl | rfl | rfl
    · have HE : Hid (oneR t ⟨6, ra, rb, rc, rd, key⟩ = (0, { t with vs := t.vs.set j { t.vs[j] with blocks := rb } })) := by
        show one6 t ⟨6, ra, rb, rc, rd, key⟩ = _
        unfold one6
        rw [hat]
        show (_, _) = _
        rw [updK_set Vol.id (fun x => { x with blocks := rb }) hj hs.vup he]
      rw [HE.out]
      obtain ⟨W1, HW1⟩ : ∃ W, Hid (W = W0.setCell ⟨g, j * 4 + 2, none⟩ (.int .i64 rb)) := ⟨_, rfl⟩
      have HS1 := Lib.hid (HSET.out 2 (.int .i64 rb) { t.vs[j] with blocks := rb } (by decide) rfl _ (Below.refl _ _))
      rw [← HW1.out] at HS1
      obtain ⟨T, hT⟩ : ∃ T, T = ({ t with vs := t.vs.set j { t.vs[j] with blocks := rb } } : Tab) := ⟨_, rfl⟩
      rw [← hT] at HS1 ⊢
      clear hT HE h hl hs S0 hW0 n1 n2 n3 hX hgl HSET hlj hat he hxb hxk hj
      go_enter Tryz.func41, Tryz.ntmps41
      go_wp2_with (first
        | (rw [← HW0.out]; clear HW0)
        | (rw [← HW1.out]; clear HW1; obtain ⟨y0, y1, y2, r0, r1, r2, r3, r4, r5, s0, s1, s2, sf0, sf1, sf2, pf0, pf1⟩ := HS1.out.1))
      have hr := HS1.out.2
      refine bodyPost_ret (results_row_tmpT rfl _ _ (w.heap.size + 1 + 1) _ _ _ _ rfl hr.1 Tryz.underlying26 rfl (by kernel_rfl)) rfl ?_
      exact hr.2 0 _ rfl
    · have HE : Hid (oneR t ⟨7, ra, rb, rc, rd, key⟩ = (0, { t with vs := t.vs.eraseIdx j })) := by
        show one7 t ⟨7, ra, rb, rc, rd, key⟩ = _
        unfold one7
        rw [hat]
        show (_, _) = _
        rw [filter_erase Vol.id hj hs.vup he]
      rw [HE.out]
      obtain ⟨i0, hi, hz0, hz1, hz2⟩ := info_parts Tryz.infoVolD
      have c2N : N2 ≤ c2 := by have := sl_le S0.bx.rows.vs; rwa [HN2.out] at this
      have n2 : N2 ≤ 8 := by have := HN2.out; omega
      have HCUT : Hid (∀ X, Below W0.heap.size W0 X → SlRow X lo 51 4 (some ⟨g, 0, none⟩) j j (flat volC (t.vs.take j))) := fun X hb => sl_cut volC_len (S0.later hb).bx.rows.vs rfl (Nat.le_of_lt hj)
      obtain ⟨ad, hif, had⟩ := cut_ad g c2 j 4
      have HFL : Hid ((flat volC (t.vs.drop (j + 1))).length = (N2 - (j + 1)) * 4) := by show _ = _; rw [flat_len volC_len, List.length_drop, HN2.out]
      have HF1 := Lib.hid (flat_one volC_one (t.vs.drop (j + 1)))
      have HNW : Hid (∀ X, Below W0.heap.size W0 X → ∀ i u, (flat volC (t.vs.drop (j + 1)))[i]? = some u → X.cell? (ad.add i) = some u) := fun X hb => vols_rest (S0.later hb).bx.tab.vs (by rw [HN2.out]; exact c2N) had
      have HLO := Lib.hid S0.lo_le
      have HMID : Hid (∀ X, W0.drew.grownBy X (ob (some ⟨g, 0, none⟩)) → X.cell? ⟨w.heap.size, 1, none⟩ = some (.slice (some ⟨g, 0, none⟩) N2 c2) ∧ X.frozen? ⟨w.heap.size, 1, none⟩ = false) := fun X hg => by
        have q := (S0.later HB0.out.drew).midV hg
        rwa [HN2.out] at q
      have HEND : Hid (∀ A' c' X, SlRow X lo 51 4 A' (j + (N2 - (j + 1))) c' (flat volC (t.vs.take j) ++ flat volC (t.vs.drop (j + 1))) → W0.drew.grownBy X (ob (some ⟨g, 0, none⟩)) → (ob A' = ob (some ⟨g, 0, none⟩) ∨ ob A' = some W0.drew.heap.size) →
          AllAt w (X.setCell ⟨w.heap.size, 1, none⟩ (.slice A' (j + (N2 - (j + 1))) c')) A1 N1 c1 A' (j + (N2 - (j + 1))) c' A3 N3 c3 7 ra rb rc rd key ∧ FinAt lo w V0 (X.setCell ⟨w.heap.size, 1, none⟩ (.slice A' (j + (N2 - (j + 1))) c')) A1 N1 c1 A' (j + (N2 - (j + 1))) c' A3 N3 c3 { t with vs := t.vs.eraseIdx j }) := fun A' c' X hr hg hw => by
        have eM : (t.vs.eraseIdx j).length = j + (N2 - (j + 1)) := by rw [List.length_eraseIdx_of_lt hj, HN2.out]; omega
        rw [erase_flat] at hr
        have q := (S0.later HB0.out.drew).turnV (by rw [eM]; exact hr) hg hw
        rw [eM] at q
        exact ⟨q.all HN1.out eM HN3.out, q.fin HN1.out eM HN3.out⟩
      clear HE h hl hs S0 hW0 n1 n3 hX hgl HSET hlj hat he hxb hxk hj had
      go_enter Tryz.func41, Tryz.ntmps41
      go_wp2_with (first
        | (rw [← HW0.out]; clear HW0))
      have jc : (j : Int) ≤ (c2 : Int) := by omega
      have jv : IntKind.i64.wrap ((j : Int) + 1) = (j : Int) + 1 := IntWalk.i64_in _ (by omega)
      have jl0 : (0 : Int) ≤ (j : Int) + 1 := by omega
      have jl : (j : Int) + 1 ≤ (N2 : Int) := by omega
      have jt : ((j : Int) + 1).toNat = j + 1 := by omega
      have hbd : Below W0.heap.size W0 W0.drew := HB0.out.drew
      have HBD := Lib.hid hbd
      clear hbd
      go_region_law (refine step_append_sl _ rfl _ _ 23 rfl lo 51 i0 (.agg #[.int .i64 0, .int .i64 0, .int .i64 0, .int .i64 0]) 4 32 Tryz.underlying23 hi hz0 hz1 hz2 rfl (by decide) (some ⟨g, 0, none⟩) j j (flat volC (t.vs.take j)) rfl (HCUT.out _ HBD.out) ad (N2 - (j + 1)) (c2 - (j + 1)) (flat volC (t.vs.drop (j + 1))) rfl HFL.out (HNW.out _ HBD.out) HF1.out (by unfold maxLen; omega) (by omega) (Nat.le_trans HLO.out HBD.out.size) ?_; intro A' c' w' hrow hgrow hwh; obtain ⟨m1, mf⟩ := HMID.out _ hgrow)
      all_goals
        have hq := HEND.out _ _ _ hrow hgrow hwh
        obtain ⟨W1, hW1⟩ : ∃ W, W = w'.setCell ⟨w.heap.size, 1, none⟩ (.slice A' (j + (N2 - (j + 1))) c') := ⟨_, rfl⟩
        rw [← hW1] at hq ⊢
        obtain ⟨q1, q2⟩ := hq
        have HQ := Lib.hid q2
        clear q2 hW1 hrow hgrow hwh m1 mf HEND HMID HNW
        obtain ⟨y0, y1, y2, r0, r1, r2, r3, r4, r5, s0, s1, s2, sf0, sf1, sf2, pf0, pf1⟩ := q1
        go_wp2
        have hr := HQ.out
        refine bodyPost_ret (results_row_tmpT rfl _ _ (w.heap.size + 1 + 1) _ _ _ _ rfl hr.1 Tryz.underlying26 rfl (by kernel_rfl)) rfl ?_
        exact hr.2 0 _ rfl
    · have H8 : oneR t ⟨8, ra, rb, rc, rd, key⟩ = if rb < xb then (7, t) else (0, { t with vs := t.vs.set j { t.vs[j] with base := rb } }) := by
        show one8 t ⟨8, ra, rb, rc, rd, key⟩ = _
        unfold one8
        rw [hat, hxb]
        show (if rb < t.vs[j].base then _ else _) = _
        rw [updK_set Vol.id (fun x => { x with base := rb }) hj hs.vup he]
      by_cases cq : rb < xb
      · have HE : Hid (oneR t ⟨8, ra, rb, rc, rd, key⟩ = (7, t)) := by show _ = _; rw [H8, if_pos cq]
        rw [HE.out]
        clear HE H8 h hl hs S0 hW0 n1 n2 n3 hX hgl HSET hlj hat he hxb hxk hj
        go_enter Tryz.func41, Tryz.ntmps41
        go_wp2_with (first
          | (rw [← HW0.out]; clear HW0))
        have hbx := HB0.out.drew
        go_region_held3 (fun W => (W.cell? ⟨g, j * 4 + 3, none⟩ = some (.int .i64 xb) ∧ W.cell? ⟨w.heap.size, 1, none⟩ = some (.slice (some ⟨g, 0, none⟩) N2 c2)) ∧ W.cell? ⟨w.heap.size + 1, 2, none⟩ = some (.int .i64 rb))
          (exact ⟨⟨(HX.out _ hbx).1.2, (HALL.out _ hbx).2.1⟩, (HALL.out _ hbx).2.2.2.2.2.1⟩)
          (first
            | fail)
        obtain ⟨y0, y1, y2, r0, r1, r2, r3, r4, r5, s0, s1, s2, sf0, sf1, sf2, pf0, pf1⟩ := HALL.out _ hbx
        go_wp2
        have hr := HFIN.out _ hbx
        refine bodyPost_ret (results_row_tmpT rfl _ _ (w.heap.size + 1 + 1) _ _ _ _ rfl hr.1 Tryz.underlying26 rfl (by kernel_rfl)) rfl ?_
        exact hr.2 7 _ rfl
      · have HE : Hid (oneR t ⟨8, ra, rb, rc, rd, key⟩ = (0, { t with vs := t.vs.set j { t.vs[j] with base := rb } })) := by show _ = _; rw [H8, if_neg cq]
        rw [HE.out]
        have HSET3 := Lib.hid (HSET.out 3 (.int .i64 rb) { t.vs[j] with base := rb } (by decide) rfl)
        obtain ⟨T, hT⟩ : ∃ T, T = ({ t with vs := t.vs.set j { t.vs[j] with base := rb } } : Tab) := ⟨_, rfl⟩
        rw [← hT] at HSET3 ⊢
        clear hT HE H8 h hl hs S0 hW0 n1 n2 n3 hX hgl HSET hlj hat he hxb hxk hj
        go_enter Tryz.func41, Tryz.ntmps41
        go_wp2_with (first
          | (rw [← HW0.out]; clear HW0))
        have hbx := HB0.out.drew
        go_region_held3 (fun W => (W.cell? ⟨g, j * 4 + 3, none⟩ = some (.int .i64 xb) ∧ W.cell? ⟨w.heap.size, 1, none⟩ = some (.slice (some ⟨g, 0, none⟩) N2 c2)) ∧ W.cell? ⟨w.heap.size + 1, 2, none⟩ = some (.int .i64 rb))
          (exact ⟨⟨(HX.out _ hbx).1.2, (HALL.out _ hbx).2.1⟩, (HALL.out _ hbx).2.2.2.2.2.1⟩)
          (first
            | fail)
        obtain ⟨Wd, hWd⟩ : ∃ Wd, Wd = W0.drew := ⟨_, rfl⟩
        rw [← hWd] at hbx ⊢
        clear hWd
        have HS1 := Lib.hid (HSET3.out _ hbx)
        obtain ⟨W1, HW1⟩ : ∃ W, Hid (W = Wd.setCell ⟨g, j * 4 + 3, none⟩ (.int .i64 rb)) := ⟨_, rfl⟩
        rw [← HW1.out] at HS1
        obtain ⟨y0, y1, y2, r0, r1, r2, r3, r4, r5, s0, s1, s2, sf0, sf1, sf2, pf0, pf1⟩ := HALL.out _ hbx
        obtain ⟨⟨x2, x3⟩, f2, f3⟩ := HX.out _ hbx
        go_wp2_with (first
          | (rw [← HW1.out]; clear HW1; obtain ⟨y0, y1, y2, r0, r1, r2, r3, r4, r5, s0, s1, s2, sf0, sf1, sf2, pf0, pf1⟩ := HS1.out.1))
        have hr := HS1.out.2
        refine bodyPost_ret (results_row_tmpT rfl _ _ (w.heap.size + 1 + 1) _ _ _ _ rfl hr.1 Tryz.underlying26 rfl (by kernel_rfl)) rfl ?_
        exact hr.2 0 _ rfl
  · rw [volI_no hlj]
    have HE : Hid (oneR t ⟨rk, ra, rb, rc, rd, key⟩ = (4, t)) := by
      rcases hk with rfl | rfl | rfl
      · show one6 t _ = _; unfold one6; rw [hat]
      · show one7 t _ = _; unfold one7; rw [hat]
      · show one8 t _ = _; unfold one8; rw [hat]
    rw [HE.out]
    clear HE h hl hs S0 hW0 n1 n2 n3 hlj hat
    go_enter Tryz.func41, Tryz.ntmps41
    go_wp2_with (first
      | (rw [← HW0.out]; clear HW0))
    have hr := HFIN.out _ HB0.out
    refine bodyPost_ret (results_row_tmpT rfl _ _ (w.heap.size + 1 + 1) _ _ _ _ rfl hr.1 Tryz.underlying26 rfl (by kernel_rfl)) rfl ?_
    exact hr.2 4 _ rfl

end Go.Proofs.YtnenpafofplbhaaGreat

namespace Go.Proofs.YtnenpafofplbhaaGreat
open Go.RowKit

set_option maxHeartbeats 6400000 in
set_option maxRecDepth 20000 in
/-- 'tenant'. -/
theorem docTen3_any {lo : Nat} {w : World} {t : Tab} (A1 : Option Addr) (c1 : Nat) (A2 : Option Addr) (c2 : Nat) (A3 : Option Addr) (c3 : Nat) (h : RowsSl lo w ⟨A1, c1, A2, c2, A3, c3⟩ t) (hl : lo ≤ w.heap.size) (hs : t.sound) (ra rb rc rd : Int) (key : ByteArray) (V0 : TabW) (hV0 : V0 = ⟨A1, c1, A2, c2, A3, c3⟩) :
    Calls Tryz.prog 39 #[.agg #[.slice A1 t.ts.length c1, .slice A2 t.vs.length c2, .slice A3 t.os.length c3], .agg #[.int .i64 3, .int .i64 ra, .int .i64 rb, .int .i64 rc, .int .i64 rd, .string key], .int .i64 (tenI t.ts ra)] w (OneAns lo w V0 (oneR t ⟨3, ra, rb, rc, rd, key⟩)) := by
  obtain ⟨n1, n2, n3⟩ := sound_few hs
  obtain ⟨W0, hW0, S0⟩ := bx3_start hV0 h hl 3 ra rb rc rd key
  clear hV0
  obtain ⟨N1, HN1⟩ : ∃ N, Hid (t.ts.length = N) := ⟨_, rfl⟩
  obtain ⟨N2, HN2⟩ : ∃ N, Hid (t.vs.length = N) := ⟨_, rfl⟩
  obtain ⟨N3, HN3⟩ : ∃ N, Hid (t.os.length = N) := ⟨_, rfl⟩
  have HALL : Hid (∀ X, Below W0.heap.size W0 X → AllAt w X A1 N1 c1 A2 N2 c2 A3 N3 c3 3 ra rb rc rd key) := fun X hb => (S0.later hb).all HN1.out HN2.out HN3.out
  have HFIN : Hid (∀ X, Below W0.heap.size W0 X → FinAt lo w V0 X A1 N1 c1 A2 N2 c2 A3 N3 c3 t) := fun X hb => (S0.later hb).fin HN1.out HN2.out HN3.out
  have HOW : Hid (∀ X, Below W0.heap.size W0 X → Calls Tryz.prog 36 #[.agg #[.slice A1 N1 c1, .slice A2 N2 c2, .slice A3 N3 c3], .int .i64 ra] X fun e w' => e = .returned (.int .i64 (ownN t.os ra : Nat)) ∧ Below X.heap.size X w') := fun X hb => by
    have q := refOwn_any ⟨A1, c1, A2, c2, A3, c3⟩ t ra X (S0.later hb).bx.tab (by omega)
    unfold tabV at q
    rwa [HN1.out, HN2.out, HN3.out] at q
  rw [HN1.out, HN2.out, HN3.out] at hW0 ⊢
  have HW0 := Lib.hid hW0
  obtain ⟨y0, y1, y2, r0, r1, r2, r3, r4, r5, s0, s1, s2, sf0, sf1, sf2, pf0, pf1⟩ := HALL.out W0 (Below.refl _ _)
  have HS0 := Lib.hid S0
  have HB0 : Hid (Below W0.heap.size W0 W0) := Below.refl _ _
  rcases ten_cases t.ts ra with ⟨j, hj, he, hlj, hat⟩ | ⟨hlj, hat⟩
  · rw [tenI_at hj he hlj]
    obtain ⟨g, hA, _, hgl, hX⟩ := S0.bx.tenAt hj
    simp only at hA
    subst hA
    have j0 : (0 : Int) ≤ (j : Int) := by omega
    have jn : ¬ (j : Int) < 0 := by omega
    have j1 : (j : Int) < (N1 : Int) := by have := HN1.out; omega
    have hq := (hs.ten _ (List.getElem_mem hj)).1.quota
    obtain ⟨x, hx⟩ : ∃ x, x = t.ts[j] := ⟨_, rfl⟩
    rw [← hx] at hX hat hq
    have HX : Hid (∀ X, Below W0.heap.size W0 X → (X.cell? ⟨g, j * 6, none⟩ = some (.int .i64 x.id) ∧ X.cell? ⟨g, j * 6 + 1, none⟩ = some (.int .i64 x.quota) ∧ X.cell? ⟨g, j * 6 + 2, none⟩ = some (.int .i64 x.rate) ∧ X.cell? ⟨g, j * 6 + 3, none⟩ = some (.int .i64 x.burst) ∧ X.cell? ⟨g, j * 6 + 4, none⟩ = some (.string x.key) ∧ X.cell? ⟨g, j * 6 + 5, none⟩ = some (.bool x.dying)) ∧ X.frozen? ⟨g, j * 6 + 1, none⟩ = false ∧ X.frozen? ⟨g, j * 6 + 5, none⟩ = false) := fun X hb => ⟨(hX X hb).1, (hX X hb).2 _, (hX X hb).2 _⟩
    have HSET : Hid (∀ (i : Nat) (v : Value) (y : Ten), i < 6 → tenC y = (tenC x).set i v → ∀ X, Below W0.heap.size W0 X → AllAt w (X.setCell ⟨g, j * 6 + i, none⟩ v) (some ⟨g, 0, none⟩) N1 c1 A2 N2 c2 A3 N3 c3 3 ra rb rc rd key ∧ FinAt lo w V0 (X.setCell ⟨g, j * 6 + i, none⟩ v) (some ⟨g, 0, none⟩) N1 c1 A2 N2 c2 A3 N3 c3 { t with ts := t.ts.set j y }) := fun i v y hi hy X hb => by
      have q := (S0.later hb).setT rfl hj hi v y (by rw [← hx]; exact hy)
      have e2 : ({ t with ts := t.ts.set j y } : Tab).ts.length = N1 := by show (t.ts.set j y).length = N1; rw [List.length_set]; exact HN1.out
      exact ⟨q.all e2 HN2.out HN3.out, q.fin e2 HN2.out HN3.out⟩
    obtain ⟨⟨x0, x1, x2, x3, x4, x5⟩, f1, f5⟩ := HX.out W0 (Below.refl _ _)
    obtain ⟨W1, HW1⟩ : ∃ W, Hid (W = W0.alloc (.cells #[.int .i64 x.id, .int .i64 x.quota, .int .i64 x.rate, .int .i64 x.burst, .string x.key, .bool x.dying] 49)) := ⟨_, rfl⟩
    have HB1 : Hid (Below W0.heap.size W0 W1) := by rw [HW1.out]; exact (Below.refl _ _).alloc (Nat.le_refl _) _
    have HXB : Hid (∀ X, Below W1.heap.size W1 X → X.cell? ⟨W0.heap.size, 1, none⟩ = some (.int .i64 x.quota) ∧ X.cell? ⟨W0.heap.size, 5, none⟩ = some (.bool x.dying)) := fun X hb => by
      have q := heap_alloc_new W0 (.cells #[.int .i64 x.id, .int .i64 x.quota, .int .i64 x.rate, .int .i64 x.burst, .string x.key, .bool x.dying] 49)
      rw [← HW1.out] at q
      have q2 := (hb.block _ (Array.getElem?_eq_some_iff.1 q).1).trans q
      exact ⟨by rw [cell_of_row _ _ _ _ _ _ q2]; rfl, by rw [cell_of_row _ _ _ _ _ _ q2]; rfl⟩
    have H3 : oneR t ⟨3, ra, rb, rc, rd, key⟩ = if x.dying = true then (5, t) else (0, { t with ts := t.ts.set j { x with dying := true } }) := by
      show one3 t ⟨3, ra, rb, rc, rd, key⟩ = _
      unfold one3
      rw [hat]
      show (if x.dying = true then _ else _) = _
      rw [updK_set Ten.id (fun x => { x with dying := true }) hj hs.up he, ← hx]
    obtain ⟨T, hT⟩ : ∃ T, T = ({ t with ts := t.ts.set j { x with dying := true } } : Tab) := ⟨_, rfl⟩
    have HS3 := HSET.out 5 (.bool true) { x with dying := true } (by decide) rfl _ HB1.out
    rw [← hT] at HS3 H3
    obtain ⟨W2, HW2⟩ : ∃ W, Hid (W = W1.setCell ⟨g, j * 6 + 5, none⟩ (.bool true)) := ⟨_, rfl⟩
    rw [← HW2.out] at HS3
    have HS2 := Lib.hid HS3
    obtain ⟨xi, xq, xr, xb, xk, xd⟩ := x
    simp only at x0 x1 x2 x3 x4 x5 HX HXB HW1 H3
    clear h hl hs S0 hW0 n1 n2 n3 hX hgl hlj hat he hj hx hq hT HS3 HSET HOW
    cases xd
    · have HE : Hid (oneR t ⟨3, ra, rb, rc, rd, key⟩ = (0, T)) := by show _ = _; rw [H3, if_neg (by decide)]
      rw [HE.out]
      clear HE H3
      go_enter Tryz.func39, Tryz.ntmps39
      go_wp2_with (first
        | (rw [← HW0.out]; clear HW0)
        | (rw [← HW1.out]; clear HW1; obtain ⟨e1, e5⟩ := HXB.out W1 (Below.refl _ _); obtain ⟨y0, y1, y2, r0, r1, r2, r3, r4, r5, s0, s1, s2, sf0, sf1, sf2, pf0, pf1⟩ := HALL.out W1 HB1.out; obtain ⟨⟨x0, x1, x2, x3, x4, x5⟩, f1, f5⟩ := HX.out W1 HB1.out)
        | (rw [← HW2.out]; clear HW2; obtain ⟨y0, y1, y2, r0, r1, r2, r3, r4, r5, s0, s1, s2, sf0, sf1, sf2, pf0, pf1⟩ := HS2.out.1))
      have hr := HS2.out.2
      refine bodyPost_ret (results_row_tmpT rfl _ _ (w.heap.size + 1 + 1) _ _ _ _ rfl hr.1 Tryz.underlying26 rfl (by kernel_rfl)) rfl ?_
      exact hr.2 0 _ rfl
    · have HE : Hid (oneR t ⟨3, ra, rb, rc, rd, key⟩ = (5, t)) := by show _ = _; rw [H3, if_pos rfl]
      rw [HE.out]
      clear HE H3
      go_enter Tryz.func39, Tryz.ntmps39
      go_wp2_with (first
        | (rw [← HW0.out]; clear HW0)
        | (rw [← HW1.out]; clear HW1; obtain ⟨e1, e5⟩ := HXB.out W1 (Below.refl _ _); obtain ⟨y0, y1, y2, r0, r1, r2, r3, r4, r5, s0, s1, s2, sf0, sf1, sf2, pf0, pf1⟩ := HALL.out W1 HB1.out; obtain ⟨⟨x0, x1, x2, x3, x4, x5⟩, f1, f5⟩ := HX.out W1 HB1.out))
      have hr := HFIN.out _ HB1.out
      refine bodyPost_ret (results_row_tmpT rfl _ _ (w.heap.size + 1 + 1) _ _ _ _ rfl hr.1 Tryz.underlying26 rfl (by kernel_rfl)) rfl ?_
      exact hr.2 5 _ rfl
  · rw [tenI_no hlj]
    have HE : Hid (oneR t ⟨3, ra, rb, rc, rd, key⟩ = (4, t)) := by
      show one3 t _ = _
      unfold one3
      rw [hat]
    rw [HE.out]
    clear HE h hl hs S0 hW0 n1 n2 n3 hlj hat HOW
    go_enter Tryz.func39, Tryz.ntmps39
    go_wp2_with (first
      | (rw [← HW0.out]; clear HW0))
    have hr := HFIN.out _ HB0.out
    refine bodyPost_ret (results_row_tmpT rfl _ _ (w.heap.size + 1 + 1) _ _ _ _ rfl hr.1 Tryz.underlying26 rfl (by kernel_rfl)) rfl ?_
    exact hr.2 4 _ rfl

end Go.Proofs.YtnenpafofplbhaaGreat

namespace Go.Proofs.YtnenpafofplbhaaGreat
open Go.RowKit

set_option maxHeartbeats 6400000 in
set_option maxRecDepth 20000 in
/-- 'tenant'. -/
theorem docTen2_any {lo : Nat} {w : World} {t : Tab} (A1 : Option Addr) (c1 : Nat) (A2 : Option Addr) (c2 : Nat) (A3 : Option Addr) (c3 : Nat) (h : RowsSl lo w ⟨A1, c1, A2, c2, A3, c3⟩ t) (hl : lo ≤ w.heap.size) (hs : t.sound) (ra rb rc rd : Int) (key : ByteArray) (hf : inR rb 1 64) (V0 : TabW) (hV0 : V0 = ⟨A1, c1, A2, c2, A3, c3⟩) :
    Calls Tryz.prog 39 #[.agg #[.slice A1 t.ts.length c1, .slice A2 t.vs.length c2, .slice A3 t.os.length c3], .agg #[.int .i64 2, .int .i64 ra, .int .i64 rb, .int .i64 rc, .int .i64 rd, .string key], .int .i64 (tenI t.ts ra)] w (OneAns lo w V0 (oneR t ⟨2, ra, rb, rc, rd, key⟩)) := by
  obtain ⟨n1, n2, n3⟩ := sound_few hs
  obtain ⟨W0, hW0, S0⟩ := bx3_start hV0 h hl 2 ra rb rc rd key
  clear hV0
  obtain ⟨N1, HN1⟩ : ∃ N, Hid (t.ts.length = N) := ⟨_, rfl⟩
  obtain ⟨N2, HN2⟩ : ∃ N, Hid (t.vs.length = N) := ⟨_, rfl⟩
  obtain ⟨N3, HN3⟩ : ∃ N, Hid (t.os.length = N) := ⟨_, rfl⟩
  have HALL : Hid (∀ X, Below W0.heap.size W0 X → AllAt w X A1 N1 c1 A2 N2 c2 A3 N3 c3 2 ra rb rc rd key) := fun X hb => (S0.later hb).all HN1.out HN2.out HN3.out
  have HFIN : Hid (∀ X, Below W0.heap.size W0 X → FinAt lo w V0 X A1 N1 c1 A2 N2 c2 A3 N3 c3 t) := fun X hb => (S0.later hb).fin HN1.out HN2.out HN3.out
  have HOW : Hid (∀ X, Below W0.heap.size W0 X → Calls Tryz.prog 36 #[.agg #[.slice A1 N1 c1, .slice A2 N2 c2, .slice A3 N3 c3], .int .i64 ra] X fun e w' => e = .returned (.int .i64 (ownN t.os ra : Nat)) ∧ Below X.heap.size X w') := fun X hb => by
    have q := refOwn_any ⟨A1, c1, A2, c2, A3, c3⟩ t ra X (S0.later hb).bx.tab (by omega)
    unfold tabV at q
    rwa [HN1.out, HN2.out, HN3.out] at q
  rw [HN1.out, HN2.out, HN3.out] at hW0 ⊢
  have HW0 := Lib.hid hW0
  obtain ⟨y0, y1, y2, r0, r1, r2, r3, r4, r5, s0, s1, s2, sf0, sf1, sf2, pf0, pf1⟩ := HALL.out W0 (Below.refl _ _)
  have HS0 := Lib.hid S0
  have HB0 : Hid (Below W0.heap.size W0 W0) := Below.refl _ _
  rcases ten_cases t.ts ra with ⟨j, hj, he, hlj, hat⟩ | ⟨hlj, hat⟩
  · rw [tenI_at hj he hlj]
    obtain ⟨g, hA, _, hgl, hX⟩ := S0.bx.tenAt hj
    simp only at hA
    subst hA
    have j0 : (0 : Int) ≤ (j : Int) := by omega
    have jn : ¬ (j : Int) < 0 := by omega
    have j1 : (j : Int) < (N1 : Int) := by have := HN1.out; omega
    have hq := (hs.ten _ (List.getElem_mem hj)).1.quota
    obtain ⟨x, hx⟩ : ∃ x, x = t.ts[j] := ⟨_, rfl⟩
    rw [← hx] at hX hat hq
    have HX : Hid (∀ X, Below W0.heap.size W0 X → (X.cell? ⟨g, j * 6, none⟩ = some (.int .i64 x.id) ∧ X.cell? ⟨g, j * 6 + 1, none⟩ = some (.int .i64 x.quota) ∧ X.cell? ⟨g, j * 6 + 2, none⟩ = some (.int .i64 x.rate) ∧ X.cell? ⟨g, j * 6 + 3, none⟩ = some (.int .i64 x.burst) ∧ X.cell? ⟨g, j * 6 + 4, none⟩ = some (.string x.key) ∧ X.cell? ⟨g, j * 6 + 5, none⟩ = some (.bool x.dying)) ∧ X.frozen? ⟨g, j * 6 + 1, none⟩ = false ∧ X.frozen? ⟨g, j * 6 + 5, none⟩ = false) := fun X hb => ⟨(hX X hb).1, (hX X hb).2 _, (hX X hb).2 _⟩
    have HSET : Hid (∀ (i : Nat) (v : Value) (y : Ten), i < 6 → tenC y = (tenC x).set i v → ∀ X, Below W0.heap.size W0 X → AllAt w (X.setCell ⟨g, j * 6 + i, none⟩ v) (some ⟨g, 0, none⟩) N1 c1 A2 N2 c2 A3 N3 c3 2 ra rb rc rd key ∧ FinAt lo w V0 (X.setCell ⟨g, j * 6 + i, none⟩ v) (some ⟨g, 0, none⟩) N1 c1 A2 N2 c2 A3 N3 c3 { t with ts := t.ts.set j y }) := fun i v y hi hy X hb => by
      have q := (S0.later hb).setT rfl hj hi v y (by rw [← hx]; exact hy)
      have e2 : ({ t with ts := t.ts.set j y } : Tab).ts.length = N1 := by show (t.ts.set j y).length = N1; rw [List.length_set]; exact HN1.out
      exact ⟨q.all e2 HN2.out HN3.out, q.fin e2 HN2.out HN3.out⟩
    obtain ⟨⟨x0, x1, x2, x3, x4, x5⟩, f1, f5⟩ := HX.out W0 (Below.refl _ _)
    obtain ⟨W1, HW1⟩ : ∃ W, Hid (W = W0.alloc (.cells #[.int .i64 x.id, .int .i64 x.quota, .int .i64 x.rate, .int .i64 x.burst, .string x.key, .bool x.dying] 49)) := ⟨_, rfl⟩
    have HB1 : Hid (Below W0.heap.size W0 W1) := by rw [HW1.out]; exact (Below.refl _ _).alloc (Nat.le_refl _) _
    have HXB : Hid (∀ X, Below W1.heap.size W1 X → X.cell? ⟨W0.heap.size, 1, none⟩ = some (.int .i64 x.quota) ∧ X.cell? ⟨W0.heap.size, 5, none⟩ = some (.bool x.dying)) := fun X hb => by
      have q := heap_alloc_new W0 (.cells #[.int .i64 x.id, .int .i64 x.quota, .int .i64 x.rate, .int .i64 x.burst, .string x.key, .bool x.dying] 49)
      rw [← HW1.out] at q
      have q2 := (hb.block _ (Array.getElem?_eq_some_iff.1 q).1).trans q
      exact ⟨by rw [cell_of_row _ _ _ _ _ _ q2]; rfl, by rw [cell_of_row _ _ _ _ _ _ q2]; rfl⟩
    have H2 : oneR t ⟨2, ra, rb, rc, rd, key⟩ = if x.dying = true ∨ rb < (ownN t.os ra : Int) then (10, t) else if (N3 : Int) < sumQ t.ts - x.quota + rb then (6, t) else (0, { t with ts := t.ts.set j { x with quota := rb } }) := by
      show one2 t ⟨2, ra, rb, rc, rd, key⟩ = _
      unfold one2
      rw [hat]
      show (if x.dying = true ∨ rb < (ownN t.os ra : Int) then _ else if (t.os.length : Int) < _ then _ else _) = _
      rw [updK_set Ten.id (fun x => { x with quota := rb }) hj hs.up he, ← hx, HN3.out]
    have HQU : Hid (∀ X, Below W0.heap.size W0 X → Calls Tryz.prog 38 #[.agg #[.slice (some ⟨g, 0, none⟩) N1 c1, .slice A2 N2 c2, .slice A3 N3 c3]] X fun e w' => e = .returned (.int .i64 (sumQ t.ts)) ∧ Below X.heap.size X w') := fun X hb => by
      have q := refQuotas_any ⟨some ⟨g, 0, none⟩, c1, A2, c2, A3, c3⟩ t X (S0.later hb).bx.tab (by omega) (fun x hx => (hs.ten x hx).1.quota)
      unfold tabV at q
      rwa [HN1.out, HN2.out, HN3.out] at q
    have hsq := sumQ_small (fun x hx => (hs.ten x hx).1.quota) t.ts.length
    rw [List.take_length] at hsq
    obtain ⟨m, hm⟩ : ∃ m, m = ownN t.os ra := ⟨_, rfl⟩
    obtain ⟨s, hsm⟩ : ∃ s, s = sumQ t.ts := ⟨_, rfl⟩
    simp only [← hm] at HOW
    rw [← hsm] at HQU hsq H2
    rw [← hm] at H2
    obtain ⟨T, hT⟩ : ∃ T, T = ({ t with ts := t.ts.set j { x with quota := rb } } : Tab) := ⟨_, rfl⟩
    have HST := Lib.hid (HSET.out 1 (.int .i64 rb) { x with quota := rb } (by decide) rfl)
    rw [← hT] at HST H2
    obtain ⟨xi, xq, xr, xb, xk, xd⟩ := x
    simp only at x0 x1 x2 x3 x4 x5 HX HXB HW1 H2 hq
    unfold inR at hf
    have v1 : IntKind.i64.wrap (s - xq) = s - xq := IntWalk.i64_in _ (by omega)
    have v2 : IntKind.i64.wrap (s - xq + rb) = s - xq + rb := IntWalk.i64_in _ (by omega)
    have HV1 := Lib.hid v1
    have HV2 := Lib.hid v2
    clear h hl hs S0 hW0 n1 n2 n3 hX hgl hlj hat he hj hx hq hT HSET hm hsm hsq hf v1 v2
    cases xd
    · by_cases cq : rb < (m : Int)
      · have HE : Hid (oneR t ⟨2, ra, rb, rc, rd, key⟩ = (10, t)) := by show _ = _; rw [H2, if_pos (.inr cq)]
        rw [HE.out]
        have d1 : (m : Int) > rb := cq
        clear HE H2 cq
        go_enter Tryz.func39, Tryz.ntmps39
        go_wp2_with (first
          | (rw [← HW0.out]; clear HW0)
          | (rw [← HW1.out]; clear HW1; obtain ⟨e1, e5⟩ := HXB.out W1 (Below.refl _ _); obtain ⟨y0, y1, y2, r0, r1, r2, r3, r4, r5, s0, s1, s2, sf0, sf1, sf2, pf0, pf1⟩ := HALL.out W1 HB1.out; obtain ⟨⟨x0, x1, x2, x3, x4, x5⟩, f1, f5⟩ := HX.out W1 HB1.out))
        have hbx := HB1.out.drew
        have hb1x := (Below.refl W1.heap.size W1).drew
        go_region_held3 (fun W => ((W.cell? ⟨W0.heap.size, 5, none⟩ = some (.bool false)) ∧ W.cell? ⟨w.heap.size, 0, none⟩ = some (.slice (some ⟨g, 0, none⟩) N1 c1) ∧ W.cell? ⟨w.heap.size, 1, none⟩ = some (.slice A2 N2 c2) ∧ W.cell? ⟨w.heap.size, 2, none⟩ = some (.slice A3 N3 c3)) ∧ W.cell? ⟨w.heap.size + 1, 1, none⟩ = some (.int .i64 ra) ∧ W.cell? ⟨w.heap.size + 1, 2, none⟩ = some (.int .i64 rb))
          (exact ⟨⟨(HXB.out _ hb1x).2, (HALL.out _ hbx).1, (HALL.out _ hbx).2.1, (HALL.out _ hbx).2.2.1⟩, (HALL.out _ hbx).2.2.2.2.1, (HALL.out _ hbx).2.2.2.2.2.1⟩)
          (first
            | (go_at_call 36; with_reducible (refine Calls.mono (HOW.out _ hbx) ?_); rintro e w3 ⟨rfl, hb3⟩; have hbx := chain hbx hb3; have hb1x := chain hb1x hb3)
            | fail)
        obtain ⟨y0, y1, y2, r0, r1, r2, r3, r4, r5, s0, s1, s2, sf0, sf1, sf2, pf0, pf1⟩ := HALL.out _ hbx
        go_wp2
        have hr := HFIN.out _ hbx
        refine bodyPost_ret (results_row_tmpT rfl _ _ (w.heap.size + 1 + 1) _ _ _ _ rfl hr.1 Tryz.underlying26 rfl (by kernel_rfl)) rfl ?_
        exact hr.2 10 _ rfl
      · rw [if_neg (fun q => q.elim (by decide) cq)] at H2
        have d1 : ¬ (m : Int) > rb := cq
        by_cases cr : (N3 : Int) < s - xq + rb
        · have HE : Hid (oneR t ⟨2, ra, rb, rc, rd, key⟩ = (6, t)) := by show _ = _; rw [H2, if_pos cr]
          rw [HE.out]
          have d2 : s - xq + rb > (N3 : Int) := cr
          clear HE H2 cq cr
          go_enter Tryz.func39, Tryz.ntmps39
          go_wp2_with (first
            | (rw [← HW0.out]; clear HW0)
            | (rw [← HW1.out]; clear HW1; obtain ⟨e1, e5⟩ := HXB.out W1 (Below.refl _ _); obtain ⟨y0, y1, y2, r0, r1, r2, r3, r4, r5, s0, s1, s2, sf0, sf1, sf2, pf0, pf1⟩ := HALL.out W1 HB1.out; obtain ⟨⟨x0, x1, x2, x3, x4, x5⟩, f1, f5⟩ := HX.out W1 HB1.out))
          have hbx := HB1.out.drew
          have hb1x := (Below.refl W1.heap.size W1).drew
          go_region_held3 (fun W => ((W.cell? ⟨W0.heap.size, 5, none⟩ = some (.bool false)) ∧ W.cell? ⟨w.heap.size, 0, none⟩ = some (.slice (some ⟨g, 0, none⟩) N1 c1) ∧ W.cell? ⟨w.heap.size, 1, none⟩ = some (.slice A2 N2 c2) ∧ W.cell? ⟨w.heap.size, 2, none⟩ = some (.slice A3 N3 c3)) ∧ W.cell? ⟨w.heap.size + 1, 1, none⟩ = some (.int .i64 ra) ∧ W.cell? ⟨w.heap.size + 1, 2, none⟩ = some (.int .i64 rb))
            (exact ⟨⟨(HXB.out _ hb1x).2, (HALL.out _ hbx).1, (HALL.out _ hbx).2.1, (HALL.out _ hbx).2.2.1⟩, (HALL.out _ hbx).2.2.2.2.1, (HALL.out _ hbx).2.2.2.2.2.1⟩)
            (first
              | (go_at_call 36; with_reducible (refine Calls.mono (HOW.out _ hbx) ?_); rintro e w3 ⟨rfl, hb3⟩; have hbx := chain hbx hb3; have hb1x := chain hb1x hb3)
              | fail)
          obtain ⟨y0, y1, y2, r0, r1, r2, r3, r4, r5, s0, s1, s2, sf0, sf1, sf2, pf0, pf1⟩ := HALL.out _ hbx
          go_wp2_with fail
          have v1 := HV1.out
          have v2 := HV2.out
          have hbx := hbx.drew
          have hb1x := hb1x.drew
          go_region_held3 (fun W => ((W.cell? ⟨W0.heap.size, 1, none⟩ = some (.int .i64 xq)) ∧ W.cell? ⟨w.heap.size, 0, none⟩ = some (.slice (some ⟨g, 0, none⟩) N1 c1) ∧ W.cell? ⟨w.heap.size, 1, none⟩ = some (.slice A2 N2 c2) ∧ W.cell? ⟨w.heap.size, 2, none⟩ = some (.slice A3 N3 c3)) ∧ W.cell? ⟨w.heap.size + 1, 2, none⟩ = some (.int .i64 rb))
            (exact ⟨⟨(HXB.out _ hb1x).1, (HALL.out _ hbx).1, (HALL.out _ hbx).2.1, (HALL.out _ hbx).2.2.1⟩, (HALL.out _ hbx).2.2.2.2.2.1⟩)
            (first
              | (go_at_call 38; with_reducible (refine Calls.mono (HQU.out _ hbx) ?_); rintro e w4 ⟨rfl, hb4⟩; have hbx := chain hbx hb4; have hb1x := chain hb1x hb4)
              | fail)
          obtain ⟨y0, y1, y2, r0, r1, r2, r3, r4, r5, s0, s1, s2, sf0, sf1, sf2, pf0, pf1⟩ := HALL.out _ hbx
          go_wp2
          have hr := HFIN.out _ hbx
          refine bodyPost_ret (results_row_tmpT rfl _ _ (w.heap.size + 1 + 1) _ _ _ _ rfl hr.1 Tryz.underlying26 rfl (by kernel_rfl)) rfl ?_
          exact hr.2 6 _ rfl
        · have HE : Hid (oneR t ⟨2, ra, rb, rc, rd, key⟩ = (0, T)) := by show _ = _; rw [H2, if_neg cr]
          rw [HE.out]
          have d2 : ¬ s - xq + rb > (N3 : Int) := cr
          clear HE H2 cq cr
          go_enter Tryz.func39, Tryz.ntmps39
          go_wp2_with (first
            | (rw [← HW0.out]; clear HW0)
            | (rw [← HW1.out]; clear HW1; obtain ⟨e1, e5⟩ := HXB.out W1 (Below.refl _ _); obtain ⟨y0, y1, y2, r0, r1, r2, r3, r4, r5, s0, s1, s2, sf0, sf1, sf2, pf0, pf1⟩ := HALL.out W1 HB1.out; obtain ⟨⟨x0, x1, x2, x3, x4, x5⟩, f1, f5⟩ := HX.out W1 HB1.out))
          have hbx := HB1.out.drew
          have hb1x := (Below.refl W1.heap.size W1).drew
          go_region_held3 (fun W => ((W.cell? ⟨W0.heap.size, 5, none⟩ = some (.bool false)) ∧ W.cell? ⟨w.heap.size, 0, none⟩ = some (.slice (some ⟨g, 0, none⟩) N1 c1) ∧ W.cell? ⟨w.heap.size, 1, none⟩ = some (.slice A2 N2 c2) ∧ W.cell? ⟨w.heap.size, 2, none⟩ = some (.slice A3 N3 c3)) ∧ W.cell? ⟨w.heap.size + 1, 1, none⟩ = some (.int .i64 ra) ∧ W.cell? ⟨w.heap.size + 1, 2, none⟩ = some (.int .i64 rb))
            (exact ⟨⟨(HXB.out _ hb1x).2, (HALL.out _ hbx).1, (HALL.out _ hbx).2.1, (HALL.out _ hbx).2.2.1⟩, (HALL.out _ hbx).2.2.2.2.1, (HALL.out _ hbx).2.2.2.2.2.1⟩)
            (first
              | (go_at_call 36; with_reducible (refine Calls.mono (HOW.out _ hbx) ?_); rintro e w3 ⟨rfl, hb3⟩; have hbx := chain hbx hb3; have hb1x := chain hb1x hb3)
              | fail)
          obtain ⟨y0, y1, y2, r0, r1, r2, r3, r4, r5, s0, s1, s2, sf0, sf1, sf2, pf0, pf1⟩ := HALL.out _ hbx
          go_wp2_with fail
          have v1 := HV1.out
          have v2 := HV2.out
          have hbx := hbx.drew
          have hb1x := hb1x.drew
          go_region_held3 (fun W => ((W.cell? ⟨W0.heap.size, 1, none⟩ = some (.int .i64 xq)) ∧ W.cell? ⟨w.heap.size, 0, none⟩ = some (.slice (some ⟨g, 0, none⟩) N1 c1) ∧ W.cell? ⟨w.heap.size, 1, none⟩ = some (.slice A2 N2 c2) ∧ W.cell? ⟨w.heap.size, 2, none⟩ = some (.slice A3 N3 c3)) ∧ W.cell? ⟨w.heap.size + 1, 2, none⟩ = some (.int .i64 rb))
            (exact ⟨⟨(HXB.out _ hb1x).1, (HALL.out _ hbx).1, (HALL.out _ hbx).2.1, (HALL.out _ hbx).2.2.1⟩, (HALL.out _ hbx).2.2.2.2.2.1⟩)
            (first
              | (go_at_call 38; with_reducible (refine Calls.mono (HQU.out _ hbx) ?_); rintro e w4 ⟨rfl, hb4⟩; have hbx := chain hbx hb4; have hb1x := chain hb1x hb4)
              | fail)
          obtain ⟨y0, y1, y2, r0, r1, r2, r3, r4, r5, s0, s1, s2, sf0, sf1, sf2, pf0, pf1⟩ := HALL.out _ hbx
          obtain ⟨_, f1, f5⟩ := HX.out _ hbx
          have x1 := (HX.out _ hbx).1.2.1
          obtain ⟨W2, HW2⟩ : ∃ W, Hid (W = w4.setCell ⟨g, j * 6 + 1, none⟩ (.int .i64 rb)) := ⟨_, rfl⟩
          have HS1 := Lib.hid (HST.out _ hbx)
          rw [← HW2.out] at HS1
          go_wp2_with (first
            | (rw [← HW2.out]; clear HW2; obtain ⟨y0, y1, y2, r0, r1, r2, r3, r4, r5, s0, s1, s2, sf0, sf1, sf2, pf0, pf1⟩ := HS1.out.1))
          have hr := HS1.out.2
          refine bodyPost_ret (results_row_tmpT rfl _ _ (w.heap.size + 1 + 1) _ _ _ _ rfl hr.1 Tryz.underlying26 rfl (by kernel_rfl)) rfl ?_
          exact hr.2 0 _ rfl
    · have HE : Hid (oneR t ⟨2, ra, rb, rc, rd, key⟩ = (10, t)) := by show _ = _; rw [H2, if_pos (.inl rfl)]
      rw [HE.out]
      clear HE H2
      go_enter Tryz.func39, Tryz.ntmps39
      go_wp2_with (first
        | (rw [← HW0.out]; clear HW0)
        | (rw [← HW1.out]; clear HW1; obtain ⟨e1, e5⟩ := HXB.out W1 (Below.refl _ _); obtain ⟨y0, y1, y2, r0, r1, r2, r3, r4, r5, s0, s1, s2, sf0, sf1, sf2, pf0, pf1⟩ := HALL.out W1 HB1.out; obtain ⟨⟨x0, x1, x2, x3, x4, x5⟩, f1, f5⟩ := HX.out W1 HB1.out))
      go_quiet (fail)
      have hbx := below_drewN HB1.out nq
      obtain ⟨y0, y1, y2, r0, r1, r2, r3, r4, r5, s0, s1, s2, sf0, sf1, sf2, pf0, pf1⟩ := HALL.out _ hbx
      go_wp2
      have hr := HFIN.out _ hbx
      refine bodyPost_ret (results_row_tmpT rfl _ _ (w.heap.size + 1 + 1) _ _ _ _ rfl hr.1 Tryz.underlying26 rfl (by kernel_rfl)) rfl ?_
      exact hr.2 10 _ rfl
  · rw [tenI_no hlj]
    have HE : Hid (oneR t ⟨2, ra, rb, rc, rd, key⟩ = (4, t)) := by
      show one2 t _ = _
      unfold one2
      rw [hat]
    rw [HE.out]
    clear HE h hl hs S0 hW0 n1 n2 n3 hlj hat HOW
    go_enter Tryz.func39, Tryz.ntmps39
    go_wp2_with (first
      | (rw [← HW0.out]; clear HW0))
    have hr := HFIN.out _ HB0.out
    refine bodyPost_ret (results_row_tmpT rfl _ _ (w.heap.size + 1 + 1) _ _ _ _ rfl hr.1 Tryz.underlying26 rfl (by kernel_rfl)) rfl ?_
    exact hr.2 4 _ rfl

end Go.Proofs.YtnenpafofplbhaaGreat

namespace Go.Proofs.YtnenpafofplbhaaGreat
open Go.RowKit

set_option maxHeartbeats 6400000 in
set_option maxRecDepth 20000 in
/-- 'tenant'. -/
theorem docTen4_any {lo : Nat} {w : World} {t : Tab} (A1 : Option Addr) (c1 : Nat) (A2 : Option Addr) (c2 : Nat) (A3 : Option Addr) (c3 : Nat) (h : RowsSl lo w ⟨A1, c1, A2, c2, A3, c3⟩ t) (hl : lo ≤ w.heap.size) (hs : t.sound) (ra rb rc rd : Int) (key : ByteArray) (V0 : TabW) (hV0 : V0 = ⟨A1, c1, A2, c2, A3, c3⟩) :
    Calls Tryz.prog 39 #[.agg #[.slice A1 t.ts.length c1, .slice A2 t.vs.length c2, .slice A3 t.os.length c3], .agg #[.int .i64 4, .int .i64 ra, .int .i64 rb, .int .i64 rc, .int .i64 rd, .string key], .int .i64 (tenI t.ts ra)] w (OneAns lo w V0 (oneR t ⟨4, ra, rb, rc, rd, key⟩)) := by
  obtain ⟨n1, n2, n3⟩ := sound_few hs
  obtain ⟨W0, hW0, S0⟩ := bx3_start hV0 h hl 4 ra rb rc rd key
  clear hV0
  obtain ⟨N1, HN1⟩ : ∃ N, Hid (t.ts.length = N) := ⟨_, rfl⟩
  obtain ⟨N2, HN2⟩ : ∃ N, Hid (t.vs.length = N) := ⟨_, rfl⟩
  obtain ⟨N3, HN3⟩ : ∃ N, Hid (t.os.length = N) := ⟨_, rfl⟩
  have HALL : Hid (∀ X, Below W0.heap.size W0 X → AllAt w X A1 N1 c1 A2 N2 c2 A3 N3 c3 4 ra rb rc rd key) := fun X hb => (S0.later hb).all HN1.out HN2.out HN3.out
  have HFIN : Hid (∀ X, Below W0.heap.size W0 X → FinAt lo w V0 X A1 N1 c1 A2 N2 c2 A3 N3 c3 t) := fun X hb => (S0.later hb).fin HN1.out HN2.out HN3.out
  have HOW : Hid (∀ X, Below W0.heap.size W0 X → Calls Tryz.prog 36 #[.agg #[.slice A1 N1 c1, .slice A2 N2 c2, .slice A3 N3 c3], .int .i64 ra] X fun e w' => e = .returned (.int .i64 (ownN t.os ra : Nat)) ∧ Below X.heap.size X w') := fun X hb => by
    have q := refOwn_any ⟨A1, c1, A2, c2, A3, c3⟩ t ra X (S0.later hb).bx.tab (by omega)
    unfold tabV at q
    rwa [HN1.out, HN2.out, HN3.out] at q
  rw [HN1.out, HN2.out, HN3.out] at hW0 ⊢
  have HW0 := Lib.hid hW0
  obtain ⟨y0, y1, y2, r0, r1, r2, r3, r4, r5, s0, s1, s2, sf0, sf1, sf2, pf0, pf1⟩ := HALL.out W0 (Below.refl _ _)
  have HS0 := Lib.hid S0
  have HB0 : Hid (Below W0.heap.size W0 W0) := Below.refl _ _
  rcases ten_cases t.ts ra with ⟨j, hj, he, hlj, hat⟩ | ⟨hlj, hat⟩
  · rw [tenI_at hj he hlj]
    obtain ⟨g, hA, _, hgl, hX⟩ := S0.bx.tenAt hj
    simp only at hA
    subst hA
    have j0 : (0 : Int) ≤ (j : Int) := by omega
    have jn : ¬ (j : Int) < 0 := by omega
    have j1 : (j : Int) < (N1 : Int) := by have := HN1.out; omega
    have hq := (hs.ten _ (List.getElem_mem hj)).1.quota
    obtain ⟨x, hx⟩ : ∃ x, x = t.ts[j] := ⟨_, rfl⟩
    rw [← hx] at hX hat hq
    have HX : Hid (∀ X, Below W0.heap.size W0 X → (X.cell? ⟨g, j * 6, none⟩ = some (.int .i64 x.id) ∧ X.cell? ⟨g, j * 6 + 1, none⟩ = some (.int .i64 x.quota) ∧ X.cell? ⟨g, j * 6 + 2, none⟩ = some (.int .i64 x.rate) ∧ X.cell? ⟨g, j * 6 + 3, none⟩ = some (.int .i64 x.burst) ∧ X.cell? ⟨g, j * 6 + 4, none⟩ = some (.string x.key) ∧ X.cell? ⟨g, j * 6 + 5, none⟩ = some (.bool x.dying)) ∧ X.frozen? ⟨g, j * 6 + 1, none⟩ = false ∧ X.frozen? ⟨g, j * 6 + 5, none⟩ = false) := fun X hb => ⟨(hX X hb).1, (hX X hb).2 _, (hX X hb).2 _⟩
    have HSET : Hid (∀ (i : Nat) (v : Value) (y : Ten), i < 6 → tenC y = (tenC x).set i v → ∀ X, Below W0.heap.size W0 X → AllAt w (X.setCell ⟨g, j * 6 + i, none⟩ v) (some ⟨g, 0, none⟩) N1 c1 A2 N2 c2 A3 N3 c3 4 ra rb rc rd key ∧ FinAt lo w V0 (X.setCell ⟨g, j * 6 + i, none⟩ v) (some ⟨g, 0, none⟩) N1 c1 A2 N2 c2 A3 N3 c3 { t with ts := t.ts.set j y }) := fun i v y hi hy X hb => by
      have q := (S0.later hb).setT rfl hj hi v y (by rw [← hx]; exact hy)
      have e2 : ({ t with ts := t.ts.set j y } : Tab).ts.length = N1 := by show (t.ts.set j y).length = N1; rw [List.length_set]; exact HN1.out
      exact ⟨q.all e2 HN2.out HN3.out, q.fin e2 HN2.out HN3.out⟩
    obtain ⟨⟨x0, x1, x2, x3, x4, x5⟩, f1, f5⟩ := HX.out W0 (Below.refl _ _)
    obtain ⟨W1, HW1⟩ : ∃ W, Hid (W = W0.alloc (.cells #[.int .i64 x.id, .int .i64 x.quota, .int .i64 x.rate, .int .i64 x.burst, .string x.key, .bool x.dying] 49)) := ⟨_, rfl⟩
    have HB1 : Hid (Below W0.heap.size W0 W1) := by rw [HW1.out]; exact (Below.refl _ _).alloc (Nat.le_refl _) _
    have HXB : Hid (∀ X, Below W1.heap.size W1 X → X.cell? ⟨W0.heap.size, 1, none⟩ = some (.int .i64 x.quota) ∧ X.cell? ⟨W0.heap.size, 5, none⟩ = some (.bool x.dying)) := fun X hb => by
      have q := heap_alloc_new W0 (.cells #[.int .i64 x.id, .int .i64 x.quota, .int .i64 x.rate, .int .i64 x.burst, .string x.key, .bool x.dying] 49)
      rw [← HW1.out] at q
      have q2 := (hb.block _ (Array.getElem?_eq_some_iff.1 q).1).trans q
      exact ⟨by rw [cell_of_row _ _ _ _ _ _ q2]; rfl, by rw [cell_of_row _ _ _ _ _ _ q2]; rfl⟩
    have H4 : oneR t ⟨4, ra, rb, rc, rd, key⟩ = if x.dying = false ∨ 0 < ownN t.os ra ∨ hasV t.vs ra then (10, t) else (0, { t with ts := t.ts.eraseIdx j }) := by
      show one4 t ⟨4, ra, rb, rc, rd, key⟩ = _
      unfold one4
      rw [hat]
      show (if x.dying = false ∨ 0 < ownN t.os ra ∨ hasV t.vs ra then _ else _) = _
      rw [filter_erase Ten.id hj hs.up he]
    obtain ⟨i0, hi, hz0, hz1, hz2⟩ := info_parts Tryz.infoTenD
    have c1N : N1 ≤ c1 := by have := sl_le S0.bx.rows.ts; rwa [HN1.out] at this
    have n1N : N1 ≤ 7 := by have := HN1.out; omega
    have n2N : N2 ≤ 8 := by have := HN2.out; omega
    have HNN : Hid (N1 ≤ c1 ∧ N1 ≤ 7 ∧ N2 ≤ 8) := ⟨c1N, n1N, n2N⟩
    have HCUT : Hid (∀ X, Below W0.heap.size W0 X → SlRow X lo 49 6 (some ⟨g, 0, none⟩) j j (flat tenC (t.ts.take j))) := fun X hb => sl_cut tenC_len (S0.later hb).bx.rows.ts rfl (Nat.le_of_lt hj)
    obtain ⟨ad, hif, had⟩ := cut_ad g c1 j 6
    have HIF := Lib.hid hif
    have HFL : Hid ((flat tenC (t.ts.drop (j + 1))).length = (N1 - (j + 1)) * 6) := by show _ = _; rw [flat_len tenC_len, List.length_drop, HN1.out]
    have HF1 := Lib.hid (flat_one tenC_one (t.ts.drop (j + 1)))
    have HNW : Hid (∀ X, Below W0.heap.size W0 X → ∀ i u, (flat tenC (t.ts.drop (j + 1)))[i]? = some u → X.cell? (ad.add i) = some u) := fun X hb => tens_rest (S0.later hb).bx.tab.ts (by rw [HN1.out]; exact c1N) had
    have HLO := Lib.hid S0.lo_le
    have HMID : Hid (∀ X0, Below W0.heap.size W0 X0 → ∀ X, X0.grownBy X (ob (some ⟨g, 0, none⟩)) → X.cell? ⟨w.heap.size, 0, none⟩ = some (.slice (some ⟨g, 0, none⟩) N1 c1) ∧ X.frozen? ⟨w.heap.size, 0, none⟩ = false) := fun X0 h0 X hg => by
      have q := (S0.later h0).midT hg
      rwa [HN1.out] at q
    have HEND : Hid (∀ X0, Below W0.heap.size W0 X0 → ∀ A' c' X, SlRow X lo 49 6 A' (j + (N1 - (j + 1))) c' (flat tenC (t.ts.take j) ++ flat tenC (t.ts.drop (j + 1))) → X0.grownBy X (ob (some ⟨g, 0, none⟩)) → (ob A' = ob (some ⟨g, 0, none⟩) ∨ ob A' = some X0.heap.size) →
        AllAt w (X.setCell ⟨w.heap.size, 0, none⟩ (.slice A' (j + (N1 - (j + 1))) c')) A' (j + (N1 - (j + 1))) c' A2 N2 c2 A3 N3 c3 4 ra rb rc rd key ∧ FinAt lo w V0 (X.setCell ⟨w.heap.size, 0, none⟩ (.slice A' (j + (N1 - (j + 1))) c')) A' (j + (N1 - (j + 1))) c' A2 N2 c2 A3 N3 c3 { t with ts := t.ts.eraseIdx j }) := fun X0 h0 A' c' X hr hg hw => by
      have eM : (t.ts.eraseIdx j).length = j + (N1 - (j + 1)) := by rw [List.length_eraseIdx_of_lt hj, HN1.out]; omega
      rw [erase_flat] at hr
      have q := (S0.later h0).turnT (by rw [eM]; exact hr) hg hw
      rw [eM] at q
      exact ⟨q.all eM HN2.out HN3.out, q.fin eM HN2.out HN3.out⟩
    have HVS : Hid (∀ X, Below W0.heap.size W0 X → VolsAt X X.heap.size A2 t.vs) := fun X hb => (S0.later hb).bx.tab.vs
    obtain ⟨m, hm⟩ : ∃ m, m = ownN t.os ra := ⟨_, rfl⟩
    simp only [← hm] at HOW
    rw [← hm] at H4
    obtain ⟨xi, xq, xr, xb, xk, xd⟩ := x
    simp only at x0 x1 x2 x3 x4 x5 HX HXB HW1 H4
    have H4O := Lib.hid H4
    clear h hl hs S0 hW0 n1 n2 n3 hX hgl hlj hat he hj hx hq HSET hm hif had H4 c1N n1N n2N
    go_enter Tryz.func39, Tryz.ntmps39
    go_wp2_with (first
      | (rw [← HW0.out]; clear HW0)
      | (rw [← HW1.out]; clear HW1; obtain ⟨e1, e5⟩ := HXB.out W1 (Below.refl _ _); obtain ⟨y0, y1, y2, r0, r1, r2, r3, r4, r5, s0, s1, s2, sf0, sf1, sf2, pf0, pf1⟩ := HALL.out W1 HB1.out; obtain ⟨⟨x0, x1, x2, x3, x4, x5⟩, f1, f5⟩ := HX.out W1 HB1.out))
    go_loopw [9] (fun i wr => ∃ k : Nat, k ≤ N2 ∧ i = .int .i64 k ∧ Hid (∀ j2, (h : j2 < t.vs.length) → j2 < k → t.vs[j2].ten ≠ ra) ∧ Hid (Below W1.heap.size W1 wr)) (fun i _ => N2 - (intOf i).toNat)
    case atStart => exact ⟨0, Nat.zero_le _, rfl, fun j _ hj => absurd hj (Nat.not_lt_zero j), Below.refl _ _⟩
    case round =>
      have n2N := HNN.out.2.2
      obtain ⟨k, hk, rfl, hall, hbw⟩ := hrel
      have k0 : (0 : Int) ≤ (k : Int) := by omega
      have hbx := chain HB1.out hbw.out
      have HBX := Lib.hid hbx
      obtain ⟨y0, y1, y2, r0, r1, r2, r3, r4, r5, s0, s1, s2, sf0, sf1, sf2, pf0, pf1⟩ := HALL.out _ hbx
      by_cases hlt : k < N2
      · have hkx : k < t.vs.length := by have := HN2.out; omega
        have k1 : (k : Int) < (N2 : Int) := by omega
        obtain ⟨b, off, rfl, _, _, q1, _, _⟩ := HVS.out _ hbx k hkx
        by_cases he : t.vs[k].ten = ra
        · have HE : Hid (oneR t ⟨4, ra, rb, rc, rd, key⟩ = (10, t)) := by show _ = _; rw [H4O.out, if_pos (.inr (.inr ⟨_, List.getElem_mem hkx, he⟩))]
          obtain ⟨p, hp⟩ : ∃ p, p = t.vs[k].ten := ⟨_, rfl⟩
          rw [← hp] at q1 he
          have d : (p == ra) = true := beq_iff_eq.2 he
          clear hp he H4O hbx HVS HEND HMID HNW HCUT
          go_wp2
          go_quiet (fail)
          have hbx := below_drewN HBX.out nq
          obtain ⟨y0, y1, y2, r0, r1, r2, r3, r4, r5, s0, s1, s2, sf0, sf1, sf2, pf0, pf1⟩ := HALL.out _ hbx
          go_wp2
          have hr := HFIN.out _ hbx
          refine bodyPost_ret (results_row_tmpT rfl _ _ (w.heap.size + 1 + 1) _ _ _ _ rfl hr.1 Tryz.underlying26 rfl (by kernel_rfl)) rfl ?_
          rw [HE.out]
          exact hr.2 10 _ rfl
        · have HYES : Hid (∀ j2, (h : j2 < t.vs.length) → j2 < k + 1 → t.vs[j2].ten ≠ ra) := fun j2 hj hj2 => by
            rcases Nat.lt_or_ge j2 k with g | g
            · exact hall.out j2 hj g
            · have : j2 = k := by omega
              subst this; exact he
          obtain ⟨p, hp⟩ : ∃ p, p = t.vs[k].ten := ⟨_, rfl⟩
          rw [← hp] at q1 he
          have d : (p == ra) = false := beq_eq_false_iff_ne.2 he
          clear hp he hbx HVS HEND HMID HNW HCUT
          go_wp2
          go_quiet (fail)
          go_wp2
          go_roundw
          case rel => exact ⟨k + 1, by omega, by go_num, HYES, below_drewN hbw.out nq⟩
          case measure => first | (simp [intOf]; done) | (simp [intOf]; omega)
      · have hkN : k = N2 := by omega
        have hnv : ¬ hasV t.vs ra := fun ⟨v, hv, hvt⟩ => by
          obtain ⟨i, hi, hiv⟩ := List.mem_iff_getElem.1 hv
          exact hall.out i hi (by have := HN2.out; omega) (by rw [hiv]; exact hvt)
        have k1 : ¬ (k : Int) < (N2 : Int) := by omega
        obtain ⟨e1, e5⟩ := HXB.out _ hbw.out
        have HNV := Lib.hid hnv
        clear hkN hnv hbx
        cases xd
        · have HE : Hid (oneR t ⟨4, ra, rb, rc, rd, key⟩ = (10, t)) := by show _ = _; rw [H4O.out, if_pos (.inl rfl)]
          clear H4O HVS HEND HMID HNW HCUT
          go_wp2
          have hr := HFIN.out _ HBX.out
          refine bodyPost_ret (results_row_tmpT rfl _ _ (w.heap.size + 1 + 1) _ _ _ _ rfl hr.1 Tryz.underlying26 rfl (by kernel_rfl)) rfl ?_
          rw [HE.out]
          exact hr.2 10 _ rfl
        · by_cases cq : 0 < m
          · have HE : Hid (oneR t ⟨4, ra, rb, rc, rd, key⟩ = (10, t)) := by show _ = _; rw [H4O.out, if_pos (.inr (.inl cq))]
            have d1 : (m : Int) > 0 := by omega
            clear H4O HVS HEND HMID HNW HCUT
            go_wp2_with (go_at_call 36; with_reducible (refine Calls.mono (HOW.out _ HBX.out) ?_); rintro e w3 ⟨rfl, hb3⟩; obtain ⟨y0, y1, y2, r0, r1, r2, r3, r4, r5, s0, s1, s2, sf0, sf1, sf2, pf0, pf1⟩ := HALL.out _ (chain HBX.out hb3))
            have hr := HFIN.out _ (chain HBX.out hb3)
            refine bodyPost_ret (results_row_tmpT rfl _ _ (w.heap.size + 1 + 1) _ _ _ _ rfl hr.1 Tryz.underlying26 rfl (by kernel_rfl)) rfl ?_
            rw [HE.out]
            exact hr.2 10 _ rfl
          · have HE : Hid (oneR t ⟨4, ra, rb, rc, rd, key⟩ = (0, { t with ts := t.ts.eraseIdx j })) := by
              show _ = _
              rw [H4O.out, if_neg]
              rintro (q | q | q)
              · cases q
              · exact cq q
              · exact HNV.out q
            have d1 : ¬ (m : Int) > 0 := by omega
            clear H4O HVS
            go_wp2_with (go_at_call 36; with_reducible (refine Calls.mono (HOW.out _ HBX.out) ?_); rintro e w3 ⟨rfl, hb3⟩; obtain ⟨y0, y1, y2, r0, r1, r2, r3, r4, r5, s0, s1, s2, sf0, sf1, sf2, pf0, pf1⟩ := HALL.out _ (chain HBX.out hb3))
            have hif := HIF.out
            obtain ⟨c1N, n1N, n2N⟩ := HNN.out
            have jc : (j : Int) ≤ (c1 : Int) := by omega
            have jv : IntKind.i64.wrap ((j : Int) + 1) = (j : Int) + 1 := IntWalk.i64_in _ (by omega)
            have jl0 : (0 : Int) ≤ (j : Int) + 1 := by omega
            have jl : (j : Int) + 1 ≤ (N1 : Int) := by omega
            have jt : ((j : Int) + 1).toNat = j + 1 := by omega
            have HBD : Hid (Below W0.heap.size W0 w3.drew) := (chain HBX.out hb3).drew
            clear hb3
            go_region_law (refine step_append_sl _ rfl _ _ 22 rfl lo 49 i0 (.agg #[.int .i64 0, .int .i64 0, .int .i64 0, .int .i64 0, .string ⟨#[]⟩, .bool false]) 6 56 Tryz.underlying22 hi hz0 hz1 hz2 rfl (by decide) (some ⟨g, 0, none⟩) j j (flat tenC (t.ts.take j)) rfl (HCUT.out _ HBD.out) ad (N1 - (j + 1)) (c1 - (j + 1)) (flat tenC (t.ts.drop (j + 1))) rfl HFL.out (HNW.out _ HBD.out) HF1.out (by unfold maxLen; omega) (by omega) (Nat.le_trans HLO.out HBD.out.size) ?_; intro A' c' w' hrow hgrow hwh; obtain ⟨m1, mf⟩ := HMID.out _ HBD.out _ hgrow)
            all_goals
              have hq := HEND.out _ HBD.out _ _ _ hrow hgrow hwh
              obtain ⟨W2, hW2⟩ : ∃ W, W = w'.setCell ⟨w.heap.size, 0, none⟩ (.slice A' (j + (N1 - (j + 1))) c') := ⟨_, rfl⟩
              rw [← hW2] at hq ⊢
              obtain ⟨q1, q2⟩ := hq
              have HQ := Lib.hid q2
              clear q2 hW2 hrow hgrow hwh m1 mf HEND HMID HNW
              obtain ⟨y0, y1, y2, r0, r1, r2, r3, r4, r5, s0, s1, s2, sf0, sf1, sf2, pf0, pf1⟩ := q1
              go_wp2
              have hr := HQ.out
              refine bodyPost_ret (results_row_tmpT rfl _ _ (w.heap.size + 1 + 1) _ _ _ _ rfl hr.1 Tryz.underlying26 rfl (by kernel_rfl)) rfl ?_
              rw [HE.out]
              exact hr.2 0 _ rfl
  · rw [tenI_no hlj]
    have HE : Hid (oneR t ⟨4, ra, rb, rc, rd, key⟩ = (4, t)) := by
      show one4 t _ = _
      unfold one4
      rw [hat]
    rw [HE.out]
    clear HE h hl hs S0 hW0 n1 n2 n3 hlj hat HOW
    go_enter Tryz.func39, Tryz.ntmps39
    go_wp2_with (first
      | (rw [← HW0.out]; clear HW0))
    have hr := HFIN.out _ HB0.out
    refine bodyPost_ret (results_row_tmpT rfl _ _ (w.heap.size + 1 + 1) _ _ _ _ rfl hr.1 Tryz.underlying26 rfl (by kernel_rfl)) rfl ?_
    exact hr.2 4 _ rfl

end Go.Proofs.YtnenpafofplbhaaGreat
