/-
  SolveBest: the best shares.
-/
import Derived.Test.YtnpdffcplgjbnaaSolveGreedyL
namespace Go.Proofs.Ytnpdffcplgjbnaa
open Go.RowKit

set_option maxHeartbeats 1600000 in
set_option maxRecDepth 20000 in
/-- SolveBest. -/
theorem solveBest_go (total : Int) (A0 A1 : Option Addr) (c0 c1 : Nat) (least : List Int) (ps : List Cur) (w : World) (HS : SolveSpec w) (ha : Asked w total A0 A1 c0 c1 least ps) :
    Calls Try.prog 4 #[.int .i64 total, .slice A0 least.length c0, .slice A1 ps.length c1] w fun e w' => e = .returned (.bool true) ∧ Below w.heap.size w w' := by
  have HA := Lib.hid (fun (W : World) (hb : Below w.heap.size w W) => solveAwake HS W hb)
  have H1 := Lib.hid (HS.best total A0 A1 c0 c1 least ps w (Below.refl _ _) ha)
  have H2 := Lib.hid (fun (W : World) (hb : Below w.heap.size w W) => refCheck_any total A0 A1 c0 c1 least ps W (ha.to hb).row (ha.to hb).curves)
  obtain ⟨cs, hcs⟩ : ∃ cs, cs = ps.map Cur.l := ⟨_, rfl⟩
  by_cases h0 : solveE total least cs = 0
  · have hg := solveE_good h0
    have hcl : cs.length = ps.length := by rw [hcs, List.length_map]
    obtain ⟨s1, s2, s3, _⟩ := bestR_spec cs least total hg.may
    have hle := bestR_le hg.may hg.k16
    have hgr : bestQ total least cs = (0, bestR least cs total) := by unfold bestQ; rw [if_pos h0]
    simp only [← hcs, h0] at H2
    rw [← hcs, hgr] at H1
    have hbs := bringL_sum cs (bestR least cs total).1 (s1.len.trans hg.len)
    have H3 := Lib.hid (fun (W : World) (A : Option Addr) (c : Nat) (hb : Below w.heap.size w W) (hi : Ints W W.heap.size .i64 A (bestR least cs total).1) => refSum_any A A1 c c1 (bestR least cs total).1 ps W hi (ha.to hb).curves ((s1.len.trans hg.len).trans hcl) (by have := hg.k16; omega)
      (fun i hi => by rw [← hcs] at hi ⊢; exact hg.sound _ (by rw [List.getD_eq_getElem?_getD, List.getElem?_eq_getElem hi]; exact List.getElem_mem _)))
    have H4 := Lib.hid (fun (W : World) (hb : Below w.heap.size w W) => refBest_any (ps.length - 1) total A0 A1 c0 c1 least ps W (by have := hg.pos; omega) (by have := hg.k16; omega) (ha.to hb).row (ha.to hb).curves (by rw [← hcs]; exact hg.may) hg.t1 ha.cap0 ha.cap1)
    simp only [← hcs, ← hcl, ← hbs, ← s2] at H3
    simp only [← hcs] at H4
    have HXL : (bestR least cs total).1.length = ps.length := (s1.len.trans hg.len).trans hcl
    obtain ⟨X, hX⟩ : ∃ X, X = (bestR least cs total).1 := ⟨_, rfl⟩
    obtain ⟨V, hV⟩ : ∃ X, X = (bestR least cs total).2 := ⟨_, rfl⟩
    simp only [← hX, ← hV] at H1 H3 H4 HXL s3 hle
    have hl15 : X.length ≤ 140737488355328 := by rw [HXL]; exact ha.len1
    have HSI := Lib.hid (fun (W : World) (A0 A1 : Option Addr) (c0 c1 : Nat) (h0 : Ints W W.heap.size .i64 A0 X) (h1 : Ints W W.heap.size .i64 A1 X) => sameInts_any A0 A1 c0 c1 X W h0 h1 hl15)
    simp only [hcl] at H3
    simp only [HXL] at H1 H3 HSI
    have k1 := hg.pos
    have k2 := hg.k16
    have t0 := hg.t0
    have t1 := hg.t1
    rw [hcl] at k1 k2
    obtain ⟨N, hN⟩ : ∃ N, N = ps.length := ⟨_, rfl⟩
    simp only [← hN] at H1 H2 H3 H4 HSI k1 k2 ⊢
    have n1 : (1 : Int) ≤ (N : Int) := by omega
    have n2 : (N : Int) ≤ 16 := by omega
    clear HS ha h0 hg hgr hX hV hcs hcl HXL hl15 s1 s2 hbs hN
    by_cases hb3 : 3 < N
    · have hbi : (3 : Int) < (N : Int) := by omega
      go_enter Try.func4, Try.ntmps4
      go_wp2_with (first
        | (go_at_call 14; with_reducible (refine Calls.mono H1.out ?_); rintro e w1 ⟨A2, c2, rfl, hc2, hi2, hb1⟩)
        | (go_at_call 10; with_reducible (refine Calls.mono (H2.out _ hb1) ?_); rintro e w2 ⟨rfl, m2, rfl⟩; have hx2 := below_drewN hb1 m2; have hi2d := hi2.drewS m2)
        | (go_at_call 11; with_reducible (refine Calls.mono (HA.out _ hx2) ?_); rintro e w3 ⟨rfl, hb3'⟩; have hx3 := chain hx2 hb3'; have hi3 := (hi2d.below hb3').more hb3'.size)
        | (go_at_call 15; with_reducible (refine Calls.mono (H3.out _ _ _ hx3 hi3) ?_); rintro e w4 ⟨rfl, m4, rfl⟩; have hx4 := below_drewN hx3 m4))
      go_ret
      exact ⟨rfl, hx4⟩
    · have hbi : ¬ (3 : Int) < (N : Int) := by omega
      by_cases h40 : (40 : Int) < total
      · go_enter Try.func4, Try.ntmps4
        go_wp2_with (first
          | (go_at_call 14; with_reducible (refine Calls.mono H1.out ?_); rintro e w1 ⟨A2, c2, rfl, hc2, hi2, hb1⟩)
          | (go_at_call 10; with_reducible (refine Calls.mono (H2.out _ hb1) ?_); rintro e w2 ⟨rfl, m2, rfl⟩; have hx2 := below_drewN hb1 m2; have hi2d := hi2.drewS m2)
          | (go_at_call 11; with_reducible (refine Calls.mono (HA.out _ hx2) ?_); rintro e w3 ⟨rfl, hb3'⟩; have hx3 := chain hx2 hb3'; have hi3 := (hi2d.below hb3').more hb3'.size)
          | (go_at_call 15; with_reducible (refine Calls.mono (H3.out _ _ _ hx3 hi3) ?_); rintro e w4 ⟨rfl, m4, rfl⟩; have hx4 := below_drewN hx3 m4))
        go_ret
        exact ⟨rfl, hx4⟩
      · go_enter Try.func4, Try.ntmps4
        go_wp2_with (first
          | (go_at_call 14; with_reducible (refine Calls.mono H1.out ?_); rintro e w1 ⟨A2, c2, rfl, hc2, hi2, hb1⟩)
          | (go_at_call 10; with_reducible (refine Calls.mono (H2.out _ hb1) ?_); rintro e w2 ⟨rfl, m2, rfl⟩; have hx2 := below_drewN hb1 m2; have hi2d := hi2.drewS m2)
          | (go_at_call 11; with_reducible (refine Calls.mono (HA.out _ hx2) ?_); rintro e w3 ⟨rfl, hb3'⟩; have hx3 := chain hx2 hb3'; have hi3 := (hi2d.below hb3').more hb3'.size)
          | (go_at_call 16; with_reducible (refine Calls.mono (H4.out _ hx3) ?_); rintro e w4 ⟨A4, c4, rfl, hi4, hb4⟩; have hx4 := chain hx3 hb4; have hi5 := (hi3.below hb4).more hb4.size)
          | (go_at_call 12; with_reducible (refine Calls.mono (HSI.out _ _ _ _ _ hi5 hi4) ?_); rintro e w5 ⟨rfl, m, rfl⟩))
        go_ret
        exact ⟨rfl, below_drewN hx4 m⟩
  · have hgr : bestQ total least cs = (solveE total least cs, [], 0) := by unfold bestQ; rw [if_neg h0]
    rw [← hcs, hgr] at H1
    simp only [← hcs] at H2
    have hle := solveE_le total least cs
    obtain ⟨E, hE⟩ : ∃ E, E = solveE total least cs := ⟨_, rfl⟩
    simp only [← hE] at H1 H2 h0 hle
    have e0 : (E == 0) = false := by rw [beq_eq_false_iff_ne]; exact h0
    have e1 : (E != 0) = true := by rw [bne_iff_ne]; exact h0
    clear HS ha hgr hcs hE hle
    go_enter Try.func4, Try.ntmps4
    go_wp2_with (first
      | (go_at_call 14; with_reducible (refine Calls.mono H1.out ?_); rintro e w1 ⟨A2, c2, rfl, hc2, hi2, hb1⟩)
      | (go_at_call 10; with_reducible (refine Calls.mono (H2.out _ hb1) ?_); rintro e w2 ⟨rfl, m2, rfl⟩; have hx2 := below_drewN hb1 m2)
      | (go_at_call 11; with_reducible (refine Calls.mono (HA.out _ hx2) ?_); rintro e w3 ⟨rfl, hb3⟩; have hx3 := chain hx2 hb3))
    go_ret
    exact ⟨rfl, hx3⟩

end Go.Proofs.Ytnpdffcplgjbnaa
