/-
  SolveGreedy: slots shared one by one, by any curves.
-/
import Derived.Test.YtnpdffcplgjbnaaSolveSpec
namespace Go.Proofs.Ytnpdffcplgjbnaa
open Go.RowKit

theorem Ints.drewS {w : World} {k : IntKind} {A : Option Addr} {l : List Int} (h : Ints w w.heap.size k A l) (n : Nat) : Ints (w.drewN n) (w.drewN n).heap.size k A l := h

structure Good (total : Int) (least : List Int) (cs : List (List Int)) : Prop where
  t0 : 0 ≤ total
  t1 : total ≤ 512
  pos : 1 ≤ cs.length
  k16 : cs.length ≤ 16
  len : least.length = cs.length
  low : ∀ z ∈ least, 0 ≤ z ∧ z ≤ total
  sound : ∀ c ∈ cs, soundL c = true
  sum : least.sum ≤ total
theorem solveE_good {total : Int} {least : List Int} {cs : List (List Int)} (h : solveE total least cs = 0) : Good total least cs := by
  unfold solveE at h
  by_cases h1 : total < 0 ∨ 512 < total ∨ cs.length = 0 ∨ 16 < cs.length ∨ least.length ≠ cs.length
  · rw [if_pos h1] at h; exact absurd h (by decide)
  · rw [if_neg h1] at h
    by_cases h2 : least.any (fun z => decide (z < 0) || decide (total < z)) = true
    · rw [if_pos h2] at h; exact absurd h (by decide)
    · rw [if_neg h2] at h
      by_cases h3 : cs.any (fun c => !soundL c) = true
      · rw [if_pos h3] at h; exact absurd h (by decide)
      · rw [if_neg h3] at h
        by_cases h4 : total < least.sum
        · rw [if_pos h4] at h; exact absurd h (by decide)
        · refine ⟨by omega, by omega, by omega, by omega, by omega, fun z hz => ?_, fun c hc => ?_, by omega⟩
          · rw [Bool.not_eq_true, List.any_eq_false] at h2
            have := h2 z hz
            simp only [Bool.or_eq_true, decide_eq_true_eq] at this
            omega
          · rw [Bool.not_eq_true, List.any_eq_false] at h3
            have := h3 c hc
            cases hs : soundL c
            · rw [hs] at this; exact absurd rfl this
            · rfl
theorem Good.may {total : Int} {least : List Int} {cs : List (List Int)} (h : Good total least cs) : May least cs total := ⟨h.len, h.pos, fun z hz => (h.low z hz).1, h.sum, h.sound⟩
theorem solveE_le (total : Int) (least : List Int) (cs : List (List Int)) : 0 ≤ solveE total least cs ∧ solveE total least cs ≤ 6 := by
  unfold solveE
  repeat' split
  all_goals decide

set_option maxHeartbeats 1600000 in
set_option maxRecDepth 20000 in
/-- SolveGreedy. -/
theorem solveGreedy_go (total : Int) (A0 A1 : Option Addr) (c0 c1 : Nat) (least : List Int) (ps : List Cur) (w : World) (HS : SolveSpec w) (ha : Asked w total A0 A1 c0 c1 least ps) :
    Calls Try.prog 3 #[.int .i64 total, .slice A0 least.length c0, .slice A1 ps.length c1] w fun e w' => e = .returned (.bool true) ∧ Below w.heap.size w w' := by
  have HA := Lib.hid (fun (W : World) (hb : Below w.heap.size w W) => solveAwake HS W hb)
  have H1 := Lib.hid (HS.greedy total A0 A1 c0 c1 least ps w (Below.refl _ _) ha)
  have H2 := Lib.hid (fun (W : World) (hb : Below w.heap.size w W) => refCheck_any total A0 A1 c0 c1 least ps W (ha.to hb).row (ha.to hb).curves)
  obtain ⟨cs, hcs⟩ : ∃ cs, cs = ps.map Cur.l := ⟨_, rfl⟩
  by_cases h0 : solveE total least cs = 0
  · have hg := solveE_good h0
    have hcl : cs.length = ps.length := by rw [hcs, List.length_map]
    have H3 := Lib.hid (fun (W : World) (hb : Below w.heap.size w W) => refGreedy_go total A0 A1 c0 c1 least ps W (ha.to hb).row (ha.to hb).curves hg.t1 (hg.len.trans hcl) (by have := hg.pos; have := hg.k16; omega)
      (fun i hi => by rw [← hcs]; exact hg.sound _ (by rw [List.getD_eq_getElem?_getD, List.getElem?_eq_getElem (by omega : i < cs.length)]; exact List.getElem_mem _)) (fun z hz => by have := hg.low z hz; have := hg.t1; omega) hg.sum)
    have hgr : greedyR total least cs = (0, giveL cs least (total - least.sum).toNat) := by unfold greedyR; rw [if_pos h0]
    simp only [← hcs, h0] at H2
    rw [← hcs, hgr] at H1
    simp only [← hcs] at H3
    have HXL := giveL_len cs least (total - least.sum).toNat
    obtain ⟨X, hX⟩ : ∃ X, X = giveL cs least (total - least.sum).toNat := ⟨_, rfl⟩
    simp only [← hX] at H1 H3 HXL
    have hl15 : X.length ≤ 140737488355328 := by rw [HXL]; exact ha.len0
    have HSI := Lib.hid (fun (W : World) (A0 A1 : Option Addr) (c0 c1 : Nat) (h0 : Ints W W.heap.size .i64 A0 X) (h1 : Ints W W.heap.size .i64 A1 X) => sameInts_any A0 A1 c0 c1 X W h0 h1 hl15)
    simp only [HXL] at H1 HSI
    clear HS ha h0 hg hgr hX hcs hcl HXL hl15
    go_enter Try.func3, Try.ntmps3
    go_wp2_with (first
      | (go_at_call 9; with_reducible (refine Calls.mono H1.out ?_); rintro e w1 ⟨A2, c2, rfl, hc2, hi2, hb1⟩)
      | (go_at_call 10; with_reducible (refine Calls.mono (H2.out _ hb1) ?_); rintro e w2 ⟨rfl, m2, rfl⟩; have hx2 := below_drewN hb1 m2; have hi2d := hi2.drewS m2)
      | (go_at_call 11; with_reducible (refine Calls.mono (HA.out _ hx2) ?_); rintro e w3 ⟨rfl, hb3⟩; have hx3 := chain hx2 hb3; have hi3 := (hi2d.below hb3).more hb3.size)
      | (go_at_call 13; with_reducible (refine Calls.mono (H3.out _ hx3) ?_); rintro e w4 ⟨A4, c4, rfl, hc4, hi4, hb4⟩; have hx4 := chain hx3 hb4; have hi5 := (hi3.below hb4).more hb4.size)
      | (go_at_call 12; with_reducible (refine Calls.mono (HSI.out _ _ _ _ _ hi5 hi4) ?_); rintro e w5 ⟨rfl, m, rfl⟩))
    go_ret
    exact ⟨rfl, below_drewN hx4 m⟩
  · have hgr : greedyR total least cs = (solveE total least cs, []) := by unfold greedyR; rw [if_neg h0]
    rw [← hcs, hgr] at H1
    simp only [← hcs] at H2
    have hle := solveE_le total least cs
    obtain ⟨E, hE⟩ : ∃ E, E = solveE total least cs := ⟨_, rfl⟩
    simp only [← hE] at H1 H2 h0 hle
    have e0 : (E == 0) = false := by rw [beq_eq_false_iff_ne]; exact h0
    have e1 : (E != 0) = true := by rw [bne_iff_ne]; exact h0
    clear HS ha hgr hcs hE hle
    go_enter Try.func3, Try.ntmps3
    go_wp2_with (first
      | (go_at_call 9; with_reducible (refine Calls.mono H1.out ?_); rintro e w1 ⟨A2, c2, rfl, hc2, hi2, hb1⟩)
      | (go_at_call 10; with_reducible (refine Calls.mono (H2.out _ hb1) ?_); rintro e w2 ⟨rfl, m2, rfl⟩; have hx2 := below_drewN hb1 m2)
      | (go_at_call 11; with_reducible (refine Calls.mono (HA.out _ hx2) ?_); rintro e w3 ⟨rfl, hb3⟩; have hx3 := chain hx2 hb3))
    go_ret
    exact ⟨rfl, hx3⟩

end Go.Proofs.Ytnpdffcplgjbnaa
