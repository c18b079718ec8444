/-
  The landed solve: which error applies (refusal).
-/
import Derived.Test.YtnpdffcplgjbnaaSolveC2
import Derived.Test.YtnpdffcplgjbnaaSolveSpec
namespace Go.Proofs.Ytnpdffcplgjbnaa
open Go.RowKit

theorem any_range {α : Type} (f : α → Bool) (d : α) : ∀ l : List α, l.any f = (List.range l.length).any fun i => f (l.getD i d)
  | [] => rfl
  | x :: l => by
    rw [List.any_cons, any_range f d l, List.length_cons, List.range_succ_eq_map, List.any_cons, List.any_map]
    rfl

set_option maxHeartbeats 3200000 in
set_option maxRecDepth 20000 in
theorem refusal_any (total : Int) (A0 A1 : Option Addr) (c0 c1 : Nat) (least : List Int) (ps : List Cur) (w : World) (h : Asked w total A0 A1 c0 c1 least ps) :
    Calls Try.prog 20 #[.int .i64 total, .slice A0 least.length c0, .slice A1 ps.length c1] w fun e w' => e = .returned (.int .i64 (solveE total least (ps.map Cur.l))) ∧ Below w.heap.size w w' := by
  have hlc : (ps.map Cur.l).length = ps.length := List.length_map _
  have hN := h.len1
  have hM := h.len0
  have hb1 : Hid (∀ o, Below w.heap.size w (w.alloc o)) := fun o => (Below.refl _ _).alloc (Nat.le_refl _) o
  have H1 := Lib.hid (fun W => withinV_any total 512 W)
  have H2 := Lib.hid (fun W => withinV_any (ps.length : Int) 16 W)
  by_cases g1 : 0 ≤ total ∧ total ≤ 512
  · rw [decide_eq_true g1] at H1
    by_cases g2 : ps.length ≤ 16
    · rw [decide_eq_true (by omega)] at H2
      by_cases g3 : ps.length = 0
      · have hr : Hid (solveE total least (ps.map Cur.l) = 1) := by unfold Hid solveE; rw [if_pos (by omega)]
        obtain ⟨R, hR⟩ : ∃ R, R = solveE total least (ps.map Cur.l) := ⟨_, rfl⟩
        rw [← hR] at hr ⊢
        obtain ⟨N, hN'⟩ : ∃ N, N = ps.length := ⟨_, rfl⟩
        rw [← hN'] at H2 g3 ⊢
        obtain ⟨M, hM'⟩ : ∃ N, N = least.length := ⟨_, rfl⟩
        rw [← hM']
        subst g3
        clear h hlc hN hM hR hN' hM' g1 g2
        go_enter Try.func20, Try.ntmps20
        go_wp2_with (first
          | (go_at_call 27; with_reducible (refine Calls.mono (H1.out _) ?_); rintro e w1 ⟨rfl, rfl⟩)
          | (go_at_call 27; with_reducible (refine Calls.mono (H2.out _) ?_); rintro e w1 ⟨rfl, rfl⟩))
        go_ret
        exact ⟨by rw [hr.out]; rfl, hb1.out _⟩
      · have d3 : ((ps.length : Int) == 0) = false := by rw [beq_eq_false_iff_ne]; omega
        by_cases g4 : least.length = ps.length
        · have hcs := h.curves
          have hrow := h.row
          have e1 : solveE total least (ps.map Cur.l) = if (List.range ps.length).any (fun i => !decide (0 ≤ least.getD i 0 ∧ least.getD i 0 ≤ total)) then 1 else if (List.range ps.length).any (fun i => !soundL ((ps.map Cur.l).getD i [])) then 2 else if total < least.sum then 6 else 0 := by
            unfold solveE
            rw [if_neg (by omega), any_range (fun z => decide (z < 0) || decide (total < z)) 0 least, any_range (fun c => !soundL c) [] (ps.map Cur.l), hlc, g4]
            have e2 : ∀ i, (decide (least.getD i 0 < 0) || decide (total < least.getD i 0)) = !decide (0 ≤ least.getD i 0 ∧ least.getD i 0 ≤ total) := fun i => by
              by_cases q : 0 ≤ least.getD i 0 ∧ least.getD i 0 ≤ total
              · rw [decide_eq_true q, decide_eq_false (by omega), decide_eq_false (by omega)]; rfl
              · rw [decide_eq_false q]
                by_cases q2 : least.getD i 0 < 0
                · rw [decide_eq_true q2]; rfl
                · rw [decide_eq_false q2, decide_eq_true (by omega)]; rfl
            simp only [e2]
          have HLs : Hid ((List.range ps.length).any (fun i => !decide (0 ≤ least.getD i 0 ∧ least.getD i 0 ≤ total)) = false → ∀ z ∈ least, 0 ≤ z ∧ z ≤ 512) := fun q z hz => by
            obtain ⟨i, hi, rfl⟩ := List.getElem_of_mem hz
            rw [List.any_eq_false] at q
            have := q i (List.mem_range.2 (by omega))
            simp [List.getD_eq_getElem?_getD, hi] at this
            omega
          have HCI : Hid (∀ t, Calls Try.prog 28 #[.slice A0 ps.length c0, .func (.func 29) #[] #[.pointer (some ⟨w.heap.size, 0, none⟩)]] (w.alloc (.cells #[.int .i64 total] t)) fun e w' => e = .returned (.bool ((List.range ps.length).any (fun i => !decide (0 ≤ least.getD i 0 ∧ least.getD i 0 ≤ total)))) ∧ w' = w.alloc (.cells #[.int .i64 total] t)) := fun t =>
            containsI_any A0 c0 ps.length (fun i => least.getD i 0) (fun i => !decide (0 ≤ least.getD i 0 ∧ least.getD i 0 ≤ total)) 29 #[.pointer (some ⟨w.heap.size, 0, none⟩)] (w.alloc (.cells #[.int .i64 total] t)) g2
              (fun i hi => by
                obtain ⟨b, o, e, hb, q⟩ := (hrow.below (hb1.out (.cells #[.int .i64 total] t))) i (by omega)
                exact ⟨b, o, e, q⟩)
              (fun args W => by kernel_rfl)
              (fun k hk => least1_any w.heap.size (least.getD k 0) total _ (by simp))
          have HCC : Hid (∀ t, Calls Try.prog 30 #[.slice A1 ps.length c1, .func (.func 31) #[] #[]] (w.alloc (.cells #[.int .i64 total] t)) fun e w' => e = .returned (.bool ((List.range ps.length).any (fun i => !soundL ((ps.map Cur.l).getD i [])))) ∧ Below (w.alloc (.cells #[.int .i64 total] t)).heap.size (w.alloc (.cells #[.int .i64 total] t)) w') := fun t =>
            containsC_any A1 c1 ps (fun i => !soundL ((ps.map Cur.l).getD i [])) 31 (w.alloc (.cells #[.int .i64 total] t)) g2 ((hcs.below (hb1.out _)).more (hb1.out _).size)
              (fun args W => by kernel_rfl)
              (fun k hk W hb => by
                obtain ⟨b, o, _, _, _, ok⟩ := hcs k hk
                have hg : (ps.map Cur.l).getD k [] = ps[k].l := by simp [List.getD, hk]
                simp only [hg]
                have hbw := chain (hb1.out (.cells #[.int .i64 total] t)) hb
                exact unsoundV_any ps[k].A ps[k].c ps[k].l W ((ok.ints.below hbw).more hbw.size) (by have := ok.le; have := ok.cap; omega))
          have HSU : Hid ((∀ z ∈ least, 0 ≤ z ∧ z ≤ 512) → ∀ W, Below w.heap.size w W → Calls Try.prog 22 #[.slice A0 ps.length c0] W fun e w' => e = .returned (.int .i64 least.sum) ∧ w' = W) := fun q W hb => by
            have := sumV_any A0 c0 least W ((hrow.below hb).more hb.size) (by omega) q
            rw [g4] at this; exact this
          have HCL : Hid (∀ t W, Below (w.alloc (.cells #[.int .i64 total] t)).heap.size (w.alloc (.cells #[.int .i64 total] t)) W → W.cell? ⟨w.heap.size, 0, none⟩ = some (.int .i64 total)) := fun t W hb => by
            rw [hb.cell (p := ⟨w.heap.size, 0, none⟩) (by simp)]; simp
          obtain ⟨B1, hB1⟩ : ∃ B, B = (List.range ps.length).any (fun i => !decide (0 ≤ least.getD i 0 ∧ least.getD i 0 ≤ total)) := ⟨_, rfl⟩
          rw [← hB1] at e1 HLs HCI
          obtain ⟨B2, hB2⟩ : ∃ B, B = (List.range ps.length).any (fun i => !soundL ((ps.map Cur.l).getD i [])) := ⟨_, rfl⟩
          rw [← hB2] at e1 HCC
          obtain ⟨R, hR⟩ : ∃ R, R = solveE total least (ps.map Cur.l) := ⟨_, rfl⟩
          rw [← hR] at e1 ⊢
          have HE := Lib.hid e1
          rw [g4]
          have HSU1 : Hid (B1 = false → ∀ W, Below w.heap.size w W → Calls Try.prog 22 #[.slice A0 ps.length c0] W fun e w' => e = .returned (.int .i64 least.sum) ∧ w' = W) := fun q => HSU.out (HLs.out q)
          obtain ⟨T, hT⟩ : ∃ T, T = least.sum := ⟨_, rfl⟩
          rw [← hT] at HE HSU1
          obtain ⟨N, hN'⟩ : ∃ N, N = ps.length := ⟨_, rfl⟩
          rw [← hN'] at H2 HCI HCC HSU1 d3 ⊢
          have d4 : ((N : Int) != (N : Int)) = false := by simp
          clear h hlc hN hM hrow hcs hR hN' g1 g2 g3 g4 e1 HLs HSU hB1 hB2 hT
          cases B1
          · have HSU2 := Lib.hid (HSU1.out rfl)
            clear HSU1
            cases B2
            · by_cases hT2 : total < T
              · have HE2 : Hid (R = 6) := by rw [HE.out, if_neg (by decide), if_neg (by decide), if_pos hT2]; rfl
                have d5 : decide (total < T) = true := decide_eq_true hT2
                clear HE
                go_enter Try.func20, Try.ntmps20
                go_wp2_with (first
                  | (go_at_call 27; with_reducible (refine Calls.mono (H1.out _) ?_); rintro e w1 ⟨rfl, rfl⟩)
                  | (go_at_call 27; with_reducible (refine Calls.mono (H2.out _) ?_); rintro e w1 ⟨rfl, rfl⟩)
                  | (go_at_call 28; with_reducible (refine Calls.mono (HCI.out _) ?_); rintro e w1 ⟨rfl, rfl⟩)
                  | (go_at_call 30; with_reducible (refine Calls.mono (HCC.out _) ?_); rintro e w1 ⟨rfl, hb2⟩; have hbw := chain (hb1.out _) hb2; have hcl := HCL.out _ _ hb2; have HSQ := Lib.hid (fun n => HSU2.out (w1.drewN n) (below_drewN hbw n))))
                go_quiet ((go_at_call 22; with_reducible (refine Calls.quiet_of_same (HSQ.out _))))
                go_wp2
                go_ret
                exact ⟨by rw [HE2.out]; rfl, below_drewN hbw _⟩
              · have HE2 : Hid (R = 0) := by rw [HE.out, if_neg (by decide), if_neg (by decide), if_neg hT2]; rfl
                have d5 : decide (total < T) = false := decide_eq_false hT2
                clear HE
                go_enter Try.func20, Try.ntmps20
                go_wp2_with (first
                  | (go_at_call 27; with_reducible (refine Calls.mono (H1.out _) ?_); rintro e w1 ⟨rfl, rfl⟩)
                  | (go_at_call 27; with_reducible (refine Calls.mono (H2.out _) ?_); rintro e w1 ⟨rfl, rfl⟩)
                  | (go_at_call 28; with_reducible (refine Calls.mono (HCI.out _) ?_); rintro e w1 ⟨rfl, rfl⟩)
                  | (go_at_call 30; with_reducible (refine Calls.mono (HCC.out _) ?_); rintro e w1 ⟨rfl, hb2⟩; have hbw := chain (hb1.out _) hb2; have hcl := HCL.out _ _ hb2; have HSQ := Lib.hid (fun n => HSU2.out (w1.drewN n) (below_drewN hbw n))))
                go_quiet ((go_at_call 22; with_reducible (refine Calls.quiet_of_same (HSQ.out _))))
                go_wp2
                go_ret
                exact ⟨by rw [HE2.out]; rfl, below_drewN hbw _⟩
            · have HE2 : Hid (R = 2) := by rw [HE.out, if_neg (by decide), if_pos rfl]; rfl
              clear HE
              go_enter Try.func20, Try.ntmps20
              go_wp2_with (first
                | (go_at_call 27; with_reducible (refine Calls.mono (H1.out _) ?_); rintro e w1 ⟨rfl, rfl⟩)
                | (go_at_call 27; with_reducible (refine Calls.mono (H2.out _) ?_); rintro e w1 ⟨rfl, rfl⟩)
                | (go_at_call 28; with_reducible (refine Calls.mono (HCI.out _) ?_); rintro e w1 ⟨rfl, rfl⟩)
                | (go_at_call 30; with_reducible (refine Calls.mono (HCC.out _) ?_); rintro e w1 ⟨rfl, hb2⟩; have hbw := chain (hb1.out _) hb2))
              go_ret
              exact ⟨by rw [HE2.out]; rfl, hbw⟩
          · have HE2 : Hid (R = 1) := by rw [HE.out, if_pos rfl]; rfl
            clear HE HSU1
            go_enter Try.func20, Try.ntmps20
            go_wp2_with (first
              | (go_at_call 27; with_reducible (refine Calls.mono (H1.out _) ?_); rintro e w1 ⟨rfl, rfl⟩)
              | (go_at_call 27; with_reducible (refine Calls.mono (H2.out _) ?_); rintro e w1 ⟨rfl, rfl⟩)
              | (go_at_call 28; with_reducible (refine Calls.mono (HCI.out _) ?_); rintro e w1 ⟨rfl, rfl⟩))
            go_ret
            exact ⟨by rw [HE2.out]; rfl, hb1.out _⟩
        · have hr : Hid (solveE total least (ps.map Cur.l) = 1) := by unfold Hid solveE; rw [if_pos (by omega)]
          obtain ⟨R, hR⟩ : ∃ R, R = solveE total least (ps.map Cur.l) := ⟨_, rfl⟩
          rw [← hR] at hr ⊢
          have d4 : ((least.length : Int) != (ps.length : Int)) = true := by rw [bne_iff_ne]; omega
          obtain ⟨N, hN'⟩ : ∃ N, N = ps.length := ⟨_, rfl⟩
          rw [← hN'] at H2 d3 d4 ⊢
          obtain ⟨M, hM'⟩ : ∃ N, N = least.length := ⟨_, rfl⟩
          rw [← hM'] at d4 ⊢
          clear h hlc hN hM hR hN' hM' g1 g2 g3 g4
          go_enter Try.func20, Try.ntmps20
          go_wp2_with (first
            | (go_at_call 27; with_reducible (refine Calls.mono (H1.out _) ?_); rintro e w1 ⟨rfl, rfl⟩)
            | (go_at_call 27; with_reducible (refine Calls.mono (H2.out _) ?_); rintro e w1 ⟨rfl, rfl⟩))
          go_ret
          exact ⟨by rw [hr.out]; rfl, hb1.out _⟩
    · rw [decide_eq_false (by omega)] at H2
      have hr : Hid (solveE total least (ps.map Cur.l) = 1) := by unfold Hid solveE; rw [if_pos (by omega)]
      obtain ⟨R, hR⟩ : ∃ R, R = solveE total least (ps.map Cur.l) := ⟨_, rfl⟩
      rw [← hR] at hr ⊢
      obtain ⟨N, hN'⟩ : ∃ N, N = ps.length := ⟨_, rfl⟩
      rw [← hN'] at H2 ⊢
      obtain ⟨M, hM'⟩ : ∃ N, N = least.length := ⟨_, rfl⟩
      rw [← hM']
      clear h hlc hN hM hR hN' hM' g1 g2
      go_enter Try.func20, Try.ntmps20
      go_wp2_with (first
        | (go_at_call 27; with_reducible (refine Calls.mono (H1.out _) ?_); rintro e w1 ⟨rfl, rfl⟩)
        | (go_at_call 27; with_reducible (refine Calls.mono (H2.out _) ?_); rintro e w1 ⟨rfl, rfl⟩))
      go_ret
      exact ⟨by rw [hr.out]; rfl, hb1.out _⟩
  · rw [decide_eq_false g1] at H1
    have hr : Hid (solveE total least (ps.map Cur.l) = 1) := by unfold Hid solveE; rw [if_pos (by omega)]
    obtain ⟨R, hR⟩ : ∃ R, R = solveE total least (ps.map Cur.l) := ⟨_, rfl⟩
    rw [← hR] at hr ⊢
    obtain ⟨N, hN'⟩ : ∃ N, N = ps.length := ⟨_, rfl⟩
    rw [← hN']
    obtain ⟨M, hM'⟩ : ∃ N, N = least.length := ⟨_, rfl⟩
    rw [← hM']
    clear h hlc hN hM hR hN' hM' g1 H2
    go_enter Try.func20, Try.ntmps20
    go_wp2_with (first
      | (go_at_call 27; with_reducible (refine Calls.mono (H1.out _) ?_); rintro e w1 ⟨rfl, rfl⟩))
    go_ret
    exact ⟨by rw [hr.out]; rfl, hb1.out _⟩

end Go.Proofs.Ytnpdffcplgjbnaa
