/-
  The document's own look at what is asked of both calls (stowageref12).
-/
import Derived.Test.YtnpdffcplgjbnaaSolveAsk
namespace Go.Proofs.Ytnpdffcplgjbnaa
open Go.RowKit

theorem solveE_arg {total : Int} {least : List Int} {cs : List (List Int)} (h : total < 0 ∨ 512 < total ∨ cs.length = 0 ∨ 16 < cs.length ∨ least.length ≠ cs.length) : solveE total least cs = 1 := by
  unfold solveE; rw [if_pos h]
theorem solveE_bad {total : Int} {least : List Int} {cs : List (List Int)} {k : Nat} (hk : k < least.length) (h : least.getD k 0 < 0 ∨ total < least.getD k 0) : solveE total least cs = 1 := by
  unfold solveE
  split
  · rfl
  · rw [if_pos]
    rw [List.any_eq_true]
    refine ⟨least.getD k 0, by rw [List.getD_eq_getElem?_getD, List.getElem?_eq_getElem hk]; exact List.getElem_mem hk, ?_⟩
    simp only [Bool.or_eq_true, decide_eq_true_eq]
    exact h
theorem solveE_rest {total : Int} {least : List Int} {cs : List (List Int)} (h : ¬ (total < 0 ∨ 512 < total ∨ cs.length = 0 ∨ 16 < cs.length ∨ least.length ≠ cs.length)) (hl : ∀ j, j < least.length → 0 ≤ least.getD j 0 ∧ least.getD j 0 ≤ total) :
    solveE total least cs = if cs.any (fun c => !soundL c) then 2 else if total < least.sum then 6 else 0 := by
  unfold solveE
  rw [if_neg h, if_neg]
  rw [List.any_eq_true]
  rintro ⟨z, hz, hb⟩
  obtain ⟨i, hi, e⟩ := List.getElem_of_mem hz
  have := hl i hi
  rw [List.getD_eq_getElem?_getD, List.getElem?_eq_getElem hi] at this
  simp only [Option.getD_some] at this
  rw [e] at this
  simp only [Bool.or_eq_true, decide_eq_true_eq] at hb
  omega
theorem any_unsound {cs : List (List Int)} {k : Nat} (hk : k < cs.length) (h : soundL (cs.getD k []) = false) : cs.any (fun c => !soundL c) = true := by
  rw [List.any_eq_true]
  exact ⟨cs.getD k [], by rw [List.getD_eq_getElem?_getD, List.getElem?_eq_getElem hk]; exact List.getElem_mem hk, by rw [h]; rfl⟩
theorem all_sound {cs : List (List Int)} (h : ∀ j, j < cs.length → soundL (cs.getD j []) = true) : cs.any (fun c => !soundL c) = false := by
  rw [List.any_eq_false]
  intro c hc
  obtain ⟨i, hi, e⟩ := List.getElem_of_mem hc
  have := h i hi
  rw [List.getD_eq_getElem?_getD, List.getElem?_eq_getElem hi] at this
  simp only [Option.getD_some] at this
  rw [e] at this
  rw [this]; decide

set_option maxHeartbeats 800000 in
theorem refCheck_arg (total : Int) (A0 A1 : Option Addr) (c0 c1 L K : Nat) (w : World) (h : total < 0 ∨ 512 < total ∨ K = 0 ∨ 16 < K ∨ L ≠ K) :
    Calls Try.prog 10 #[.int .i64 total, .slice A0 L c0, .slice A1 K c1] w fun e w' => e = .returned (.int .i64 1) ∧ w = w' := by
  by_cases h1 : total < 0
  · have d1 : decide (total < 0) = true := decide_eq_true h1
    clear h
    go_enter Try.func10, Try.ntmps10
    go_wp2
    go_ret
    exact ⟨rfl, rfl⟩
  · have d1 : decide (total < 0) = false := decide_eq_false h1
    by_cases h2 : 512 < total
    · have d2 : decide ((512 : Int) < total) = true := decide_eq_true h2
      clear h
      go_enter Try.func10, Try.ntmps10
      go_wp2
      go_ret
      exact ⟨rfl, rfl⟩
    · have d2 : decide ((512 : Int) < total) = false := decide_eq_false h2
      by_cases h3 : K = 0
      · subst h3
        clear h
        go_enter Try.func10, Try.ntmps10
        go_wp2
        go_ret
        exact ⟨rfl, rfl⟩
      · have d3 : ((K : Int) == 0) = false := by rw [beq_eq_false_iff_ne]; omega
        by_cases h4 : 16 < K
        · have d4 : decide ((16 : Int) < (K : Int)) = true := decide_eq_true (by omega)
          have d4' : decide (16 < K) = true := decide_eq_true h4
          clear h
          go_enter Try.func10, Try.ntmps10
          go_wp2
          go_ret
          exact ⟨rfl, rfl⟩
        · have d4 : decide ((16 : Int) < (K : Int)) = false := decide_eq_false (by omega)
          have d4' : decide (16 < K) = false := decide_eq_false h4
          have d5 : ((L : Int) != (K : Int)) = true := by rw [bne_iff_ne]; omega
          have d6 : ((L : Int) == (K : Int)) = false := by rw [beq_eq_false_iff_ne]; omega
          clear h
          go_enter Try.func10, Try.ntmps10
          go_wp2
          go_ret
          exact ⟨rfl, rfl⟩

set_option maxHeartbeats 1600000 in
set_option maxRecDepth 20000 in
/-- 'Check'. -/
theorem refCheck_any (total : Int) (A0 A1 : Option Addr) (c0 c1 : Nat) (least : List Int) (ps : List Cur) (w : World) (h0 : Ints w w.heap.size .i64 A0 least) (h1 : Curs w w.heap.size A1 ps) :
    Calls Try.prog 10 #[.int .i64 total, .slice A0 least.length c0, .slice A1 ps.length c1] w fun e w' => e = .returned (.int .i64 (solveE total least (ps.map Cur.l))) ∧ ∃ m, w' = w.drewN m := by
  by_cases hA : total < 0 ∨ 512 < total ∨ ps.length = 0 ∨ 16 < ps.length ∨ least.length ≠ ps.length
  · rw [solveE_arg (by rw [List.length_map]; exact hA)]
    exact (refCheck_arg total A0 A1 c0 c1 least.length ps.length w hA).mono fun e w' ⟨q1, q2⟩ => ⟨q1, 0, q2.symm⟩
  · have HBad : Hid (∀ k, k < least.length → (least.getD k 0 < 0 ∨ total < least.getD k 0) → solveE total least (ps.map Cur.l) = 1) := fun k hk q => solveE_bad hk q
    have HRest : Hid ((∀ j, j < least.length → 0 ≤ least.getD j 0 ∧ least.getD j 0 ≤ total) → solveE total least (ps.map Cur.l) = if (ps.map Cur.l).any (fun c => !soundL c) then 2 else if total < least.sum then 6 else 0) := fun q => solveE_rest (by rw [List.length_map]; exact hA) q
    have hlc : (ps.map Cur.l).length = ps.length := List.length_map _
    have HUn : Hid (∀ k, k < ps.length → soundL ((ps.map Cur.l).getD k []) = false → (ps.map Cur.l).any (fun c => !soundL c) = true) := fun k hk q => any_unsound (by rw [hlc]; exact hk) q
    have HAll : Hid ((∀ j, j < ps.length → soundL ((ps.map Cur.l).getD j []) = true) → (ps.map Cur.l).any (fun c => !soundL c) = false) := fun q => all_sound (fun j hj => q j (by rw [hlc] at hj; exact hj))
    have HSU : Hid (∀ k, k < least.length → sumK least (k + 1) = sumK least k + least.getD k 0) := fun k hk => sumK_succ least hk
    have HSB : Hid (∀ k, k ≤ least.length → k ≤ 16 → (∀ j, j < k → 0 ≤ least.getD j 0 ∧ least.getD j 0 ≤ 512) → 0 ≤ sumK least k ∧ sumK least k ≤ 512 * (k : Int)) := fun k hk _ q => by
      induction k with
      | zero => exact ⟨Int.le_refl _, Int.le_refl _⟩
      | succ k ih =>
        have a1 := ih (by omega) (by omega) (fun j hj => q j (by omega))
        have a2 := q k (by omega)
        rw [sumK_succ least (by omega)]; omega
    have HSE : Hid (sumK least least.length = least.sum) := by refine Lib.hid ?_; unfold sumK; rw [List.take_length]
    have HC : Hid (∀ i, i < least.length → ∃ b o, A0 = some ⟨b, o, none⟩ ∧ w.cell? ⟨b, o + i, none⟩ = some (.int .i64 (least.getD i 0))) := fun i hi => by
      obtain ⟨b, o, e, _, q⟩ := h0 i hi
      exact ⟨b, o, e, q⟩
    have HP : Hid (∀ m i (hi : i < ps.length), ∃ b o, A1 = some ⟨b, o, none⟩ ∧ (w.drewN m).cell? ⟨b, o + i, none⟩ = some (.slice ps[i].A ps[i].l.length ps[i].c) ∧
        Calls Try.prog 18 #[.slice ps[i].A ps[i].l.length ps[i].c] (w.drewN m) fun e w' => e = .returned (.bool (soundL ((ps.map Cur.l).getD i []))) ∧ ∃ m', w' = (w.drewN m).drewN m') := fun m i hi => by
      obtain ⟨b, o, e, _, q, ok⟩ := h1 i hi
      refine ⟨b, o, e, q, ?_⟩
      have hg : (ps.map Cur.l).getD i [] = ps[i].l := by simp [List.getD, hi]
      rw [hg]
      exact refSoundC_any ps[i].A ps[i].c ps[i].l (w.drewN m) (ok.ints : Ints (w.drewN m) (w.drewN m).heap.size .i64 ps[i].A ps[i].l) (by have := ok.le; have := ok.cap; omega)
    obtain ⟨R, hR⟩ : ∃ R, R = solveE total least (ps.map Cur.l) := ⟨_, rfl⟩
    rw [← hR] at HBad HRest
    rw [← hR]
    obtain ⟨U, hU⟩ : ∃ U, U = (ps.map Cur.l).any (fun c => !soundL c) := ⟨_, rfl⟩
    rw [← hU] at HRest HUn HAll
    obtain ⟨SD, hSD⟩ : ∃ F : Nat → Bool, F = fun i => soundL ((ps.map Cur.l).getD i []) := ⟨_, rfl⟩
    have hSDD : ∀ i, soundL ((ps.map Cur.l).getD i []) = SD i := fun i => by rw [hSD]
    simp only [hSDD] at HUn HAll HP
    obtain ⟨T, hT⟩ : ∃ T, T = least.sum := ⟨_, rfl⟩
    rw [← hT] at HRest HSE
    have hLK : least.length = ps.length := by omega
    obtain ⟨K, hK⟩ : ∃ K, K = ps.length := ⟨_, rfl⟩
    rw [hLK, ← hK] at HBad HRest HSU HSB HSE HC
    simp only [← hK] at HUn HAll
    rw [hLK, ← hK]
    have HKK := Lib.hid hK
    obtain ⟨F, hF⟩ : ∃ F : Nat → Int, F = fun i => least.getD i 0 := ⟨_, rfl⟩
    have hFF : ∀ i, least.getD i 0 = F i := fun i => by rw [hF]
    obtain ⟨G, hG⟩ : ∃ G, G = sumK least := ⟨_, rfl⟩
    simp only [hFF] at HBad HRest HSU HSB HC
    simp only [← hG] at HSU HSB HSE
    have g0 : Hid (G 0 = 0) := by refine Lib.hid ?_; rw [hG]; rfl
    have t0 : 0 ≤ total := by omega
    have t1 : total ≤ 512 := by omega
    have k0 : (1 : Int) ≤ (K : Int) := by omega
    have k1 : (K : Int) ≤ 16 := by omega
    have HK16 : Hid (K ≤ 16) := by refine Lib.hid ?_; omega
    have d1 : decide (total < 0) = false := decide_eq_false (by omega)
    have d2 : decide ((512 : Int) < total) = false := decide_eq_false (by omega)
    have d3 : ((K : Int) == 0) = false := by rw [beq_eq_false_iff_ne]; omega
    have d4 : decide ((16 : Int) < (K : Int)) = false := decide_eq_false (by omega)
    clear hA h0 h1 hlc hR hU hSD hSDD hT hLK hK hF hFF hG
    go_enter Try.func10, Try.ntmps10
    go_wp2
    go_loopw [7, 8] (fun s i wr => ∃ k : Nat, k ≤ K ∧ i = .int .i64 k ∧ s = .int .i64 (G k) ∧ (∀ j, j < k → 0 ≤ F j ∧ F j ≤ total) ∧ wr = w) (fun _ i _ => K - (intOf i).toNat)
    case atStart => exact ⟨0, Nat.zero_le _, rfl, by rw [g0.out], fun j hj => absurd hj (Nat.not_lt_zero j), rfl⟩
    case round =>
      obtain ⟨k, hk, rfl, rfl, hall, rfl⟩ := hrel
      by_cases hlt : k < K
      · obtain ⟨b, o, rfl, q0⟩ := HC.out k hlt
        have kk1 : (k : Int) < (K : Int) := by omega
        have kk0 : (0 : Int) ≤ (k : Int) := by omega
        by_cases hg : 0 ≤ F k ∧ F k ≤ total
        · have hall2 : Hid (∀ j, j < k + 1 → 0 ≤ F j ∧ F j ≤ total) := fun j hj => by
            rcases Nat.lt_or_ge j k with g | g
            · exact hall j g
            · rw [show j = k by omega]; exact hg
          have hsu := HSU.out k hlt
          have hsb := HSB.out k hk (by have := HK16.out; omega) (fun j hj => by have := hall j hj; omega)
          obtain ⟨x, hx⟩ : ∃ x, x = F k := ⟨_, rfl⟩
          rw [← hx] at q0 hg hsu
          have H1 := Lib.hid hsu
          obtain ⟨S, hS⟩ : ∃ x, x = G k := ⟨_, rfl⟩
          rw [← hS] at H1 hsb ⊢
          have s0 : (0 : Int) ≤ S := hsb.1
          have s1 : S ≤ 8192 := by have := HK16.out; omega
          have x0 : (0 : Int) ≤ x := hg.1
          have x1 : x ≤ 512 := by omega
          have e1 : decide (x < 0) = false := decide_eq_false (by omega)
          have e2 : decide (total < x) = false := decide_eq_false (by omega)
          clear hx hS hsb hsu hg hall
          go_wp2
          go_roundw
          case rel => first | exact ⟨k + 1, by omega, by go_num, by rw [H1.out], hall2.out, by first | rfl | trivial⟩ | ((repeat apply Exists.intro); exact ⟨⟨k + 1, by omega, by go_num, by rw [H1.out], hall2.out, by first | rfl | trivial⟩, rfl⟩)
          case measure => simp [intOf]; omega
        · have HB := Lib.hid (HBad.out k hlt (by omega))
          obtain ⟨x, hx⟩ : ∃ x, x = F k := ⟨_, rfl⟩
          rw [← hx] at q0 hg
          clear hx hall
          by_cases hx0 : x < 0
          · have e1 : decide (x < 0) = true := decide_eq_true hx0
            clear hg
            go_wp2
            go_ret
            exact ⟨by rw [HB.out]; rfl, 0, rfl⟩
          · have e1 : decide (x < 0) = false := decide_eq_false hx0
            have e2 : decide (total < x) = true := decide_eq_true (by omega)
            clear hg
            go_wp2
            go_ret
            exact ⟨by rw [HB.out]; rfl, 0, rfl⟩
      · have hk8 : k = K := by omega
        subst hk8
        have HR2 := Lib.hid (HRest.out hall)
        have hse := HSE.out
        rw [hse]
        have tb := HSB.out k (Nat.le_refl _) HK16.out (fun j hj => by have := hall j hj; omega)
        rw [hse] at tb
        have tb0 : (0 : Int) ≤ T := tb.1
        clear hall hse HSE HSB HSU HBad HRest HC tb
        obtain ⟨wo, hwo⟩ : ∃ x, x = wr := ⟨_, rfl⟩
        subst hwo
        go_wp2
        go_loopw [9] (fun i wi => ∃ j m : Nat, j ≤ k ∧ i = .int .i64 j ∧ (∀ x, x < j → SD x = true) ∧ wi = wo.drewN m) (fun i _ => k - (intOf i).toNat)
        case atStart => exact ⟨0, 0, Nat.zero_le _, rfl, fun j hj => absurd hj (Nat.not_lt_zero j), rfl⟩
        case round =>
          obtain ⟨j, m, hj, rfl, hall, hwi⟩ := hrel
          by_cases hjk : j < k
          · obtain ⟨b, o, rfl, q0, HS⟩ := HP.out m j (by have := HKK.out; omega)
            rw [← hwi] at q0 HS
            have jj1 : (j : Int) < (k : Int) := by omega
            have jj0 : (0 : Int) ≤ (j : Int) := by omega
            have HWI := Lib.hid hwi
            have hun := HUn.out j hjk
            have hall2 : SD j = true → ∀ x, x < j + 1 → SD x = true := fun q x hx => by
              rcases Nat.lt_or_ge x j with g | g
              · exact hall x g
              · rw [show x = j by omega]; exact q
            obtain ⟨pA, hpA⟩ : ∃ x, x = (ps[j]'(by have := HKK.out; omega)).A := ⟨_, rfl⟩
            obtain ⟨pl, hpl⟩ : ∃ x, x = (ps[j]'(by have := HKK.out; omega)).l.length := ⟨_, rfl⟩
            obtain ⟨pc, hpc⟩ : ∃ x, x = (ps[j]'(by have := HKK.out; omega)).c := ⟨_, rfl⟩
            rw [← hpA, ← hpl, ← hpc] at q0 HS
            obtain ⟨sd, hsd⟩ : ∃ x, x = SD j := ⟨_, rfl⟩
            rw [← hsd] at HS hun hall2
            have HS' := Lib.hid HS
            clear hwi hall hpA hpl hpc hsd HS
            cases sd
            · have HU := Lib.hid (hun rfl)
              clear hall2 hun
              go_wp2_with (go_at_call 18; with_reducible (refine Calls.mono HS'.out ?_); rintro e w2 ⟨rfl, m2, rfl⟩)
              go_ret
              exact ⟨by rw [HR2.out, HU.out]; rfl, m + m2, by rw [HWI.out, World.drewN_drewN]⟩
            · have HA3 := Lib.hid (hall2 rfl)
              clear hall2 hun
              go_wp2_with (go_at_call 18; with_reducible (refine Calls.mono HS'.out ?_); rintro e w2 ⟨rfl, m2, rfl⟩)
              go_roundw
              case rel => first | exact ⟨j + 1, m + m2, by omega, by go_num, HA3.out, by rw [HWI.out, World.drewN_drewN]⟩ | ((repeat apply Exists.intro); exact ⟨⟨j + 1, m + m2, by omega, by go_num, HA3.out, by rw [HWI.out, World.drewN_drewN]⟩, rfl⟩)
              case measure => simp [intOf]; omega
          · have hj8 : j = k := by omega
            subst hj8
            have HU := Lib.hid (HAll.out hall)
            have HWI := Lib.hid hwi
            clear hall hwi HUn HAll HP
            by_cases hT : total < T
            · have e1 : decide (total < T) = true := decide_eq_true hT
              go_wp2
              go_ret
              exact ⟨by rw [HR2.out, HU.out, if_neg (by decide), if_pos hT]; rfl, m, HWI.out⟩
            · have e1 : decide (total < T) = false := decide_eq_false hT
              go_wp2
              go_ret
              exact ⟨by rw [HR2.out, HU.out, if_neg (by decide), if_neg (by omega)]; rfl, m, HWI.out⟩

end Go.Proofs.Ytnpdffcplgjbnaa
