/-
  CurveSteep.
-/
import Derived.Test.YtoedapeookkodaaCurveSteepN
import Derived.Test.YtoedapeookkodaaCurveSpec
import Derived.Test.YtoedapeookkodaaSide
namespace Go.Proofs.Ytoedapeookkodaa
open Go.RowKit

set_option maxHeartbeats 1600000 in
set_option maxRecDepth 20000 in
/-- CurveSteep. -/
theorem curveSteep_go (n g : Nat) (w : World) (HS : CurveSpec w) (hn : n < 256) (hg : g < 65536) :
    Calls Try.prog 8 #[.int .u8 (n : Int), .int .u16 (g : Int)] w fun e w' => e = .returned (.bool true) ∧ Below w.heap.size w w' := by
  obtain ⟨i0, hif, hz0, hz1, hz2⟩ := info_parts Try.infoI64c
  have HA := Lib.hid (curveAwake HS)
  obtain ⟨q, hq⟩ : ∃ q, q = n % 100 := ⟨_, rfl⟩
  have hq1 : q < 100 := by omega
  have m1 : Int.tmod (n : Int) 100 = (q : Int) := by rw [Int.tmod_eq_emod_of_nonneg (by omega)]; omega
  have m2 : (n : Int) % 100 = (q : Int) := by omega
  obtain ⟨K, hK⟩ : ∃ K, K = q + 2 := ⟨_, rfl⟩
  have m3 : (q : Int) + 2 = (K : Int) := by omega
  have q0 : (0 : Int) ≤ (q : Int) := by omega
  have q1 : (q : Int) < 100 := by omega
  have hK2 : 2 ≤ K := by omega
  have hK1 : K ≤ 101 := by omega
  have hG0 : (0 : Int) ≤ (g : Int) := by omega
  have hG1 : (g : Int) ≤ 65535 := by omega
  have HFH := HS.hull
  have HH1 : Hid (∀ (W : World) (A : Option Addr) (c : Nat), Below w.heap.size w W → Ints W W.heap.size .i64 A (fallL K) → K + 1 ≤ c → Calls Try.prog 15 #[.slice A (K + 1) c] W fun e w' => ∃ A' c', e = .returned (.tuple #[.slice A' (K + 1) c', .int .i64 0]) ∧ Ints w' w'.heap.size .i64 A' ((List.range (K + 1)).map fun s : Nat => (s : Int)) ∧ Below W.heap.size W w') := fun W A c hb hi hc => by
    have h9 := HFH A c (fallL K) W hb hi (fun z hz => by
      unfold fallL at hz
      obtain ⟨i, hi, rfl⟩ := List.mem_map.1 hz
      have := fall_bounds i (by have := List.mem_range.1 hi; omega)
      have := List.mem_range.1 hi
      omega) (by rw [fallL_len]; exact hc) (by rw [fallL_len]; omega)
    rw [fall_hull (by omega), fallL_len] at h9
    refine h9.mono fun e w' ⟨A', c', p1, _, p3, p4⟩ => ⟨A', c', ?_, p3, p4⟩
    rw [p1]
    simp
  have HH2 : Hid (∀ (W : World) (A : Option Addr) (c : Nat), Below w.heap.size w W → Ints W W.heap.size .i64 A (evenL (g : Int) K) → K + 1 ≤ c → Calls Try.prog 15 #[.slice A (K + 1) c] W fun e w' => ∃ A' c', e = .returned (.tuple #[.slice A' 2 c', .int .i64 0]) ∧ Ints w' w'.heap.size .i64 A' [0, (K : Int)] ∧ Below W.heap.size W w') := fun W A c hb hi hc => by
    have h9 := HFH A c (evenL (g : Int) K) W hb hi (fun z hz => by
      unfold evenL at hz
      obtain ⟨i, hi, rfl⟩ := List.mem_map.1 hz
      have := List.mem_range.1 hi
      have h2 := Int.mul_nonneg hG0 (show (0 : Int) ≤ (i : Int) by omega)
      have h3 : (g : Int) * (i : Int) ≤ 65535 * 200 := Int.mul_le_mul hG1 (by omega) (by omega) (by decide)
      omega) (by rw [evenL_len]; exact hc) (by rw [evenL_len]; omega)
    rw [even_hull hG0 hG1 (by omega) (by omega), evenL_len] at h9
    exact h9.mono fun e w' ⟨A', c', p1, _, p3, p4⟩ => ⟨A', c', p1, p3, p4⟩
  have HSI := Lib.hid (fun (W : World) (A0 A1 : Option Addr) (c0 c1 : Nat) (h0 : Ints W W.heap.size .i64 A0 [0, (K : Int)]) (h1 : Ints W W.heap.size .i64 A1 [0, (K : Int)]) => sameInts_any A0 A1 c0 c1 [0, (K : Int)] W h0 h1 (by simp))
  have HF0 : Hid (fallL 0 = [0]) := by refine Lib.hid ?_; decide
  have HE0 : Hid (evenL (g : Int) 0 = [0]) := by refine Lib.hid ?_; unfold evenL; simp
  have HK1 := Lib.hid hK1
  have HK2 := Lib.hid hK2
  have kk0 : (2 : Int) ≤ (K : Int) := by omega
  have kk1 : (K : Int) ≤ 101 := by omega
  clear HS HFH hq hq1 hK hn hg
  go_enter Try.func8, Try.ntmps8
  go_wp2
  go_loopw [6, 7, 8] (fun v u i wr => ∃ k : Nat, k ≤ K ∧ i = .int .i64 k ∧ (∃ A c, v = .slice A (k + 1) c) ∧ (∃ A c, u = .slice A (k + 1) c) ∧ Hid (wr.ownsRow w.heap.size 3 1 v (k + 1) ((fallL k).map (Value.int .i64)) ∧
      wr.ownsRow w.heap.size 3 1 u (k + 1) ((evenL (g : Int) k).map (Value.int .i64)) ∧ Apart v u ∧ Below w.heap.size w wr)) (fun _ _ i _ => K - (intOf i).toNat)
  case atStart =>
    refine ⟨0, Nat.zero_le _, rfl, ⟨_, _, rfl⟩, ⟨_, _, rfl⟩, ?_⟩
    have h1 := (World.ownsRow_lit (base := w.heap.size) (e := 3) (size := 1) w #[.int .i64 0] 1 (Nat.le_refl _) (by decide) rfl).alloc (.cells #[.int .i64 0] 3)
    have h2 := World.ownsRow_lit (base := w.heap.size) (e := 3) (size := 1) (w.alloc (.cells #[.int .i64 0] 3)) #[.int .i64 0] 1 (by simp) (by decide) rfl
    rw [World.size_alloc] at h2
    rw [HF0.out, HE0.out]
    exact ⟨h1, h2, fun q hq hq2 => by simp [Value.ownBlock] at hq hq2; omega, ((Below.refl _ _).alloc (Nat.le_refl _) _).alloc (by simp) _⟩
  case round =>
    obtain ⟨k, hk, rfl, ⟨A1, c1, rfl⟩, ⟨A2, c2, rfl⟩, hS⟩ := hrel
    by_cases hlt3 : k < K
    · have k1 : (k : Int) < (K : Int) := by omega
      have k2 : (k : Int) < (k : Int) + 1 := by omega
      have k0 : (0 : Int) ≤ (k : Int) := by omega
      have k3 : (k : Int) < 101 := by omega
      obtain ⟨hown, hown2, hap, hbel⟩ := hS.out
      have hi1 : Ints wr wr.heap.size .i64 A1 (fallL k) := Ints.of_own (n := k + 1) (c := c1) (by rw [fallL_len]; exact hown)
      obtain ⟨b1, o1, rfl, hb1l, hc1⟩ := hi1 k (by rw [fallL_len]; omega)
      rw [fallL_at (Nat.le_refl _)] at hc1
      have hfb := fall_bounds k (by omega)
      have hgb0 := Int.mul_nonneg hG0 k0
      have hgb1 : (g : Int) * (k : Int) ≤ 65535 * 200 := Int.mul_le_mul hG1 (by omega) k0 (by decide)
      have hfs := fallL_snoc k
      have hes := evenL_snoc (g : Int) k
      have hf1 : fall (k + 1) = fall k + 1000 - 3 * (k : Int) := rfl
      have he1 : (g : Int) * ((k + 1 : Nat) : Int) = (g : Int) * (k : Int) + (g : Int) := by rw [show ((k + 1 : Nat) : Int) = (k : Int) + 1 by omega, Int.mul_add, Int.mul_one]
      rw [hf1] at hfs
      rw [he1] at hes
      obtain ⟨X, hX⟩ : ∃ X, X = fall k := ⟨_, rfl⟩
      obtain ⟨Y, hY⟩ : ∃ X, X = (g : Int) * (k : Int) := ⟨_, rfl⟩
      rw [← hX] at hc1 hfb hfs
      rw [← hY] at hgb0 hgb1 hes
      have HY := Lib.hid hY
      have x0 : (0 : Int) ≤ X := hfb.1
      have x1 : X ≤ 200000 := by omega
      have y1 : Y ≤ 13107000 := by omega
      have HT1 := Lib.hid (show (fallL (k + 1)).map (Value.int .i64) = (fallL k).map (Value.int .i64) ++ [Value.int .i64 (X + 1000 - 3 * (k : Int))] by rw [hfs, List.map_append]; rfl)
      have HT2 := Lib.hid (show (evenL (g : Int) (k + 1)).map (Value.int .i64) = (evenL (g : Int) k).map (Value.int .i64) ++ [Value.int .i64 (Y + (g : Int))] by rw [hes, List.map_append]; rfl)
      clear hX hY hfs hes hf1 he1 hfb hgb1 hS hi1
      go_wp2_with (at_builtin; refine wpList_append_own_at _ rfl _ _ 23 rfl w.heap.size 3 i0 (.int .i64 0) 1 8 Try.underlying23 hif hz0 hz1 hz2 rfl (by decide) _ _ _ rfl (hown.alloc _) ⟨wr.heap.size, 0, none⟩ 1 1 [.int .i64 (X + 1000 - 3 * (k : Int))] rfl rfl (cell_one_new _ _ _) ?d1 ?d2 ?d3 ?d4 ?_)
      case d1 => first | rfl | (intro u hu; simp at hu; subst hu; rfl)
      case d2 => unfold maxLen; omega
      case d3 => omega
      case d4 => have := hbel.size; simp; omega
      intro v3 w3 hown3 hg3 _ hv3
      have hb3 : Below w.heap.size w w3 := (hbel.alloc hbel.size _).grown hg3 (by have := hbel.size; simp; omega) fun q hq => (hown.lt q hq).1
      have ho2 := own_kept (hown2.alloc (.cells #[.int .i64 (X + 1000 - 3 * (k : Int))] 3)) hg3 (fun q hq => hap q hq)
      have hap3 : Apart v3 (.slice A2 (k + 1) c2) := hap.grown (N := wr.heap.size + 1) (fun q hq => by have := (hown2.lt q hq).2; omega) hv3
      have hi2 : Ints w3 w3.heap.size .i64 A2 (evenL (g : Int) k) := Ints.of_own (n := k + 1) (c := c2) (by rw [evenL_len]; exact ho2)
      obtain ⟨b3, o3, rfl, _, hc3⟩ := hi2 k (by rw [evenL_len]; omega)
      rw [evenL_at (Nat.le_refl _), ← HY.out] at hc3
      obtain ⟨A3, c3, rfl⟩ := own_slice hown3
      clear hown hown2 hap hbel hg3 hc1 hv3 hi2 x0 x1
      go_wp2_with (at_builtin; refine wpList_append_own_at _ rfl _ _ 23 rfl w.heap.size 3 i0 (.int .i64 0) 1 8 Try.underlying23 hif hz0 hz1 hz2 rfl (by decide) _ _ _ rfl (ho2.alloc _) ⟨w3.heap.size, 0, none⟩ 1 1 [.int .i64 (Y + (g : Int))] rfl rfl (cell_one_new _ _ _) ?d1 ?d2 ?d3 ?d4 ?_)
      case d1 => first | rfl | (intro u hu; simp at hu; subst hu; rfl)
      case d2 => unfold maxLen; omega
      case d3 => omega
      case d4 => have := hb3.size; simp; omega
      intro v4 w4 hown4 hg4 _ hv4
      have R : Hid (w4.ownsRow w.heap.size 3 1 (.slice A3 (k + 1 + 1) c3) (k + 1 + 1) ((fallL (k + 1)).map (Value.int .i64)) ∧ w4.ownsRow w.heap.size 3 1 v4 (k + 1 + 1) ((evenL (g : Int) (k + 1)).map (Value.int .i64)) ∧ Apart (.slice A3 (k + 1 + 1) c3) v4 ∧ Below w.heap.size w w4) := by
        refine ⟨?_, ?_, ?_, (hb3.alloc hb3.size _).grown hg4 (by have := hb3.size; simp; omega) fun q hq => (ho2.lt q hq).1⟩
        · rw [HT1.out]
          exact own_kept (hown3.alloc (.cells #[.int .i64 (Y + (g : Int))] 3)) hg4 (fun q hq => hap3.symm q hq)
        · rw [HT2.out]
          exact hown4
        · exact (hap3.symm.grown (N := w3.heap.size + 1) (fun q hq => by have := (hown3.lt q hq).2; omega) hv4).symm
      obtain ⟨A4, c4, rfl⟩ := own_slice R.out.2.1
      clear hown3 ho2 hap3 hb3 hown4 hg4 hv4 hc3 hgb0 y1
      go_wp2
      go_roundw
      case rel => first | exact ⟨k + 1, by omega, by go_num, ⟨A3, c3, rfl⟩, ⟨A4, c4, rfl⟩, R.out⟩ | ((repeat apply Exists.intro); exact ⟨⟨k + 1, by omega, by go_num, ⟨A3, c3, rfl⟩, ⟨A4, c4, rfl⟩, R.out⟩, rfl⟩)
      case measure => simp [intOf]; omega
    · have hk8 : k = K := by omega
      subst hk8
      obtain ⟨hown, hown2, _, hbel⟩ := hS.out
      have hc1 := own_le hown
      have hc2 := own_le hown2
      have hi1 : Ints wr wr.heap.size .i64 A1 (fallL k) := Ints.of_own (n := k + 1) (c := c1) (by rw [fallL_len]; exact hown)
      have hi2 : Ints wr wr.heap.size .i64 A2 (evenL (g : Int) k) := Ints.of_own (n := k + 1) (c := c2) (by rw [evenL_len]; exact hown2)
      have HRL : Hid (((List.range (k + 1)).map fun s : Nat => (s : Int)).length = k + 1) := by refine Lib.hid ?_; simp
      have HRA : Hid (∀ j, j ≤ k → ((List.range (k + 1)).map fun s : Nat => (s : Int)).getD j 0 = (j : Int)) := fun j hj => by simp [List.getD, show j < k + 1 by omega]
      obtain ⟨RL, hRL⟩ : ∃ R, R = (List.range (k + 1)).map fun s : Nat => (s : Int) := ⟨_, rfl⟩
      simp only [← hRL] at HH1 HRL HRA
      have HSI2 : Hid (∀ (W : World) (A0 : Option Addr) (c0 : Nat), Ints W W.heap.size .i64 A0 [0, (k : Int)] → Calls Try.prog 13 #[.slice A0 2 c0, .slice (some ⟨W.heap.size, 0, none⟩) 2 2] (W.alloc (.cells #[.int .i64 0, .int .i64 (k : Int)] 3)) fun e w' => e = .returned (.bool true) ∧ Below W.heap.size W w') := fun W A0 c0 hi => by
        have hbA : Below W.heap.size W (W.alloc (.cells #[.int .i64 0, .int .i64 (k : Int)] 3)) := (Below.refl _ _).alloc (Nat.le_refl _) _
        have h9 := HSI.out (W.alloc (.cells #[.int .i64 0, .int .i64 (k : Int)] 3)) A0 (some ⟨W.heap.size, 0, none⟩) c0 2 ((hi.below hbA).more hbA.size) ((Ints.new W 3 .i64 [0, (k : Int)] #[.int .i64 0, .int .i64 (k : Int)] rfl).more (by simp))
        exact h9.mono fun e w' ⟨p1, m, p2⟩ => ⟨p1, by rw [p2]; exact below_drewN hbA m⟩
      clear hS hown hown2 hRL HF0 HE0
      go_wp2_with (first
        | (go_at_call 13; with_reducible (refine Calls.mono (HSI2.out _ _ _ hi6) ?_); rintro e w7 ⟨rfl, hb7⟩; have hx7 := chain hx6 hb7; replace hi7 := (hi7.below hb7).more hb7.size)
        | (go_at_call 15; with_reducible (refine Calls.mono (HH2.out _ _ _ hx4 hi2b hc2) ?_); rintro e w5 ⟨A5, c5, rfl, hi5, hb5⟩; have hx5 := chain hx4 hb5; have hi4b := (hi4.below hb5).more hb5.size)
        | (go_at_call 15; with_reducible (refine Calls.mono (HH1.out _ _ _ hbel hi1 hc1) ?_); rintro e w4 ⟨A4, c4, rfl, hi4, hb4⟩; have hx4 := chain hbel hb4; have hi2b := (hi2.below hb4).more hb4.size)
        | (go_at_call 12; with_reducible (refine Calls.mono (HA.out _ hx5) ?_); rintro e w6 ⟨rfl, hb6⟩; have hx6 := chain hx5 hb6; have hi6 := (hi5.below hb6).more hb6.size; have hi7 := (hi4b.below hb6).more hb6.size))
      have HC : Hid (∀ j, j ≤ k → ∃ b o, A4 = some ⟨b, o, none⟩ ∧ w7.cell? ⟨b, o + j, none⟩ = some (.int .i64 (j : Int))) := fun j hj => by
        obtain ⟨b, o, e, _, hc⟩ := hi7 j (by rw [HRL.out]; omega)
        rw [HRA.out j hj] at hc
        exact ⟨b, o, e, hc⟩
      clear hi7 hi6 hi5 hi4 hi4b hi2b hi1 hi2 hbel hb4 hb5 hb6 hb7 hx4 hx5 hx6 HRL HRA HH1 HH2 HSI HSI2
      go_wp2
      go_loopw [13] (fun i wi => ∃ j : Nat, j ≤ k + 1 ∧ i = .int .i64 j ∧ wi = w7) (fun i _ => k + 1 - (intOf i).toNat)
      case atStart => exact ⟨0, Nat.zero_le _, rfl, rfl⟩
      case round =>
        obtain ⟨j, hj, rfl, rfl⟩ := hrel
        by_cases hj2 : j ≤ k
        · obtain ⟨b4, o4, rfl, q1⟩ := HC.out j hj2
          have j1 : (j : Int) ≤ (k : Int) := by omega
          have j0 : (0 : Int) ≤ (j : Int) := by omega
          have j2 : (j : Int) < 200 := by have := HK1.out; omega
          have j3 : (j : Int) < (k : Int) + 1 := by omega
          go_wp2
          go_roundw
          case rel => first | exact ⟨j + 1, by omega, by go_num, by first | rfl | trivial⟩ | ((repeat apply Exists.intro); exact ⟨⟨j + 1, by omega, by go_num, by first | rfl | trivial⟩, rfl⟩)
          case measure => simp [intOf]; omega
        · have hj8 : j = k + 1 := by omega
          subst hj8
          have d1 : ¬ ((k + 1 : Nat) : Int) ≤ (k : Int) := by omega
          have d2 : ¬ (k : Int) + 1 ≤ (k : Int) := by omega
          go_wp2
          go_ret
          exact ⟨rfl, hx7⟩

end Go.Proofs.Ytoedapeookkodaa
