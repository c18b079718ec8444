/-
  CurveTells, CurveHulls.
-/
import Derived.Test.YtoedapeookkodaaCurveSpec
namespace Go.Proofs.Ytoedapeookkodaa
open Go.RowKit

theorem nan_read {b : Nat} (h : nanOf b) : ∃ s t, Ieee.double.read b = .nan s t := by
  unfold nanOf at h
  unfold Ieee.Format.read
  simp only [dbl_binade, dbl_sign, dbl_inf, dbl_least]
  rw [if_neg (by omega), if_neg (by omega), if_neg (by omega)]
  exact ⟨_, _, rfl⟩
theorem nan_order {b : Nat} (h : nanOf b) : FloatKind.f64.format.order b b = none := by
  obtain ⟨s, t, e⟩ := nan_read h
  show Ieee.double.order b b = none
  unfold Ieee.Format.order
  rw [e]; rfl
theorem nan_neq {b : Nat} (h : nanOf b) : (FloatKind.f64.format.order b b != some .eq) = true := by rw [nan_order h]; rfl
theorem value_le {a b : Nat} (h : a ≤ b) (hb : b < infBits) : mantN a * 2 ^ (expoN a - min (expoN a) (expoN b)).toNat ≤ mantN b * 2 ^ (expoN b - min (expoN a) (expoN b)).toNat := by
  have hm := scaled_mono h hb (-(min (expoN a) (expoN b)))
  unfold scaledN scaleF at hm
  rw [if_pos (by omega), if_pos (by omega)] at hm
  rwa [show expoN a + -min (expoN a) (expoN b) = expoN a - min (expoN a) (expoN b) by omega, show expoN b + -min (expoN a) (expoN b) = expoN b - min (expoN a) (expoN b) by omega] at hm
theorem ord_le {a b : Nat} (h : a ≤ b) (hb : b < infBits) : (FloatKind.f64.format.order a b == some .lt || FloatKind.f64.format.order a b == some .eq) = true := by
  have hv := value_le h hb
  show (Ieee.double.order a b == some .lt || Ieee.double.order a b == some .eq) = true
  unfold Ieee.Format.order
  rw [read_fin (by omega), read_fin hb]
  simp only [Ieee.Datum.order, Ieee.signed, shl_eq, Bool.false_eq_true, if_false]
  generalize mantN a * 2 ^ (expoN a - min (expoN a) (expoN b)).toNat = x at hv
  generalize mantN b * 2 ^ (expoN b - min (expoN a) (expoN b)).toNat = y at hv
  cases hc : compare (x : Int) (y : Int) with
  | lt => rfl
  | eq => rfl
  | gt => rw [Int.compare_eq_gt] at hc; omega
theorem ord_ge {a b : Nat} (h : a ≤ b) (hb : b < infBits) : (FloatKind.f64.format.order b a == some .gt || FloatKind.f64.format.order b a == some .eq) = true := by
  have hv := value_le h hb
  show (Ieee.double.order b a == some .gt || Ieee.double.order b a == some .eq) = true
  unfold Ieee.Format.order
  rw [read_fin hb, read_fin (show a < infBits by omega)]
  simp only [Ieee.Datum.order, Ieee.signed, shl_eq, Bool.false_eq_true, if_false]
  rw [Int.min_comm] at hv
  generalize mantN a * 2 ^ (expoN a - min (expoN b) (expoN a)).toNat = x at hv
  generalize mantN b * 2 ^ (expoN b - min (expoN b) (expoN a)).toNat = y at hv
  cases hc : compare (y : Int) (x : Int) with
  | gt => rfl
  | eq => rfl
  | lt => rw [Int.compare_eq_lt] at hc; omega

set_option maxHeartbeats 1600000 in
set_option maxRecDepth 20000 in
/-- CurveTells. -/
theorem curveTells_go (A : Option Addr) (c : Nat) (l : List Int) (z refs : Int) (w : World) (HS : CurveSpec w) (h : Ints w w.heap.size .i64 A l) (hz : ∀ z ∈ l, -9223372036854775808 ≤ z ∧ z ≤ 9223372036854775807) (hc : l.length ≤ c) (hm : l.length ≤ 140737488355328) (h1 : -9223372036854775808 ≤ z ∧ z ≤ 9223372036854775807) (h2 : -9223372036854775808 ≤ refs ∧ refs ≤ 9223372036854775807) :
    Calls Try.prog 5 #[.slice A l.length c, .int .i64 z, .int .i64 refs] w fun e w' => e = .returned (.bool true) ∧ Below w.heap.size w w' := by
  have HA := Lib.hid (curveAwake HS)
  have HR := Lib.hid (HS.ratio A c l z refs w (Below.refl _ _) h hz hc hm h1 h2)
  have HRR := Lib.hid (fun (W : World) (hb : Below w.heap.size w W) => refRatio_any A c l z refs W ((h.below hb).more hb.size) (by omega) h2.2)
  have HAT := Lib.hid (fun (W : World) (hb : Below w.heap.size w W) => HS.at_ A c l z W hb ((h.below hb).more hb.size) hz hc hm h1)
  have HAR := Lib.hid (fun (W : World) (hb : Below w.heap.size w W) => refAt_any A c l z W ((h.below hb).more hb.size) (by omega))
  have hcb := callBitsC
  have hcf := callFromC
  by_cases hr : refs ≤ 0
  · have hn : nanOf (ratioW (atN l z) refs) := by unfold ratioW; rw [if_pos hr]; unfold nanOf; decide
    have HR' := Lib.hid (HR.out.mono fun e w' ⟨b, q1, q2, q3⟩ => (⟨b, q1, q2.2.1 hr, q3⟩ : ∃ b, e = Ending.returned (.float .f64 b) ∧ nanOf b ∧ Below w.heap.size w w'))
    have m2 := nan_neq hn
    obtain ⟨R, hRe⟩ : ∃ R, R = ratioW (atN l z) refs := ⟨_, rfl⟩
    simp only [← hRe] at HRR m2
    obtain ⟨V, hV⟩ : ∃ R, R = atN l z := ⟨_, rfl⟩
    simp only [← hV] at HAT HAR
    obtain ⟨N, hN⟩ : ∃ N, N = l.length := ⟨_, rfl⟩
    simp only [← hN] at HR' HRR HAT HAR
    rw [← hN]
    clear HS h hz hc hm h1 h2 hRe hV hN HR hn hr
    go_enter Try.func5, Try.ntmps5
    go_wp2_with (first
      | (go_at_call 18; with_reducible (refine Calls.mono HR'.out ?_); rintro e w1 ⟨b, rfl, hok, hb1⟩; have m1 := nan_neq hok; clear hok)
      | (go_at_call 20; with_reducible (refine Calls.mono (HRR.out _ hb1) ?_); rintro e w2 ⟨rfl, rfl⟩)
      | (go_at_call 12; with_reducible (refine Calls.mono (HA.out _ hb1) ?_); rintro e w3 ⟨rfl, hb3⟩; have hx3 := chain hb1 hb3)
      | (go_at_call 22; with_reducible (refine Calls.mono (HAT.out _ hx3) ?_); rintro e w4 ⟨rfl, hb4⟩; have hx4 := chain hx3 hb4)
      | (go_at_call 23; with_reducible (refine Calls.mono (HAR.out _ hx4) ?_); rintro e w5 ⟨rfl, rfl⟩))
    all_goals go_ret
    all_goals exact ⟨rfl, hx4⟩
  · have HR' := Lib.hid (HR.out.mono fun e w' ⟨b, q1, q2, q3⟩ => by
      have hb : b = ratioW (atN l z) refs := by unfold ratioW; rw [if_neg hr]; exact q2.2.2 (by omega)
      rw [hb] at q1
      exact (⟨q1, q3⟩ : e = Ending.returned (.float .f64 (ratioW (atN l z) refs)) ∧ Below w.heap.size w w'))
    obtain ⟨R, hRe⟩ : ∃ R, R = ratioW (atN l z) refs := ⟨_, rfl⟩
    simp only [← hRe] at HRR HR'
    obtain ⟨V, hV⟩ : ∃ R, R = atN l z := ⟨_, rfl⟩
    simp only [← hV] at HAT HAR
    obtain ⟨N, hN⟩ : ∃ N, N = l.length := ⟨_, rfl⟩
    simp only [← hN] at HR' HRR HAT HAR
    rw [← hN]
    clear HS h hz hc hm h1 h2 hRe hV hN HR hr
    go_enter Try.func5, Try.ntmps5
    go_wp2_with (first
      | (go_at_call 18; with_reducible (refine Calls.mono HR'.out ?_); rintro e w1 ⟨rfl, hb1⟩)
      | (go_at_call 20; with_reducible (refine Calls.mono (HRR.out _ hb1) ?_); rintro e w2 ⟨rfl, rfl⟩)
      | (go_at_call 12; with_reducible (refine Calls.mono (HA.out _ hb1) ?_); rintro e w3 ⟨rfl, hb3⟩; have hx3 := chain hb1 hb3)
      | (go_at_call 22; with_reducible (refine Calls.mono (HAT.out _ hx3) ?_); rintro e w4 ⟨rfl, hb4⟩; have hx4 := chain hx3 hb4)
      | (go_at_call 23; with_reducible (refine Calls.mono (HAR.out _ hx4) ?_); rintro e w5 ⟨rfl, rfl⟩))
    all_goals go_ret
    all_goals exact ⟨rfl, hx4⟩

set_option maxHeartbeats 800000 in
/-- 'small'. -/
theorem small_any (A : Option Addr) (n c : Nat) (k : Nat) (w : World) (hc : n ≤ c) :
    Calls Try.prog 14 #[.slice A n c, .int .i64 (k : Int)] w fun e w' => e = .returned (.slice A (min n k) c) ∧ w = w' := by
  have k0 : (0 : Int) ≤ (k : Int) := by omega
  by_cases h : k < n
  · have h1 : (k : Int) < (n : Int) := by omega
    have h2 : (k : Int) ≤ (c : Int) := by omega
    have hr : min n k = k := by omega
    rw [hr]
    clear hr hc h
    go_enter Try.func14, Try.ntmps14
    go_wp2
    go_ret
    exact ⟨rfl, rfl⟩
  · have h1 : ¬ (k : Int) < (n : Int) := by omega
    have hr : min n k = n := by omega
    rw [hr]
    clear hr hc h
    go_enter Try.func14, Try.ntmps14
    go_wp2
    go_ret
    exact ⟨rfl, rfl⟩

set_option maxHeartbeats 800000 in
set_option maxRecDepth 20000 in
/-- CurveHulls. -/
theorem curveHulls_go (A : Option Addr) (c : Nat) (l : List Int) (w : World) (HS : CurveSpec w) (h : Ints w w.heap.size .i64 A l) (hz : ∀ z ∈ l, -9223372036854775808 ≤ z ∧ z ≤ 9223372036854775807) (hc : l.length ≤ c) :
    Calls Try.prog 4 #[.slice A l.length c] w fun e w' => e = .returned (.bool true) ∧ Below w.heap.size w w' := by
  have HA := Lib.hid (curveAwake HS)
  have HSM := Lib.hid (small_any A l.length c 60 w hc)
  have hl : (l.take 60).length = min l.length 60 := by rw [List.length_take, Nat.min_comm]
  have ht : Ints w w.heap.size .i64 A (l.take 60) := h.take 60
  have hzt : ∀ z ∈ l.take 60, -9223372036854775808 ≤ z ∧ z ≤ 9223372036854775807 := fun z q => hz z (List.mem_of_mem_take q)
  obtain ⟨s, hs⟩ : ∃ s, s = l.take 60 := ⟨_, rfl⟩
  rw [← hs] at hl ht hzt
  rw [← hl] at HSM
  have hs60 : s.length ≤ 60 := by omega
  have hsc : s.length ≤ c := by omega
  have HH := HS.hull A c s w (Below.refl _ _) ht hzt hsc (by omega)
  have HSD := Lib.hid (fun (W : World) (hb : Below w.heap.size w W) => refSoundC_any A c s W ((ht.below hb).more hb.size) (by omega))
  clear hs hl h hz hc
  by_cases hsd : soundL s = true
  · have HHR := Lib.hid (fun (W : World) (hb : Below w.heap.size w W) => refHull_any A c s W ((ht.below hb).more hb.size) hsd)
    have e : hullR s = (0, hullL s) := by unfold hullR; rw [if_pos hsd]
    rw [e] at HH
    rw [hsd] at HSD
    have hhl : (hullL s).length ≤ 140737488355328 := by have := hullTo_le s s.length; unfold hullL; omega
    have HSI := Lib.hid (fun (W : World) (A0 A1 : Option Addr) (c0 c1 : Nat) (h0 : Ints W W.heap.size .i64 A0 (hullL s)) (h1 : Ints W W.heap.size .i64 A1 (hullL s)) => sameInts_any A0 A1 c0 c1 (hullL s) W h0 h1 hhl)
    simp only [] at HH
    obtain ⟨L, hL⟩ : ∃ E, E = hullL s := ⟨_, rfl⟩
    simp only [← hL] at HH HHR HSI
    obtain ⟨N, hN⟩ : ∃ N, N = s.length := ⟨_, rfl⟩
    simp only [← hN] at HH HHR HSD HSM
    have HH' := Lib.hid HH
    clear HS ht hzt hs60 hsc hsd e hhl hL hN HH
    go_enter Try.func4, Try.ntmps4
    go_wp2_with (first
      | (go_at_call 14; with_reducible (refine Calls.mono HSM.out ?_); rintro e w0 ⟨rfl, rfl⟩)
      | (go_at_call 15; with_reducible (refine Calls.mono HH'.out ?_); rintro e w1 ⟨A1, c1, rfl, hc1, hi1, hb1⟩)
      | (go_at_call 16; with_reducible (refine Calls.mono (HSD.out _ hb1) ?_); rintro e w2 ⟨rfl, m, hw2⟩; have hbm : Below w1.heap.size w1 w2 := (by rw [hw2]; exact below_drewN (Below.refl _ _) m); have hx2 := chain hb1 hbm; have hi2 := (hi1.below hbm).more hbm.size; clear hw2 hbm)
      | (go_at_call 12; with_reducible (refine Calls.mono (HA.out _ hx2) ?_); rintro e w3 ⟨rfl, hb3⟩; have hx3 := chain hx2 hb3; replace hi2 := (hi2.below hb3).more hb3.size)
      | (go_at_call 17; with_reducible (refine Calls.mono (HHR.out _ hx3) ?_); rintro e w4 ⟨A4, c4, rfl, hi4, hb4⟩; have hx4 := chain hx3 hb4; replace hi2 := (hi2.below hb4).more hb4.size)
      | (go_at_call 13; with_reducible (refine Calls.mono (HSI.out _ _ _ _ _ hi2 hi4) ?_); rintro e w5 ⟨rfl, m5, rfl⟩))
    go_ret
    exact ⟨rfl, below_drewN hx4 _⟩
  · rw [Bool.not_eq_true] at hsd
    have e : hullR s = (2, []) := by unfold hullR; rw [if_neg (by rw [hsd]; decide)]
    rw [e] at HH
    rw [hsd] at HSD
    have HH' : Hid (Calls Try.prog 15 #[.slice A s.length c] w fun e w' => ∃ A' c', e = .returned (.tuple #[.slice A' 0 c', .int .i64 2]) ∧ Below w.heap.size w w') := HH.mono fun e w' ⟨A', c', q1, _, _, q4⟩ => ⟨A', c', q1, q4⟩
    obtain ⟨N, hN⟩ : ∃ N, N = s.length := ⟨_, rfl⟩
    simp only [← hN] at HH' HSD HSM
    clear HS ht hzt hs60 hsc hsd e hN HH
    go_enter Try.func4, Try.ntmps4
    go_wp2_with (first
      | (go_at_call 14; with_reducible (refine Calls.mono HSM.out ?_); rintro e w0 ⟨rfl, rfl⟩)
      | (go_at_call 15; with_reducible (refine Calls.mono HH'.out ?_); rintro e w1 ⟨A1, c1, rfl, hb1⟩)
      | (go_at_call 16; with_reducible (refine Calls.mono (HSD.out _ hb1) ?_); rintro e w2 ⟨rfl, m, hw2⟩; have hbm : Below w1.heap.size w1 w2 := (by rw [hw2]; exact below_drewN (Below.refl _ _) m); have hx2 := chain hb1 hbm; clear hw2 hbm)
      | (go_at_call 12; with_reducible (refine Calls.mono (HA.out _ hx2) ?_); rintro e w3 ⟨rfl, hb3⟩; have hx3 := chain hx2 hb3))
    go_ret
    exact ⟨rfl, hx3⟩

end Go.Proofs.Ytoedapeookkodaa
