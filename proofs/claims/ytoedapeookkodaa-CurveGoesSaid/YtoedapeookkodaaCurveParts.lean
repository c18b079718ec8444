/-
  CurveParts.
-/
import Derived.Test.YtoedapeookkodaaCurveTells
namespace Go.Proofs.Ytoedapeookkodaa
open Go.RowKit

theorem neg_bitsC : bits BinOp.or IntKind.u64 (bits BinOp.andNot IntKind.u64 0 9223372036854775808) (bits BinOp.and IntKind.u64 13830554455654793216 9223372036854775808) = 9223372036854775808 := by decide +kernel
theorem mathCopysignC (w : World) : Calls Try.prog 24 #[.float .f64 0, .float .f64 13830554455654793216] w fun e w' => e = .returned (.float .f64 9223372036854775808) ∧ w = w' := by
  have hcb : ∀ w : World, (callFunc 19 #[.int .u64 (bits BinOp.or IntKind.u64 (bits BinOp.andNot IntKind.u64 0 9223372036854775808) (bits BinOp.and IntKind.u64 13830554455654793216 9223372036854775808))]).run Try.prog w = .ok (.value (.float .f64 9223372036854775808)) w := fun w => by rw [neg_bitsC]; exact callFromC 9223372036854775808 w
  have hc1 : ∀ w : World, (callFunc 21 #[.float .f64 0]).run Try.prog w = .ok (.value (.int .u64 0)) w := callBitsC 0
  have hc2 : ∀ w : World, (callFunc 21 #[.float .f64 13830554455654793216]).run Try.prog w = .ok (.value (.int .u64 13830554455654793216)) w := callBitsC 13830554455654793216
  go_enter Try.func24, Try.ntmps24
  go_wp2
  go_ret
  exact ⟨rfl, rfl⟩

theorem sumK_mono {l : List Int} (hl : ∀ z ∈ l, 0 ≤ z ∧ z ≤ 1048576) : ∀ {i : Nat} (d : Nat), i + d ≤ l.length → sumK l i ≤ sumK l (i + d)
  | _, 0, _ => Int.le_refl _
  | i, d + 1, h => by
    have ih := sumK_mono hl (i := i) d (by omega)
    have hz := hl (l.getD (i + d) 0) (by rw [List.getD_eq_getElem?_getD, List.getElem?_eq_getElem (by omega : i + d < l.length)]; exact List.getElem_mem _)
    rw [← Nat.add_assoc, sumK_succ l (by omega)]
    omega
/-- What a greater size brings is not less. -/
theorem atN_mono {l : List Int} {t : Int} (hb : ofBad l t = false) {x y : Nat} (h : x ≤ y) : atN (ofL l t) (x : Int) ≤ atN (ofL l t) (y : Int) := by
  obtain ⟨_, h2, _, h4⟩ := ofBad_false hb
  have key : ∀ x : Nat, atN (ofL l t) (x : Int) = sumK l (min x l.length) * t := fun x => by
    unfold atN
    rw [ofL_len, if_neg (by omega)]
    by_cases hx : ((l.length + 1 : Nat) : Int) ≤ (x : Int)
    · rw [if_pos hx, Nat.add_sub_cancel, ofL_at l t (Nat.le_refl _), Nat.min_eq_right (by omega)]
    · rw [if_neg hx, Int.toNat_natCast, ofL_at l t (by omega), Nat.min_eq_left (by omega)]
  rw [key, key]
  obtain ⟨d, hd⟩ : ∃ d, min y l.length = min x l.length + d := ⟨min y l.length - min x l.length, by omega⟩
  rw [hd]
  exact Int.mul_le_mul_of_nonneg_right (sumK_mono h4 d (by omega)) h2

set_option maxHeartbeats 1600000 in
set_option maxRecDepth 20000 in
/-- CurveParts. -/
theorem curveParts_go (A : Option Addr) (c : Nat) (l : List Int) (a b : Nat) (refs : Int) (w : World) (HS : CurveSpec w) (h : Ints w w.heap.size .i64 A l) (hz : ∀ z ∈ l, -9223372036854775808 ≤ z ∧ z ≤ 9223372036854775807) (hc : l.length ≤ c) (hm : l.length ≤ 140737488355328) (ha : a < 65536) (hb : b < 65536) (hr : -9223372036854775808 ≤ refs ∧ refs ≤ 9223372036854775807) :
    Calls Try.prog 6 #[.slice A l.length c, .int .u16 (a : Int), .int .u16 (b : Int), .int .i64 refs] w fun e w' => e = .returned (.bool true) ∧ Below w.heap.size w w' := by
  have HA := Lib.hid (curveAwake HS)
  have HO := HS.makes A c l 3 w (Below.refl _ _) h hz hc hm (by decide)
  obtain ⟨N, hN⟩ : ∃ N, N = l.length := ⟨_, rfl⟩
  cases hbad : ofBad l 3
  · have e : ofR l 3 = (0, ofL l 3) := by unfold ofR; rw [hbad]; rfl
    rw [e] at HO
    have hlen := ofL_len l 3
    have hb3 := (ofBad_false hbad).1
    have h64 : ∀ z ∈ ofL l 3, -9223372036854775808 ≤ z ∧ z ≤ 9223372036854775807 := fun z hz => by
      unfold ofL at hz
      obtain ⟨i, hi, rfl⟩ := List.mem_map.1 hz
      have := ofL_i64 hbad (i := i) (by have := List.mem_range.1 hi; omega)
      omega
    simp only [hlen] at HO
    rw [← hN] at HO ⊢
    by_cases hr0 : refs ≤ 0
    · have HO' := Lib.hid (HO.mono fun e w' ⟨A', c', q1, _, _, q4⟩ => (⟨A', c', q1, q4⟩ : ∃ A' c', e = Ending.returned (.tuple #[.slice A' (N + 1) c', .int .i64 0]) ∧ Below w.heap.size w w'))
      clear HS HO h hz hc hm hbad hlen h64 hN e hb3
      go_enter Try.func6, Try.ntmps6
      go_wp2_with (first
        | (go_at_call 12; with_reducible (refine Calls.mono (HA.out _ hx2) ?_); rintro e w3 ⟨rfl, hb3⟩; have hx3 := chain hx2 hb3)
        | (go_at_call 12; with_reducible (refine Calls.mono (HA.out _ hb1) ?_); rintro e w2 ⟨rfl, hb2⟩; have hx2 := chain hb1 hb2)
        | (go_at_call 10; with_reducible (refine Calls.mono HO'.out ?_); rintro e w1 ⟨A1, c1, rfl, hb1⟩))
      go_ret
      exact ⟨rfl, hx3⟩
    · have HRT : Hid (∀ (W : World) (A1 : Option Addr) (c1 x : Nat), Below w.heap.size w W → Ints W W.heap.size .i64 A1 (ofL l 3) → N + 1 ≤ c1 → x < 65536 →
          Calls Try.prog 18 #[.slice A1 (N + 1) c1, .int .i64 (x : Int), .int .i64 refs] W fun e w' => e = .returned (.float .f64 (ratioB (atN (ofL l 3) (x : Int)) refs)) ∧ Below W.heap.size W w') := fun W A1 c1 x hbw hi hc1 hx => by
        have h9 := HS.ratio A1 c1 (ofL l 3) (x : Int) refs W hbw hi h64 (by rw [hlen]; omega) (by rw [hlen]; omega) ⟨by omega, by omega⟩ hr
        rw [hlen, ← hN] at h9
        exact h9.mono fun e w' ⟨b, q1, q2, q3⟩ => ⟨by rw [q1, q2.2.2 (by omega)], q3⟩
      have HMO : Hid (∀ x y : Nat, x ≤ y → ratioB (atN (ofL l 3) (y : Int)) refs ≤ ratioB (atN (ofL l 3) (x : Int)) refs) := fun x y hxy => ratio_mono (atN_mono hbad hxy) hr.2
      have HLE : Hid (∀ x : Nat, ratioB (atN (ofL l 3) (x : Int)) refs ≤ 4607182418800017408) := fun x => ratio_le _ hr.2
      obtain ⟨L, hL⟩ : ∃ L, L = ofL l 3 := ⟨_, rfl⟩
      simp only [← hL] at HO HRT HMO HLE
      obtain ⟨F, hF⟩ : ∃ F : Nat → Nat, F = fun x : Nat => ratioB (atN L (x : Int)) refs := ⟨_, rfl⟩
      have hFF : ∀ x : Nat, ratioB (atN L (x : Int)) refs = F x := fun x => by rw [hF]
      simp only [hFF] at HRT HMO HLE
      have HO' := Lib.hid HO
      have HCB := Lib.hid callBitsC
      have HCS := Lib.hid mathCopysignC
      have hc8 : ∀ w : World, (callFunc 21 #[.float .f64 9223372036854775808]).run Try.prog w = .ok (.value (.int .u64 9223372036854775808)) w := callBitsC 9223372036854775808
      have ea : IntKind.i64.wrap (a : Int) = (a : Int) := by rw [IntKind.wrap_i64]; omega
      have eb : IntKind.i64.wrap (b : Int) = (b : Int) := by rw [IntKind.wrap_i64]; omega
      have HAA := Lib.hid ha
      have HBB := Lib.hid hb
      have key : ∀ x y : Nat, x ≤ y → (FloatKind.f64.format.order (F x) 0 == some .gt || FloatKind.f64.format.order (F x) 0 == some .eq) = true ∧ (FloatKind.f64.format.order (F x) 4607182418800017408 == some .lt || FloatKind.f64.format.order (F x) 4607182418800017408 == some .eq) = true ∧
          (FloatKind.f64.format.order (F y) 0 == some .gt || FloatKind.f64.format.order (F y) 0 == some .eq) = true ∧ (FloatKind.f64.format.order (F y) (F x) == some .lt || FloatKind.f64.format.order (F y) (F x) == some .eq) = true ∧ ((F y : Int) != 9223372036854775808) = true := fun x y hxy => by
        have l1 := HLE.out x
        have l2 := HLE.out y
        have l3 := HMO.out x y hxy
        refine ⟨ord_ge (Nat.zero_le _) (by unfold infBits; omega), ord_le l1 (by unfold infBits; omega), ord_ge (Nat.zero_le _) (by unfold infBits; omega), ord_le l3 (by unfold infBits; omega), ?_⟩
        rw [bne_iff_ne]; omega
      have HK := Lib.hid key
      clear HS HO h hz hc hm hbad hlen h64 hN e hb3 hL hF hFF key ha hb
      by_cases hab : b < a
      · have d1 : (b : Int) < (a : Int) := by omega
        have hk := HK.out b a (by omega)
        have HRX := Lib.hid (fun (W : World) (A1 : Option Addr) (c1 : Nat) (q1 : Below w.heap.size w W) (q2 : Ints W W.heap.size .i64 A1 L) (q3 : N + 1 ≤ c1) => HRT.out W A1 c1 b q1 q2 q3 HBB.out)
        have HRY := Lib.hid (fun (W : World) (A1 : Option Addr) (c1 : Nat) (q1 : Below w.heap.size w W) (q2 : Ints W W.heap.size .i64 A1 L) (q3 : N + 1 ≤ c1) => HRT.out W A1 c1 a q1 q2 q3 HAA.out)
        obtain ⟨P, hP⟩ : ∃ P, P = F b := ⟨_, rfl⟩
        obtain ⟨Q, hQ⟩ : ∃ P, P = F a := ⟨_, rfl⟩
        rw [← hP, ← hQ] at hk
        rw [← hP] at HRX
        rw [← hQ] at HRY
        have HKK := Lib.hid hk
        clear hk
        have hcq := HCB.out Q
        clear hab hP hQ HK HRT HMO HLE HAA HBB
        go_enter Try.func6, Try.ntmps6
        go_wp2_with (first
          | (go_at_call 24; with_reducible (refine Calls.mono (HCS.out _) ?_); rintro e w9 ⟨rfl, rfl⟩)
          | (go_at_call 18; with_reducible (refine Calls.mono (HRY.out _ _ _ hx3 hi3 hc1) ?_); rintro e w4 ⟨rfl, hb4⟩; have hx4 := chain hx3 hb4)
          | (go_at_call 18; with_reducible (refine Calls.mono (HRX.out _ _ _ hx2 hi2 hc1) ?_); rintro e w3 ⟨rfl, hb3⟩; have hx3 := chain hx2 hb3; have hi3 := (hi2.below hb3).more hb3.size)
          | (go_at_call 12; with_reducible (refine Calls.mono (HA.out _ hb1) ?_); rintro e w2 ⟨rfl, hb2⟩; have hx2 := chain hb1 hb2; have hi2 := (hi1.below hb2).more hb2.size)
          | (go_at_call 10; with_reducible (refine Calls.mono HO'.out ?_); rintro e w1 ⟨A1, c1, rfl, hc1, hi1, hb1⟩))

        all_goals go_ret
        all_goals obtain ⟨q1, q2, q3, q4, q5⟩ := HKK.out
        all_goals refine ⟨?_, hx4⟩
        all_goals first | rfl | (simp [q1, q2, q3, q4, q5]; done) | (exfalso; simp only [Bool.or_eq_true, beq_iff_eq] at *; simp_all; done)
      · have d1 : ¬ (b : Int) < (a : Int) := by omega
        have hk := HK.out a b (by omega)
        have HRX := Lib.hid (fun (W : World) (A1 : Option Addr) (c1 : Nat) (q1 : Below w.heap.size w W) (q2 : Ints W W.heap.size .i64 A1 L) (q3 : N + 1 ≤ c1) => HRT.out W A1 c1 a q1 q2 q3 HAA.out)
        have HRY := Lib.hid (fun (W : World) (A1 : Option Addr) (c1 : Nat) (q1 : Below w.heap.size w W) (q2 : Ints W W.heap.size .i64 A1 L) (q3 : N + 1 ≤ c1) => HRT.out W A1 c1 b q1 q2 q3 HBB.out)
        obtain ⟨P, hP⟩ : ∃ P, P = F a := ⟨_, rfl⟩
        obtain ⟨Q, hQ⟩ : ∃ P, P = F b := ⟨_, rfl⟩
        rw [← hP, ← hQ] at hk
        rw [← hP] at HRX
        rw [← hQ] at HRY
        have HKK := Lib.hid hk
        clear hk
        have hcq := HCB.out Q
        clear hab hP hQ HK HRT HMO HLE HAA HBB
        go_enter Try.func6, Try.ntmps6
        go_wp2_with (first
          | (go_at_call 24; with_reducible (refine Calls.mono (HCS.out _) ?_); rintro e w9 ⟨rfl, rfl⟩)
          | (go_at_call 18; with_reducible (refine Calls.mono (HRY.out _ _ _ hx3 hi3 hc1) ?_); rintro e w4 ⟨rfl, hb4⟩; have hx4 := chain hx3 hb4)
          | (go_at_call 18; with_reducible (refine Calls.mono (HRX.out _ _ _ hx2 hi2 hc1) ?_); rintro e w3 ⟨rfl, hb3⟩; have hx3 := chain hx2 hb3; have hi3 := (hi2.below hb3).more hb3.size)
          | (go_at_call 12; with_reducible (refine Calls.mono (HA.out _ hb1) ?_); rintro e w2 ⟨rfl, hb2⟩; have hx2 := chain hb1 hb2; have hi2 := (hi1.below hb2).more hb2.size)
          | (go_at_call 10; with_reducible (refine Calls.mono HO'.out ?_); rintro e w1 ⟨A1, c1, rfl, hc1, hi1, hb1⟩))
        all_goals go_ret
        all_goals obtain ⟨q1, q2, q3, q4, q5⟩ := HKK.out
        all_goals refine ⟨?_, hx4⟩
        all_goals first | rfl | (simp [q1, q2, q3, q4, q5]; done) | (exfalso; simp only [Bool.or_eq_true, beq_iff_eq] at *; simp_all; done)
  · have e : ofR l 3 = (1, []) := by unfold ofR; rw [hbad]; rfl
    rw [e, ← hN] at HO
    rw [← hN]
    have HO' := Lib.hid (HO.mono fun e w' ⟨A', c', q1, _, _, q4⟩ => (⟨A', c', q1, q4⟩ : ∃ A' c', e = Ending.returned (.tuple #[.slice A' 0 c', .int .i64 1]) ∧ Below w.heap.size w w'))
    clear HS HO h hz hc hm hbad hN e
    go_enter Try.func6, Try.ntmps6
    go_wp2_with (first
      | (go_at_call 12; with_reducible (refine Calls.mono (HA.out _ hx2) ?_); rintro e w3 ⟨rfl, hb3⟩; have hx3 := chain hx2 hb3)
      | (go_at_call 12; with_reducible (refine Calls.mono (HA.out _ hb1) ?_); rintro e w2 ⟨rfl, hb2⟩; have hx2 := chain hb1 hb2)
      | (go_at_call 10; with_reducible (refine Calls.mono HO'.out ?_); rintro e w1 ⟨A1, c1, rfl, hb1⟩))
    go_ret
    exact ⟨rfl, hx3⟩

end Go.Proofs.Ytoedapeookkodaa
