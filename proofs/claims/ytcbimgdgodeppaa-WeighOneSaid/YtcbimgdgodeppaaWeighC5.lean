/-
  weigh's units: of one weight beside the greatest one; of all.
-/
import Derived.Test.YtcbimgdgodeppaaWeighC4
import Derived.Test.YtcbimgdgodeppaaWeighC1
namespace Go.Proofs.Ytcbimgdgodeppaa
open Go.RowKit Ieee

theorem top_bounds (b : Nat) : -1074 ≤ topN b ∧ topN b ≤ 1025 := by
  obtain ⟨h1, h2⟩ := expo_bound b
  have := log2_bound (mant_bound b)
  unfold topN
  omega
theorem conv53 (t : Nat) (w : World) (ht : t < 4503599627370496) : (convert 35 44 (.float .f64 (4841369599423283200 + t))).run Try.prog w = .ok (.int .u64 ((4503599627370496 + t : Nat) : Int)) w := by
  refine run_convert_float_int w 35 44 .f64 .u64 _ _ (by rw [Try.underlying35]; rfl) Try.underlying44 ?_
  have h := int53 ht
  have hd : (FloatKind.f64.decode (4841369599423283200 + t)) = Ieee.double.read (4841369599423283200 + t) := rfl
  unfold floatToIntVal
  rw [hd, h]
  have hb : IntKind.u64.min ≤ ((4503599627370496 + t : Nat) : Int) ∧ ((4503599627370496 + t : Nat) : Int) ≤ IntKind.u64.max := by
    have e1 : IntKind.u64.min = 0 := by decide
    have e2 : IntKind.u64.max = 18446744073709551615 := by decide
    rw [e1, e2]; omega
  simp only [hb]
  simp

set_option maxHeartbeats 1600000 in
set_option maxRecDepth 20000 in
theorem scaled_any (b g : Nat) (w : World) (h0 : 0 < b) (hle : b ≤ g) (hi : g < infBits) : Calls Try.prog 34 #[.float .f64 b, .float .f64 g] w fun e w' => e = .returned (.int .i64 (scaledN b (31 - topN g) : Nat)) ∧ w' = w := by
  have hib : b < infBits := by omega
  have HF1 := Lib.hid (fun W => Frexp_any b W h0 hib)
  have HF2 := Lib.hid (fun W => Frexp_any g W (by omega) hi)
  obtain ⟨p1, p2⟩ := part_bounds h0 hib
  have hm := top_mono h0 hle hi
  obtain ⟨u1, u2⟩ := top_bounds b
  obtain ⟨u3, u4⟩ := top_bounds g
  obtain ⟨t, ht⟩ : ∃ t, t = partN b - 4503599627370496 := ⟨_, rfl⟩
  have hFB : fracB b = 4602678819172646912 + t := by unfold fracB; rw [ht]
  have HL := Lib.hid (fun W => Ldexp_any t W (by omega))
  have hcv := fun W => conv53 t W (by omega)
  have hpt : 4503599627370496 + t = partN b := by omega
  rw [hpt] at hcv
  obtain ⟨k, hk⟩ : ∃ k : Nat, (k : Int) = 21 + topN g - topN b := ⟨(21 + topN g - topN b).toNat, by omega⟩
  have hsc := part_scaled h0 hib hk
  have hsh : ((partN b : Nat) : Int) / 2 ^ (min k 64) = ((scaledN b (31 - topN g) : Nat) : Int) := by
    rw [← hsc, ← div_far (show partN b < 18446744073709551616 by omega) k]; simp
  have hsl : scaledN b (31 - topN g) < 9007199254740992 := by rw [← hsc]; exact Nat.lt_of_le_of_lt (Nat.div_le_self _ _) p2
  rw [hFB] at HF1
  obtain ⟨R, hR⟩ : ∃ R, R = scaledN b (31 - topN g) := ⟨_, rfl⟩
  rw [← hR] at hsh hsl ⊢
  obtain ⟨TB, hTB⟩ : ∃ T, T = topN b := ⟨_, rfl⟩
  obtain ⟨TG, hTG⟩ : ∃ T, T = topN g := ⟨_, rfl⟩
  rw [← hTB] at HF1 hk u1 u2
  rw [← hTG] at HF2 hk u3 u4
  obtain ⟨F1, hF1⟩ : ∃ F, F = 4602678819172646912 + t := ⟨_, rfl⟩
  obtain ⟨F2, hF2⟩ : ∃ F, F = 4841369599423283200 + t := ⟨_, rfl⟩
  obtain ⟨F3, hF3⟩ : ∃ F, F = fracB g := ⟨_, rfl⟩
  obtain ⟨M, hM⟩ : ∃ M, M = partN b := ⟨_, rfl⟩
  rw [← hF1] at HF1 HL
  rw [← hF2] at HL hcv
  rw [← hF3] at HF2
  rw [← hM] at hcv hsh
  have v1 : IntKind.i64.wrap (21 + (TG + 1)) = 21 + (TG + 1) := IntWalk.i64_in _ (by omega)
  have v2 : IntKind.i64.wrap (21 + (TG + 1) - (TB + 1)) = (k : Int) := by rw [IntWalk.i64_in _ (by omega)]; omega
  have v3 : IntKind.i64.wrap (R : Int) = (R : Int) := IntWalk.i64_in _ (by omega)
  clear h0 hle hi hib p1 p2 hm ht hFB hpt hsc hR hTB hTG hF1 hF2 hF3 hM hk u1 u2 u3 u4
  go_enter Try.func34, Try.ntmps34
  go_wp2_with (first
    | (go_at_call 40; with_reducible (refine Calls.mono (HF1.out _) ?_); rintro e w' ⟨rfl, rfl⟩)
    | (go_at_call 40; with_reducible (refine Calls.mono (HF2.out _) ?_); rintro e w' ⟨rfl, rfl⟩)
    | (go_at_call 41; with_reducible (refine Calls.mono (HL.out _) ?_); rintro e w' ⟨rfl, rfl⟩))
  go_ret
  exact ⟨rfl, rfl⟩

set_option maxHeartbeats 1600000 in
theorem nothing_any (b : Nat) (w : World) (hb : b < 18446744073709551616) : Calls Try.prog 33 #[.float .f64 b] w fun e w' => e = .returned (.bool (!posN b)) ∧ w' = w := by
  have HN := Lib.hid (fun W => isNaN_any b W)
  by_cases hp : posN b = true
  · obtain ⟨p0, p1⟩ := pos_bounds hp
    have h1 : (Ieee.double.order b b != some .eq) = false := by rw [ord_nat p1 p1, cmp_eq]; rfl
    have ho : FloatKind.f64.format.order b 0 = some .gt := by
      rw [show FloatKind.f64.format = Ieee.double from rfl, ord_nat p1 (by decide), Nat.compare_eq_gt.2 p0]
    rw [h1] at HN
    have HP := Lib.hid hp
    clear hp p0 p1 h1 hb
    go_enter Try.func33, Try.ntmps33
    go_wp2_with (go_at_call 39; with_reducible (refine Calls.mono (HN.out _) ?_); rintro e w' ⟨rfl, rfl⟩)
    go_ret
    exact ⟨by rw [HP.out]; rfl, rfl⟩
  · rw [Bool.not_eq_true] at hp
    have h := ord_none hb hp
    have HP := Lib.hid hp
    cases h1 : (Ieee.double.order b b != some .eq) with
    | true =>
      rw [h1] at HN
      clear hp h h1 hb
      go_enter Try.func33, Try.ntmps33
      go_wp2_with (go_at_call 39; with_reducible (refine Calls.mono (HN.out _) ?_); rintro e w' ⟨rfl, rfl⟩)
      go_ret
      exact ⟨by rw [HP.out]; rfl, rfl⟩
    | false =>
      rw [h1] at HN h
      rw [Bool.false_or] at h
      have h2 : (FloatKind.f64.format.order b 0 == some .lt || FloatKind.f64.format.order b 0 == some .eq) = true := h
      rw [Bool.or_eq_true, beq_iff_eq, beq_iff_eq] at h2
      clear hp h h1 hb
      rcases h2 with ho | ho
      · go_enter Try.func33, Try.ntmps33
        go_wp2_with (go_at_call 39; with_reducible (refine Calls.mono (HN.out _) ?_); rintro e w' ⟨rfl, rfl⟩)
        go_ret
        exact ⟨by rw [HP.out]; rfl, rfl⟩
      · go_enter Try.func33, Try.ntmps33
        go_wp2_with (go_at_call 39; with_reducible (refine Calls.mono (HN.out _) ?_); rintro e w' ⟨rfl, rfl⟩)
        go_ret
        exact ⟨by rw [HP.out]; rfl, rfl⟩

/-- A weight's unit beside the greatest one. -/
def unitG (b g : Nat) : Nat := if posN b then (if g = infBits then (if b = infBits then 1 else 0) else scaledN b (31 - topN g)) else 0
set_option maxHeartbeats 1600000 in
theorem unit_any (b g : Nat) (w : World) (hb : b < 18446744073709551616) (hg : g ≤ infBits) (hle : posN b = true → b ≤ g) : Calls Try.prog 23 #[.float .f64 b, .float .f64 g] w fun e w' => e = .returned (.int .i64 (unitG b g : Nat)) ∧ w' = w := by
  have HN := Lib.hid (fun W => nothing_any b W hb)
  by_cases hp : posN b = true
  · obtain ⟨p0, p1⟩ := pos_bounds hp
    rw [hp] at HN
    have HI := Lib.hid (fun W => isInf1_any g W hg)
    by_cases hgi : g = infBits
    · rw [show (g == infBits) = true from beq_iff_eq.2 hgi] at HI
      have ho : FloatKind.f64.format.order b g = some (compare b g) := ord_nat p1 hg
      by_cases hbi : b = infBits
      · have HU : Hid (unitG b g = 1) := by unfold Hid unitG; rw [if_pos hp, if_pos hgi, if_pos hbi]
        have ho2 : FloatKind.f64.format.order b g = some .eq := by rw [ho, hgi, hbi, cmp_eq]
        clear hp hb hg hle p0 p1 hgi hbi ho
        go_enter Try.func23, Try.ntmps23
        go_wp2_with (first
          | (go_at_call 33; with_reducible (refine Calls.mono (HN.out _) ?_); rintro e w' ⟨rfl, rfl⟩)
          | (go_at_call 21; with_reducible (refine Calls.mono (HI.out _) ?_); rintro e w' ⟨rfl, rfl⟩))
        go_ret
        exact ⟨by rw [HU.out]; rfl, rfl⟩
      · have HU : Hid (unitG b g = 0) := by unfold Hid unitG; rw [if_pos hp, if_pos hgi, if_neg hbi]
        rw [Nat.compare_eq_lt.2 (by omega)] at ho
        clear hp hb hg hle p0 p1 hgi hbi
        go_enter Try.func23, Try.ntmps23
        go_wp2_with (first
          | (go_at_call 33; with_reducible (refine Calls.mono (HN.out _) ?_); rintro e w' ⟨rfl, rfl⟩)
          | (go_at_call 21; with_reducible (refine Calls.mono (HI.out _) ?_); rintro e w' ⟨rfl, rfl⟩))
        go_ret
        exact ⟨by rw [HU.out]; rfl, rfl⟩
    · rw [show (g == infBits) = false from beq_eq_false_iff_ne.2 hgi] at HI
      have HS := Lib.hid (fun W => scaled_any b g W p0 (hle hp) (by omega))
      have HU : Hid (unitG b g = scaledN b (31 - topN g)) := by unfold Hid unitG; rw [if_pos hp, if_neg hgi]
      clear hp hb hg hle p0 p1 hgi
      go_enter Try.func23, Try.ntmps23
      go_wp2_with (first
        | (go_at_call 33; with_reducible (refine Calls.mono (HN.out _) ?_); rintro e w' ⟨rfl, rfl⟩)
        | (go_at_call 21; with_reducible (refine Calls.mono (HI.out _) ?_); rintro e w' ⟨rfl, rfl⟩)
        | (go_at_call 34; with_reducible (refine Calls.mono (HS.out _) ?_); rintro e w' ⟨rfl, rfl⟩))
      go_ret
      exact ⟨by rw [HU.out]; rfl, rfl⟩
  · have HU : Hid (unitG b g = 0) := by unfold Hid unitG; rw [if_neg hp]
    rw [Bool.not_eq_true] at hp
    rw [hp] at HN
    clear hp hb hg hle
    go_enter Try.func23, Try.ntmps23
    go_wp2_with (go_at_call 33; with_reducible (refine Calls.mono (HN.out _) ?_); rintro e w' ⟨rfl, rfl⟩)
    go_ret
    exact ⟨by rw [HU.out]; rfl, rfl⟩

end Go.Proofs.Ytcbimgdgodeppaa
