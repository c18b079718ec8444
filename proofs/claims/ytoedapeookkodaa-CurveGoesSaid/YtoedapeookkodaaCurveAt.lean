/-
  The document's own: the part that a size misses (stowageref11).
-/
import Derived.Test.YtoedapeookkodaaCurveAtR
import Derived.Test.YtoedapeookkodaaCurveFloat
namespace Go.Proofs.Ytoedapeookkodaa
open Go.RowKit

theorem callBitsC (b : Nat) (w : World) : (callFunc 21 #[.float .f64 b]).run Try.prog w = .ok (.value (.int .u64 (b : Int))) w := by kernel_rfl
theorem callFromC (b : Nat) (w : World) : (callFunc 19 #[.int .u64 (b : Int)]).run Try.prog w = .ok (.value (.float .f64 b)) w := by kernel_rfl
theorem from_nanC (w : World) : (callFunc 19 #[.int .u64 9221120237041090561]).run Try.prog w = .ok (.value (.float .f64 9221120237041090561)) w := callFromC 9221120237041090561 w
theorem bits_nanC (w : World) : (callFunc 21 #[.float .f64 9221120237041090561]).run Try.prog w = .ok (.value (.int .u64 9221120237041090561)) w := callBitsC 9221120237041090561 w
theorem bits_oneC (w : World) : (callFunc 21 #[.float .f64 4607182418800017408]).run Try.prog w = .ok (.value (.int .u64 4607182418800017408)) w := callBitsC 4607182418800017408 w
theorem mathNaNC (w : World) : Calls Try.prog 29 #[] w fun e w' => e = .returned (.float .f64 9221120237041090561) ∧ w = w' := by
  have h := from_nanC
  go_enter Try.func29, Try.ntmps29
  go_wp2
  go_ret
  exact ⟨rfl, rfl⟩

/-- The bits that are asked of a part. -/
def ratioW (h refs : Int) : Nat := if refs ≤ 0 then 9221120237041090561 else ratioB h refs
theorem ratio_mid {h refs : Int} (h0 : 0 < h) (h1 : h < refs) (h2 : refs ≤ 9223372036854775807) : Ieee.double.div (floatOfInt .f64 (refs - h)) (floatOfInt .f64 refs) = some (ratioB h refs) ∧ ratioB h refs ≤ 4607182418800017408 := by
  obtain ⟨x, hx⟩ : ∃ x : Nat, refs - h = x := ⟨(refs - h).toNat, by omega⟩
  obtain ⟨y, hy⟩ : ∃ y : Nat, refs = y := ⟨refs.toNat, by omega⟩
  obtain ⟨r, e, hr⟩ := part_at (x := x) (y := y) (by omega) (by omega) (by omega)
  have hB : ratioB h refs = (Ieee.double.div (floatOfInt .f64 (refs - h)) (floatOfInt .f64 refs)).getD 0 := by unfold ratioB; rw [if_neg (by omega), if_neg (by omega)]
  rw [hB, hx, hy, show Ieee.double.div (floatOfInt .f64 (x : Int)) (floatOfInt .f64 (y : Int)) = some r from e]
  exact ⟨rfl, hr⟩
theorem ratio_le (h : Int) {refs : Int} (h2 : refs ≤ 9223372036854775807) : ratioB h refs ≤ 4607182418800017408 := by
  by_cases c1 : refs ≤ h
  · unfold ratioB; rw [if_pos c1]; decide
  · by_cases c2 : h ≤ 0
    · unfold ratioB; rw [if_neg c1, if_pos c2]; exact Nat.le_refl _
    · exact (ratio_mid (by omega) (by omega) h2).2
theorem ratio_mono {h h' refs : Int} (hh : h ≤ h') (h2 : refs ≤ 9223372036854775807) : ratioB h' refs ≤ ratioB h refs := by
  by_cases c1 : refs ≤ h'
  · unfold ratioB; rw [if_pos c1]; exact Nat.zero_le _
  · by_cases c2 : h ≤ 0
    · rw [show ratioB h refs = 4607182418800017408 by unfold ratioB; rw [if_neg (by omega), if_pos c2]]
      exact ratio_le h' h2
    · obtain ⟨x, hx⟩ : ∃ x : Nat, refs - h = x := ⟨(refs - h).toNat, by omega⟩
      obtain ⟨x', hx'⟩ : ∃ x : Nat, refs - h' = x := ⟨(refs - h').toNat, by omega⟩
      obtain ⟨y, hy⟩ : ∃ y : Nat, refs = y := ⟨refs.toNat, by omega⟩
      obtain ⟨r, r', e, e', hr⟩ := part_mono (x := x') (x' := x) (y := y) (by omega) (by omega) (by omega) (by omega)
      have e1 := (ratio_mid (h := h) (refs := refs) (by omega) (by omega) h2).1
      have e2 := (ratio_mid (h := h') (refs := refs) (by omega) (by omega) h2).1
      rw [hx, hy] at e1
      rw [hx', hy] at e2
      have e3 : some r' = some (ratioB h (y : Int)) := e'.symm.trans e1
      have e4 : some r = some (ratioB h' (y : Int)) := e.symm.trans e2
      injection e3 with e3
      injection e4 with e4
      rw [hy]; omega

set_option maxHeartbeats 1600000 in
/-- 'Ratio'. -/
theorem refRatio_any (A : Option Addr) (n : Nat) (c : List Int) (z refs : Int) (w : World) (h : Ints w w.heap.size .i64 A c) (hm : c.length ≤ 9223372036854775807) (hr : refs ≤ 9223372036854775807) :
    Calls Try.prog 20 #[.slice A c.length n, .int .i64 z, .int .i64 refs] w fun e w' => e = .returned (.int .u64 (ratioW (atN c z) refs : Nat)) ∧ w = w' := by
  have HA := Lib.hid (refAt_any A n c z w h hm)
  have hcb := callBitsC
  obtain ⟨H, hH⟩ : ∃ H, H = atN c z := ⟨_, rfl⟩
  rw [← hH] at HA ⊢
  obtain ⟨N, hN⟩ : ∃ N, N = c.length := ⟨_, rfl⟩
  rw [← hN] at HA ⊢
  clear hH hN h hm
  by_cases h1 : refs ≤ 0
  · have hv : Hid (ratioW H refs = 9221120237041090561) := by refine Lib.hid ?_; unfold ratioW; rw [if_pos h1]
    have HNN := Lib.hid mathNaNC
    have hb := bits_nanC
    clear hcb
    go_enter Try.func20, Try.ntmps20
    go_wp2_with (first
      | (go_at_call 23; with_reducible (refine Calls.mono HA.out ?_); rintro e w1 ⟨rfl, rfl⟩)
      | (go_at_call 29; with_reducible (refine Calls.mono (HNN.out _) ?_); rintro e w2 ⟨rfl, rfl⟩))
    go_ret
    exact ⟨by rw [hv.out]; rfl, rfl⟩
  · have hv : Hid (ratioW H refs = ratioB H refs) := by refine Lib.hid ?_; unfold ratioW; rw [if_neg h1]
    by_cases h2 : refs ≤ H
    · have hw : Hid (ratioB H refs = 0) := by refine Lib.hid ?_; unfold ratioB; rw [if_pos h2]
      clear hcb
      go_enter Try.func20, Try.ntmps20
      go_wp2_with (go_at_call 23; with_reducible (refine Calls.mono HA.out ?_); rintro e w1 ⟨rfl, rfl⟩)
      go_ret
      exact ⟨by rw [hv.out, hw.out]; rfl, rfl⟩
    · by_cases h3 : H ≤ 0
      · have hw : Hid (ratioB H refs = 4607182418800017408) := by refine Lib.hid ?_; unfold ratioB; rw [if_neg h2, if_pos h3]
        have hb := bits_oneC
        clear hcb
        go_enter Try.func20, Try.ntmps20
        go_wp2_with (go_at_call 23; with_reducible (refine Calls.mono HA.out ?_); rintro e w1 ⟨rfl, rfl⟩)
        go_ret
        exact ⟨by rw [hv.out, hw.out]; rfl, rfl⟩
      · have hd := (ratio_mid (h := H) (refs := refs) (by omega) (by omega) hr).1
        obtain ⟨r, hrr⟩ : ∃ r, r = ratioB H refs := ⟨_, rfl⟩
        rw [← hrr] at hd hv
        obtain ⟨X, hX⟩ : ∃ X, X = floatOfInt .f64 (refs - H) := ⟨_, rfl⟩
        obtain ⟨Y, hY⟩ : ∃ X, X = floatOfInt .f64 refs := ⟨_, rfl⟩
        rw [← hX, ← hY] at hd
        have hfd := fun W : World => run_float_arith (P := Try.prog) W .quo 35 .f64 X Y r hd
        have hb := hcb r
        have eX := hX.symm
        have eY := hY.symm
        clear hcb hrr hX hY hd
        go_enter Try.func20, Try.ntmps20
        go_wp2_with (go_at_call 23; with_reducible (refine Calls.mono HA.out ?_); rintro e w1 ⟨rfl, rfl⟩)
        go_ret
        exact ⟨by rw [hv.out]; rfl, rfl⟩

end Go.Proofs.Ytoedapeookkodaa
