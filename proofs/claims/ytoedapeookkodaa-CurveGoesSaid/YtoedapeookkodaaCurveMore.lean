/-
  The document's own: which of two products is more (stowageref11).
-/
import Derived.Test.YtoedapeookkodaaCurveRef
namespace Go.Proofs.Ytoedapeookkodaa
open Go.RowKit

set_option maxHeartbeats 1600000 in
set_option maxRecDepth 20000 in
/-- 'more'. -/
theorem refMoreC_any (x p y q : Int) (w : World) (hx : 0 ≤ x ∧ x ≤ 4503599627370496) (hy : 0 ≤ y ∧ y ≤ 4503599627370496) (hp : 0 ≤ p ∧ p ≤ 4096) (hq : 0 ≤ q ∧ q ≤ 4096) :
    Calls Try.prog 28 #[.int .i64 x, .int .i64 p, .int .i64 y, .int .i64 q] w fun e w' => e = .returned (.bool (decide (y * q < x * p))) ∧ w = w' := by
  have HP := Lib.hid (more_parts x p y q)
  have t1 : x.tdiv 65536 = x / 65536 := Int.tdiv_eq_ediv_of_nonneg hx.1
  have t2 : x.tmod 65536 = x % 65536 := Int.tmod_eq_emod_of_nonneg hx.1
  have t3 : y.tdiv 65536 = y / 65536 := Int.tdiv_eq_ediv_of_nonneg hy.1
  have t4 : y.tmod 65536 = y % 65536 := Int.tmod_eq_emod_of_nonneg hy.1
  have b1 := mul_bounds (x := x / 65536) (X := 68719476736) (by omega) (by omega) hp.1 hp.2
  have b2 := mul_bounds (x := x % 65536) (X := 65536) (by omega) (by omega) hp.1 hp.2
  have b3 := mul_bounds (x := y / 65536) (X := 68719476736) (by omega) (by omega) hq.1 hq.2
  have b4 := mul_bounds (x := y % 65536) (X := 65536) (by omega) (by omega) hq.1 hq.2
  obtain ⟨P1, h1⟩ : ∃ P, P = x / 65536 * p := ⟨_, rfl⟩
  obtain ⟨P2, h2⟩ : ∃ P, P = x % 65536 * p := ⟨_, rfl⟩
  obtain ⟨P3, h3⟩ : ∃ P, P = y / 65536 * q := ⟨_, rfl⟩
  obtain ⟨P4, h4⟩ : ∃ P, P = y % 65536 * q := ⟨_, rfl⟩
  rw [← h1, ← h2, ← h3, ← h4] at HP
  rw [← h1] at b1
  rw [← h2] at b2
  rw [← h3] at b3
  rw [← h4] at b4
  have t5 : P2.tdiv 65536 = P2 / 65536 := Int.tdiv_eq_ediv_of_nonneg b2.1
  have t6 : P2.tmod 65536 = P2 % 65536 := Int.tmod_eq_emod_of_nonneg b2.1
  have t7 : P4.tdiv 65536 = P4 / 65536 := Int.tdiv_eq_ediv_of_nonneg b4.1
  have t8 : P4.tmod 65536 = P4 % 65536 := Int.tmod_eq_emod_of_nonneg b4.1
  have e1 := h1.symm
  have e2 := h2.symm
  have e3 := h3.symm
  have e4 := h4.symm
  clear h1 h2 h3 h4
  go_enter Try.func28, Try.ntmps28
  go_wp2
  all_goals go_ret
  all_goals refine ⟨ret_bool ?_, rfl⟩
  all_goals first | exact (decide_eq_true (HP.out.1 (by omega))).symm | exact decide_eq_decide.2 ((by omega : _ ↔ _).trans HP.out)

end Go.Proofs.Ytoedapeookkodaa
