/-
  The landed table: has, formOf, tenantRec, volumeRec, baseRec.
-/
import Derived.Test.YtbmgiekiildaaaaTableEq
import Derived.Test.YtbmgiekiildaaaaArrs
namespace Go.Proofs.Ytbmgiekiildaaaa
open Go.RowKit

set_option maxHeartbeats 800000 in
/-- 'has'. -/
theorem has_any (a b n : Int) (w : World) : Calls Try.prog 42 #[.agg #[.int .i64 a, .int .i64 b], .int .i64 n] w fun e w' => e = .returned (.bool (decide (inR n a b))) ∧ Below w.heap.size w w' := by
  have hb : Below w.heap.size w (w.alloc (.cells #[.int .i64 a, .int .i64 b] 79)) := (Below.refl _ _).alloc (Nat.le_refl _) _
  by_cases h0 : a ≤ n
  · by_cases h1 : n ≤ b
    · rw [decide_eq_true (show inR n a b from ⟨h0, h1⟩)]
      have d0 : decide (a ≤ n) = true := decide_eq_true h0
      have d1 : decide (n ≤ b) = true := decide_eq_true h1
      go_enter Try.func42, Try.ntmps42
      go_wp2
      go_ret
      exact ⟨rfl, hb⟩
    · rw [decide_eq_false (show ¬ inR n a b from fun h => by unfold inR at h; omega)]
      have d0 : decide (a ≤ n) = true := decide_eq_true h0
      have d1 : decide (n ≤ b) = false := decide_eq_false h1
      go_enter Try.func42, Try.ntmps42
      go_wp2
      go_ret
      exact ⟨rfl, hb⟩
  · rw [decide_eq_false (show ¬ inR n a b from fun h => by unfold inR at h; omega)]
    have d0 : decide (a ≤ n) = false := decide_eq_false h0
    go_enter Try.func42, Try.ntmps42
    go_wp2
    go_ret
    exact ⟨rfl, hb⟩

theorem tower5 (w : World) (o a b c d : Obj) : (((((w.alloc o).alloc a).alloc b).alloc c).alloc d).heap[w.heap.size]? = some o ∧ Below w.heap.size w (((((w.alloc o).alloc a).alloc b).alloc c).alloc d) := by
  refine ⟨?_, (((((Below.refl _ _).alloc (Nat.le_refl _) _).alloc (by simp) _).alloc (by simp; omega) _).alloc (by simp; omega) _).alloc (by simp; omega) _⟩
  rw [Below.heap_alloc _ _ _ (by simp; omega), Below.heap_alloc _ _ _ (by simp; omega), Below.heap_alloc _ _ _ (by simp; omega), Below.heap_alloc _ _ _ (by simp)]
  exact heap_alloc_new _ _
/-- A change's form: from where to where its numbers may be, and how many bytes its key has. -/
def frmV (k : Int) : Array Value :=
  if k = 1 then #[.int .i64 1, .int .i64 7, .int .i64 1, .int .i64 64, .int .i64 0, .int .i64 4294967296, .int .i64 1, .int .i64 64, .int .i64 16]
  else if k = 2 then #[.int .i64 1, .int .i64 7, .int .i64 1, .int .i64 64, .int .i64 0, .int .i64 0, .int .i64 0, .int .i64 0, .int .i64 0]
  else if k = 3 ∨ k = 4 then #[.int .i64 1, .int .i64 7, .int .i64 0, .int .i64 0, .int .i64 0, .int .i64 0, .int .i64 0, .int .i64 0, .int .i64 0]
  else if k = 5 then #[.int .i64 0, .int .i64 7, .int .i64 1, .int .i64 7, .int .i64 0, .int .i64 32, .int .i64 0, .int .i64 0, .int .i64 0]
  else if k = 6 then #[.int .i64 0, .int .i64 7, .int .i64 0, .int .i64 32, .int .i64 0, .int .i64 0, .int .i64 0, .int .i64 0, .int .i64 0]
  else if k = 7 then #[.int .i64 0, .int .i64 7, .int .i64 0, .int .i64 0, .int .i64 0, .int .i64 0, .int .i64 0, .int .i64 0, .int .i64 0]
  else if k = 8 then #[.int .i64 0, .int .i64 7, .int .i64 0, .int .i64 1099511627776, .int .i64 0, .int .i64 0, .int .i64 0, .int .i64 0, .int .i64 0]
  else if k = 9 then #[.int .i64 0, .int .i64 63, .int .i64 0, .int .i64 7, .int .i64 0, .int .i64 0, .int .i64 0, .int .i64 0, .int .i64 0]
  else #[.int .i64 0, .int .i64 0, .int .i64 0, .int .i64 0, .int .i64 0, .int .i64 0, .int .i64 0, .int .i64 0, .int .i64 0]
set_option maxHeartbeats 1600000 in
/-- 'formOf'. -/
theorem formOf_any (k : Int) (w : World) (hk : 0 ≤ k ∧ k ≤ 9) : Calls Try.prog 57 #[.int .i64 k] w fun e w' => e = .returned (.agg (frmV k)) ∧ Below w.heap.size w w' := by
  rcases (show k = 0 ∨ k = 1 ∨ k = 2 ∨ k = 3 ∨ k = 4 ∨ k = 5 ∨ k = 6 ∨ k = 7 ∨ k = 8 ∨ k = 9 by omega) with rfl | rfl | rfl | rfl | rfl | rfl | rfl | rfl | rfl | rfl
  all_goals
    clear hk
    go_enter Try.func57, Try.ntmps57
    go_wp2
    refine bodyPost_ret (results_cell_row rfl _ _ w.heap.size 94 _ (0, 0) _ rfl (tower5 w _ _ _ _ _).1 Try.underlying94 rfl (by kernel_rfl)) rfl ⟨rfl, (tower5 w _ _ _ _ _).2⟩

set_option maxHeartbeats 1600000 in
/-- 'tenantRec'. -/
theorem tenRec_any (x : Ten) (w : World) : Calls Try.prog 48 #[.agg (tenV x)] w fun e w' => e = .returned (.agg (rcV ⟨1, x.id, x.quota, x.rate, x.burst, x.key⟩)) ∧ Below w.heap.size w w' := by
  have h2 := fun o a : Obj => (heap_alloc_new (w.alloc o) a)
  obtain ⟨p0, p1, p2, p3, p4, p5⟩ := x
  simp only [tenV, rcV]
  go_enter Try.func48, Try.ntmps48
  go_wp2
  refine bodyPost_ret (results_cell_row rfl _ _ (w.heap.size + 1) 86 _ (0, 0) _ rfl (by have := h2 (.cells #[.int .i64 p0, .int .i64 p1, .int .i64 p2, .int .i64 p3, .string p4, .bool p5] 83) (.cells #[.int .i64 1, .int .i64 p0, .int .i64 p1, .int .i64 p2, .int .i64 p3, .string p4] 86); rwa [show (w.alloc (.cells #[.int .i64 p0, .int .i64 p1, .int .i64 p2, .int .i64 p3, .string p4, .bool p5] 83)).heap.size = w.heap.size + 1 by simp] at this) Try.underlying86 rfl (by kernel_rfl)) rfl ⟨rfl, ((Below.refl _ _).alloc (Nat.le_refl _) _).alloc (by simp) _⟩
set_option maxHeartbeats 1600000 in
/-- 'volumeRec'. -/
theorem volRec_any (x : Vol) (w : World) : Calls Try.prog 49 #[.agg (volV x)] w fun e w' => e = .returned (.agg (rcV ⟨5, x.id, x.ten, x.blocks, 0, ⟨#[]⟩⟩)) ∧ Below w.heap.size w w' := by
  have h2 := fun o a : Obj => (heap_alloc_new (w.alloc o) a)
  obtain ⟨p0, p1, p2, p3⟩ := x
  simp only [volV, rcV]
  go_enter Try.func49, Try.ntmps49
  go_wp2
  refine bodyPost_ret (results_cell_row rfl _ _ (w.heap.size + 1) 86 _ (0, 0) _ rfl (by have := h2 (.cells #[.int .i64 p0, .int .i64 p1, .int .i64 p2, .int .i64 p3] 46) (.cells #[.int .i64 5, .int .i64 p0, .int .i64 p1, .int .i64 p2, .int .i64 0, .string ⟨#[]⟩] 86); rwa [show (w.alloc (.cells #[.int .i64 p0, .int .i64 p1, .int .i64 p2, .int .i64 p3] 46)).heap.size = w.heap.size + 1 by simp] at this) Try.underlying86 rfl (by kernel_rfl)) rfl ⟨rfl, ((Below.refl _ _).alloc (Nat.le_refl _) _).alloc (by simp) _⟩
set_option maxHeartbeats 1600000 in
/-- 'baseRec'. -/
theorem baseRec_any (x : Vol) (w : World) : Calls Try.prog 50 #[.agg (volV x)] w fun e w' => e = .returned (.agg (rcV ⟨8, x.id, x.base, 0, 0, ⟨#[]⟩⟩)) ∧ Below w.heap.size w w' := by
  have h2 := fun o a : Obj => (heap_alloc_new (w.alloc o) a)
  obtain ⟨p0, p1, p2, p3⟩ := x
  simp only [volV, rcV]
  go_enter Try.func50, Try.ntmps50
  go_wp2
  refine bodyPost_ret (results_cell_row rfl _ _ (w.heap.size + 1) 86 _ (0, 0) _ rfl (by have := h2 (.cells #[.int .i64 p0, .int .i64 p1, .int .i64 p2, .int .i64 p3] 46) (.cells #[.int .i64 8, .int .i64 p0, .int .i64 p3, .int .i64 0, .int .i64 0, .string ⟨#[]⟩] 86); rwa [show (w.alloc (.cells #[.int .i64 p0, .int .i64 p1, .int .i64 p2, .int .i64 p3] 46)).heap.size = w.heap.size + 1 by simp] at this) Try.underlying86 rfl (by kernel_rfl)) rfl ⟨rfl, ((Below.refl _ _).alloc (Nat.le_refl _) _).alloc (by simp) _⟩

theorem cells9 {X : World} {g : Nat} {T : TypeId} {v0 v1 v2 v3 v4 v5 v6 v7 v8 : Value} (h : X.heap[g]? = some (.cells #[v0, v1, v2, v3, v4, v5, v6, v7, v8] T (0, 0))) :
    X.cell? ⟨g, 0, none⟩ = some v0 ∧ X.cell? ⟨g, 1, none⟩ = some v1 ∧ X.cell? ⟨g, 2, none⟩ = some v2 ∧ X.cell? ⟨g, 3, none⟩ = some v3 ∧ X.cell? ⟨g, 4, none⟩ = some v4 ∧ X.cell? ⟨g, 5, none⟩ = some v5 ∧ X.cell? ⟨g, 6, none⟩ = some v6 ∧ X.cell? ⟨g, 7, none⟩ = some v7 ∧ X.cell? ⟨g, 8, none⟩ = some v8 :=
  ⟨by rw [cell_of_row _ _ _ _ _ _ h]; rfl, by rw [cell_of_row _ _ _ _ _ _ h]; rfl, by rw [cell_of_row _ _ _ _ _ _ h]; rfl, by rw [cell_of_row _ _ _ _ _ _ h]; rfl, by rw [cell_of_row _ _ _ _ _ _ h]; rfl, by rw [cell_of_row _ _ _ _ _ _ h]; rfl, by rw [cell_of_row _ _ _ _ _ _ h]; rfl, by rw [cell_of_row _ _ _ _ _ _ h]; rfl, by rw [cell_of_row _ _ _ _ _ _ h]; rfl⟩
theorem cells6 {X : World} {g : Nat} {T : TypeId} {v0 v1 v2 v3 v4 v5 : Value} (h : X.heap[g]? = some (.cells #[v0, v1, v2, v3, v4, v5] T (0, 0))) :
    X.cell? ⟨g, 0, none⟩ = some v0 ∧ X.cell? ⟨g, 1, none⟩ = some v1 ∧ X.cell? ⟨g, 2, none⟩ = some v2 ∧ X.cell? ⟨g, 3, none⟩ = some v3 ∧ X.cell? ⟨g, 4, none⟩ = some v4 ∧ X.cell? ⟨g, 5, none⟩ = some v5 :=
  ⟨by rw [cell_of_row _ _ _ _ _ _ h]; rfl, by rw [cell_of_row _ _ _ _ _ _ h]; rfl, by rw [cell_of_row _ _ _ _ _ _ h]; rfl, by rw [cell_of_row _ _ _ _ _ _ h]; rfl, by rw [cell_of_row _ _ _ _ _ _ h]; rfl, by rw [cell_of_row _ _ _ _ _ _ h]; rfl⟩
theorem cells4 {X : World} {g : Nat} {T : TypeId} {v0 v1 v2 v3 : Value} (h : X.heap[g]? = some (.cells #[v0, v1, v2, v3] T (0, 0))) :
    X.cell? ⟨g, 0, none⟩ = some v0 ∧ X.cell? ⟨g, 1, none⟩ = some v1 ∧ X.cell? ⟨g, 2, none⟩ = some v2 ∧ X.cell? ⟨g, 3, none⟩ = some v3 :=
  ⟨by rw [cell_of_row _ _ _ _ _ _ h]; rfl, by rw [cell_of_row _ _ _ _ _ _ h]; rfl, by rw [cell_of_row _ _ _ _ _ _ h]; rfl, by rw [cell_of_row _ _ _ _ _ _ h]; rfl⟩
theorem cells3 {X : World} {g : Nat} {T : TypeId} {v0 v1 v2 : Value} (h : X.heap[g]? = some (.cells #[v0, v1, v2] T (0, 0))) :
    X.cell? ⟨g, 0, none⟩ = some v0 ∧ X.cell? ⟨g, 1, none⟩ = some v1 ∧ X.cell? ⟨g, 2, none⟩ = some v2 :=
  ⟨by rw [cell_of_row _ _ _ _ _ _ h]; rfl, by rw [cell_of_row _ _ _ _ _ _ h]; rfl, by rw [cell_of_row _ _ _ _ _ _ h]; rfl⟩

end Go.Proofs.Ytbmgiekiildaaaa
