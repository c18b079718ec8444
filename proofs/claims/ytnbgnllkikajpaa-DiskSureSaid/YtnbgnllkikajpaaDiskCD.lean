/-
  The landed disk: Read, Lasting.
-/
import Derived.Test.YtnbgnllkikajpaaDiskCC
import Derived.OwnWalk
namespace Go.Proofs.Ytnbgnllkikajpaa
open Go.RowKit

section
variable {w : World} {p gl gn : Nat} {V : Value} {z : Int} {DL : DataW Value} {DN : DataW Unit} {s : Dk}

set_option maxHeartbeats 800000 in
theorem read_go (h : DiskIn w p gl gn V z DL DN s) (i : Nat) (hE : readE s (i : Int) = 0) : Calls Try.prog 14 #[.pointer (some ⟨p, 0, none⟩), .int .i64 (i : Int)] w fun e w' => ∃ A c, e = .returned (.tuple #[.slice A 64 c, .int .i64 0]) ∧ 64 ≤ c ∧ Got w w' A (nowD s i) ∧ Below w.heap.size w w' := by
  have hmf : ∀ (fn : Fn) (first cap : Array Value) (w : World), (Instr.makeFunc fn first cap).run Try.prog w = .ok (.func fn first cap) w := fun _ _ _ _ => rfl
  have HAT := Lib.hid (attempt_got 29 (i : Int) (nowD s i) w (fun args w => by kernel_rfl) (fun W hW => by
    obtain ⟨q1, q2, q3, q4⟩ := box_cells h hW
    exact read1_ok q1 w.heap.size (w.heap.size + 1) (w.heap.size + 1 + 1) i q2 q3 q4 hE))
  obtain ⟨t, ht⟩ : ∃ t, t = nowD s i := ⟨_, rfl⟩
  rw [← ht] at HAT ⊢
  clear h hE ht
  go_enter Try.func14, Try.ntmps14
  go_wp2_with (go_at_call 23; with_reducible (refine Calls.mono HAT.out ?_); rintro e w2 ⟨rfl, hg⟩
               obtain ⟨g, y0, hR⟩ := hg.got
               have y1 : w2.cell? ⟨w.heap.size + 1 + 1, 0, none⟩ = some (.slice (some ⟨g, 0, none⟩) 64 64) := cell_of_row _ _ _ _ _ _ y0
               have y2 : w2.frozen? ⟨w.heap.size + 1 + 1, 0, none⟩ = false := frozen_of_row _ _ _ _ _ y0)
  have y3 : (w2.setCell ⟨w.heap.size + 1 + 1, 0, none⟩ (.slice (some ⟨g, 0, none⟩) 64 64)).cell? ⟨w.heap.size + 1 + 1, 0, none⟩ = some (.slice (some ⟨g, 0, none⟩) 64 64) := cell_of_row _ _ _ _ _ _ (setc_same _ _ _ _ _ _ y0)
  refine bodyPost_ret (v := .tuple #[.slice (some ⟨g, 0, none⟩) 64 64, .int .i64 0]) (by simp [results, Try.results14, go_sem, y3]) rfl ?_
  exact ⟨_, _, rfl, Nat.le_refl _, hR.out _⟩

set_option maxHeartbeats 800000 in
theorem read_not (h : DiskIn w p gl gn V z DL DN s) (n : Int) (hE : readE s n ≠ 0) : Calls Try.prog 14 #[.pointer (some ⟨p, 0, none⟩), .int .i64 n] w fun e w' => ∃ A c, e = .returned (.tuple #[.slice A 0 c, .int .i64 (readE s n)]) ∧ Below w.heap.size w w' := by
  have hmf : ∀ (fn : Fn) (first cap : Array Value) (w : World), (Instr.makeFunc fn first cap).run Try.prog w = .ok (.func fn first cap) w := fun _ _ _ _ => rfl
  have HAT := Lib.hid (attempt_not 29 n (readE s n) w (fun args w => by kernel_rfl) (fun W hW => by
    obtain ⟨q1, q2, q3, q4⟩ := box_cells h hW
    exact read1_no q1 w.heap.size (w.heap.size + 1) (w.heap.size + 1 + 1) n q2 q3 hE))
  obtain ⟨E, hE2⟩ : ∃ E, E = readE s n := ⟨_, rfl⟩
  rw [← hE2] at HAT ⊢
  clear h hE hE2
  go_enter Try.func14, Try.ntmps14
  go_wp2_with (go_at_call 23; with_reducible (refine Calls.mono HAT.out ?_); rintro e w2 ⟨rfl, y0, hb⟩
               have hR : Hid (∀ v, Below w.heap.size w (w2.setCell ⟨w.heap.size + 1 + 1, 0, none⟩ v)) := fun v => hb.setCell (p := ⟨w.heap.size + 1 + 1, 0, none⟩) (by show w.heap.size ≤ w.heap.size + 1 + 1; omega) v
               have y1 : w2.cell? ⟨w.heap.size + 1 + 1, 0, none⟩ = some (.slice none 0 0) := cell_of_row _ _ _ _ _ _ y0
               have y2 : w2.frozen? ⟨w.heap.size + 1 + 1, 0, none⟩ = false := frozen_of_row _ _ _ _ _ y0)
  have y3 : (w2.setCell ⟨w.heap.size + 1 + 1, 0, none⟩ (.slice none 0 0)).cell? ⟨w.heap.size + 1 + 1, 0, none⟩ = some (.slice none 0 0) := cell_of_row _ _ _ _ _ _ (setc_same _ _ _ _ _ _ y0)
  refine bodyPost_ret (v := .tuple #[.slice none 0 0, .int .i64 E]) (by simp [results, Try.results14, go_sem, y3]) rfl ?_
  exact ⟨_, _, rfl, hR.out _⟩

set_option maxHeartbeats 800000 in
theorem read_nil (n : Int) (w : World) : Calls Try.prog 14 #[.pointer none, .int .i64 n] w fun e w' => ∃ A c, e = .returned (.tuple #[.slice A 0 c, .int .i64 11]) ∧ Below w.heap.size w w' := by
  have hmf : ∀ (fn : Fn) (first cap : Array Value) (w : World), (Instr.makeFunc fn first cap).run Try.prog w = .ok (.func fn first cap) w := fun _ _ _ _ => rfl
  have hb := Lib.hid (boxes3 w (.cells #[.pointer none] 23) (.cells #[.int .i64 n] 3) (.cells #[.slice none 0 0] 30))
  have hsz : Hid (w.heap.size + 1 + 1 < (((w.alloc (.cells #[.pointer none] 23)).alloc (.cells #[.int .i64 n] 3)).alloc (.cells #[.slice none 0 0] 30)).heap.size) := by unfold Hid; rw [hb.out.2.1]; omega
  go_enter Try.func14, Try.ntmps14
  go_wp2_with (go_at_call 23; with_reducible (refine Calls.mono (attempt_nil _ _) ?_); rintro e w2 ⟨rfl, hb2⟩
               have y0 : w2.heap[w.heap.size + 1 + 1]? = some (.cells #[.slice none 0 0] 30 (0, 0)) := (hb2.block _ hsz.out).trans hb.out.2.2.2.2
               have hR : Hid (∀ v, Below w.heap.size w (w2.setCell ⟨w.heap.size + 1 + 1, 0, none⟩ v)) := fun v => (hb.out.1.trans (hb2.mono (by have := hsz.out; omega))).setCell (p := ⟨w.heap.size + 1 + 1, 0, none⟩) (by show w.heap.size ≤ w.heap.size + 1 + 1; omega) v
               have y1 : w2.cell? ⟨w.heap.size + 1 + 1, 0, none⟩ = some (.slice none 0 0) := cell_of_row _ _ _ _ _ _ y0
               have y2 : w2.frozen? ⟨w.heap.size + 1 + 1, 0, none⟩ = false := frozen_of_row _ _ _ _ _ y0)
  have y3 : (w2.setCell ⟨w.heap.size + 1 + 1, 0, none⟩ (.slice none 0 0)).cell? ⟨w.heap.size + 1 + 1, 0, none⟩ = some (.slice none 0 0) := cell_of_row _ _ _ _ _ _ (setc_same _ _ _ _ _ _ y0)
  refine bodyPost_ret (v := .tuple #[.slice none 0 0, .int .i64 11]) (by simp [results, Try.results14, go_sem, y3]) rfl ?_
  exact ⟨_, _, rfl, hR.out _⟩

set_option maxHeartbeats 800000 in
theorem lasting_go (h : DiskIn w p gl gn V z DL DN s) (i : Nat) (hE : lastE s (i : Int) = 0) : Calls Try.prog 21 #[.pointer (some ⟨p, 0, none⟩), .int .i64 (i : Int)] w fun e w' => ∃ A c, e = .returned (.tuple #[.slice A 64 c, .int .i64 0]) ∧ 64 ≤ c ∧ Got w w' A (s.last.getD i []) ∧ Below w.heap.size w w' := by
  have hmf : ∀ (fn : Fn) (first cap : Array Value) (w : World), (Instr.makeFunc fn first cap).run Try.prog w = .ok (.func fn first cap) w := fun _ _ _ _ => rfl
  have HAT := Lib.hid (attempt_got 37 (i : Int) (s.last.getD i []) w (fun args w => by kernel_rfl) (fun W hW => by
    obtain ⟨q1, q2, q3, q4⟩ := box_cells h hW
    exact last1_ok q1 w.heap.size (w.heap.size + 1) (w.heap.size + 1 + 1) i q2 q3 q4 hE ⟨by omega, by omega, fun e => by have := h.lt p own_p; omega⟩))
  obtain ⟨t, ht⟩ : ∃ t, t = s.last.getD i [] := ⟨_, rfl⟩
  rw [← ht] at HAT ⊢
  clear h hE ht
  go_enter Try.func21, Try.ntmps21
  go_wp2_with (go_at_call 23; with_reducible (refine Calls.mono HAT.out ?_); rintro e w2 ⟨rfl, hg⟩
               obtain ⟨g, y0, hR⟩ := hg.got
               have y1 : w2.cell? ⟨w.heap.size + 1 + 1, 0, none⟩ = some (.slice (some ⟨g, 0, none⟩) 64 64) := cell_of_row _ _ _ _ _ _ y0
               have y2 : w2.frozen? ⟨w.heap.size + 1 + 1, 0, none⟩ = false := frozen_of_row _ _ _ _ _ y0)
  have y3 : (w2.setCell ⟨w.heap.size + 1 + 1, 0, none⟩ (.slice (some ⟨g, 0, none⟩) 64 64)).cell? ⟨w.heap.size + 1 + 1, 0, none⟩ = some (.slice (some ⟨g, 0, none⟩) 64 64) := cell_of_row _ _ _ _ _ _ (setc_same _ _ _ _ _ _ y0)
  refine bodyPost_ret (v := .tuple #[.slice (some ⟨g, 0, none⟩) 64 64, .int .i64 0]) (by simp [results, Try.results21, go_sem, y3]) rfl ?_
  exact ⟨_, _, rfl, Nat.le_refl _, hR.out _⟩

set_option maxHeartbeats 800000 in
theorem lasting_not (h : DiskIn w p gl gn V z DL DN s) (n : Int) (hE : lastE s n ≠ 0) : Calls Try.prog 21 #[.pointer (some ⟨p, 0, none⟩), .int .i64 n] w fun e w' => ∃ A c, e = .returned (.tuple #[.slice A 0 c, .int .i64 (lastE s n)]) ∧ Below w.heap.size w w' := by
  have hmf : ∀ (fn : Fn) (first cap : Array Value) (w : World), (Instr.makeFunc fn first cap).run Try.prog w = .ok (.func fn first cap) w := fun _ _ _ _ => rfl
  have HAT := Lib.hid (attempt_not 37 n (lastE s n) w (fun args w => by kernel_rfl) (fun W hW => by
    obtain ⟨q1, q2, q3, q4⟩ := box_cells h hW
    exact last1_no q1 w.heap.size (w.heap.size + 1) (w.heap.size + 1 + 1) n q2 q3 hE))
  obtain ⟨E, hE2⟩ : ∃ E, E = lastE s n := ⟨_, rfl⟩
  rw [← hE2] at HAT ⊢
  clear h hE hE2
  go_enter Try.func21, Try.ntmps21
  go_wp2_with (go_at_call 23; with_reducible (refine Calls.mono HAT.out ?_); rintro e w2 ⟨rfl, y0, hb⟩
               have hR : Hid (∀ v, Below w.heap.size w (w2.setCell ⟨w.heap.size + 1 + 1, 0, none⟩ v)) := fun v => hb.setCell (p := ⟨w.heap.size + 1 + 1, 0, none⟩) (by show w.heap.size ≤ w.heap.size + 1 + 1; omega) v
               have y1 : w2.cell? ⟨w.heap.size + 1 + 1, 0, none⟩ = some (.slice none 0 0) := cell_of_row _ _ _ _ _ _ y0
               have y2 : w2.frozen? ⟨w.heap.size + 1 + 1, 0, none⟩ = false := frozen_of_row _ _ _ _ _ y0)
  have y3 : (w2.setCell ⟨w.heap.size + 1 + 1, 0, none⟩ (.slice none 0 0)).cell? ⟨w.heap.size + 1 + 1, 0, none⟩ = some (.slice none 0 0) := cell_of_row _ _ _ _ _ _ (setc_same _ _ _ _ _ _ y0)
  refine bodyPost_ret (v := .tuple #[.slice none 0 0, .int .i64 E]) (by simp [results, Try.results21, go_sem, y3]) rfl ?_
  exact ⟨_, _, rfl, hR.out _⟩

set_option maxHeartbeats 800000 in
theorem lasting_nil (n : Int) (w : World) : Calls Try.prog 21 #[.pointer none, .int .i64 n] w fun e w' => ∃ A c, e = .returned (.tuple #[.slice A 0 c, .int .i64 11]) ∧ Below w.heap.size w w' := by
  have hmf : ∀ (fn : Fn) (first cap : Array Value) (w : World), (Instr.makeFunc fn first cap).run Try.prog w = .ok (.func fn first cap) w := fun _ _ _ _ => rfl
  have hb := Lib.hid (boxes3 w (.cells #[.pointer none] 23) (.cells #[.int .i64 n] 3) (.cells #[.slice none 0 0] 30))
  have hsz : Hid (w.heap.size + 1 + 1 < (((w.alloc (.cells #[.pointer none] 23)).alloc (.cells #[.int .i64 n] 3)).alloc (.cells #[.slice none 0 0] 30)).heap.size) := by unfold Hid; rw [hb.out.2.1]; omega
  go_enter Try.func21, Try.ntmps21
  go_wp2_with (go_at_call 23; with_reducible (refine Calls.mono (attempt_nil _ _) ?_); rintro e w2 ⟨rfl, hb2⟩
               have y0 : w2.heap[w.heap.size + 1 + 1]? = some (.cells #[.slice none 0 0] 30 (0, 0)) := (hb2.block _ hsz.out).trans hb.out.2.2.2.2
               have hR : Hid (∀ v, Below w.heap.size w (w2.setCell ⟨w.heap.size + 1 + 1, 0, none⟩ v)) := fun v => (hb.out.1.trans (hb2.mono (by have := hsz.out; omega))).setCell (p := ⟨w.heap.size + 1 + 1, 0, none⟩) (by show w.heap.size ≤ w.heap.size + 1 + 1; omega) v
               have y1 : w2.cell? ⟨w.heap.size + 1 + 1, 0, none⟩ = some (.slice none 0 0) := cell_of_row _ _ _ _ _ _ y0
               have y2 : w2.frozen? ⟨w.heap.size + 1 + 1, 0, none⟩ = false := frozen_of_row _ _ _ _ _ y0)
  have y3 : (w2.setCell ⟨w.heap.size + 1 + 1, 0, none⟩ (.slice none 0 0)).cell? ⟨w.heap.size + 1 + 1, 0, none⟩ = some (.slice none 0 0) := cell_of_row _ _ _ _ _ _ (setc_same _ _ _ _ _ _ y0)
  refine bodyPost_ret (v := .tuple #[.slice none 0 0, .int .i64 11]) (by simp [results, Try.results21, go_sem, y3]) rfl ?_
  exact ⟨_, _, rfl, hR.out _⟩
end

end Go.Proofs.Ytnbgnllkikajpaa
