/-
  The landed header: within, check, sizes; what a head's box holds.
-/
import Derived.Test.YtbmgiekiildaaaaHdNums
import Derived.Test.YtbmgiekiildaaaaTableC1
import Derived.Test.YtbmgiekiildaaaaIntRow
import Derived.Deep.TreeCalls
import Derived.Deep.RegionHeld3
import Derived.BigQuiet
namespace Go.Proofs.Ytbmgiekiildaaaa
open Go.RowKit

theorem hd_box (w : World) (h : Rc) (T : TypeId) : ((w.alloc (.cells (rcV h) T)).cell? ⟨w.heap.size, 0, none⟩ = some (.int .i64 h.k) ∧ (w.alloc (.cells (rcV h) T)).cell? ⟨w.heap.size, 1, none⟩ = some (.int .i64 h.a) ∧ (w.alloc (.cells (rcV h) T)).cell? ⟨w.heap.size, 2, none⟩ = some (.int .i64 h.b) ∧
    (w.alloc (.cells (rcV h) T)).cell? ⟨w.heap.size, 3, none⟩ = some (.int .i64 h.c) ∧ (w.alloc (.cells (rcV h) T)).cell? ⟨w.heap.size, 4, none⟩ = some (.int .i64 h.d) ∧ (w.alloc (.cells (rcV h) T)).cell? ⟨w.heap.size, 5, none⟩ = some (.string h.key)) ∧ Below w.heap.size w (w.alloc (.cells (rcV h) T)) :=
  ⟨cells6 (heap_alloc_new w (.cells (rcV h) T)), (Below.refl _ _).alloc (Nat.le_refl _) _⟩
theorem Try.infoHead : (Try.prog.info? 23).map (·.size) = some 6 := by kernel_rfl

/-- 'within'. -/
theorem hwithin_any (x n y : Int) (w : World) : Calls Try.prog 30 #[.int .i64 x, .int .i64 n, .int .i64 y] w fun e w' => e = .returned (.bool (decide (x ≤ n ∧ n ≤ y))) ∧ w' = w := by
  by_cases h0 : x ≤ n
  · by_cases h1 : n ≤ y
    · rw [decide_eq_true ⟨h0, h1⟩]
      have d0 : decide (x ≤ n) = true := decide_eq_true h0
      have d1 : decide (n ≤ y) = true := decide_eq_true h1
      go_enter Try.func30, Try.ntmps30
      go_wp2
      go_ret
      exact ⟨rfl, rfl⟩
    · rw [decide_eq_false (fun h => h1 h.2)]
      have d0 : decide (x ≤ n) = true := decide_eq_true h0
      have d1 : decide (n ≤ y) = false := decide_eq_false h1
      go_enter Try.func30, Try.ntmps30
      go_wp2
      go_ret
      exact ⟨rfl, rfl⟩
  · rw [decide_eq_false (fun h => h0 h.1)]
    have d0 : decide (x ≤ n) = false := decide_eq_false h0
    go_enter Try.func30, Try.ntmps30
    go_wp2
    go_ret
    exact ⟨rfl, rfl⟩

def hSz : List Int := [2, 1, 1, 1, 1, 8]
/-- 'sizes'. -/
theorem hsizes_any (w : World) : Calls Try.prog 20 #[] w fun e w' => e = .returned (.slice (some ⟨w.heap.size, 0, none⟩) 6 6) ∧ w' = w.alloc (.cells (ICs hSz) 3) := by
  go_enter Try.func20, Try.ntmps20
  go_wp2
  go_ret
  exact ⟨rfl, rfl⟩

theorem hErr_if (k a b c d : Int) (key : ByteArray) : hErr ⟨k, a, b, c, d, key⟩ = if (decide (1 ≤ k ∧ k ≤ 7) && (decide (0 ≤ a ∧ a ≤ 7) && (decide (0 ≤ b ∧ b ≤ 31) && (decide (0 ≤ c ∧ c ≤ 63) && decide (1 ≤ d ∧ d ≤ 1099511627776))))) = true then (if key.size = 16 then 0 else 1) else 7 := by
  unfold hErr hRng
  simp only [Bool.and_eq_true, decide_eq_true_eq]

set_option maxHeartbeats 1600000 in
set_option maxRecDepth 20000 in
/-- 'check'. -/
theorem hcheck_any (h : Rc) (w : World) : Calls Try.prog 17 #[.agg (rcV h)] w fun e w' => e = .returned (.int .i64 (hErr h)) ∧ Below w.heap.size w w' := by
  obtain ⟨⟨F0, F1, F2, F3, F4, F5⟩, hb0⟩ := hd_box w h 23
  obtain ⟨k, a, b, c, d, key⟩ := h
  rw [hErr_if]
  have H1 := Lib.hid (fun W => hwithin_any 1 k 7 W)
  have H2 := Lib.hid (fun W => hwithin_any 0 a 7 W)
  have H3 := Lib.hid (fun W => hwithin_any 0 b 31 W)
  have H4 := Lib.hid (fun W => hwithin_any 0 c 63 W)
  have H5 := Lib.hid (fun W => hwithin_any 1 d 1099511627776 W)
  obtain ⟨B1, hB1⟩ : ∃ B, B = decide (1 ≤ k ∧ k ≤ 7) := ⟨_, rfl⟩
  obtain ⟨B2, hB2⟩ : ∃ B, B = decide (0 ≤ a ∧ a ≤ 7) := ⟨_, rfl⟩
  obtain ⟨B3, hB3⟩ : ∃ B, B = decide (0 ≤ b ∧ b ≤ 31) := ⟨_, rfl⟩
  obtain ⟨B4, hB4⟩ : ∃ B, B = decide (0 ≤ c ∧ c ≤ 63) := ⟨_, rfl⟩
  obtain ⟨B5, hB5⟩ : ∃ B, B = decide (1 ≤ d ∧ d ≤ 1099511627776) := ⟨_, rfl⟩
  rw [← hB1] at H1 ⊢
  rw [← hB2] at H2 ⊢
  rw [← hB3] at H3 ⊢
  rw [← hB4] at H4 ⊢
  rw [← hB5] at H5 ⊢
  clear hB1 hB2 hB3 hB4 hB5
  simp only [rcV] at F0 F1 F2 F3 F4 F5 hb0 ⊢
  have HB := Lib.hid hb0
  clear hb0
  have e1 : (((key.size : Nat) : Int) != 16) = !decide (key.size = 16) := by
    by_cases q : key.size = 16
    · rw [decide_eq_true q, q]; rfl
    · rw [decide_eq_false q]
      show _ = true
      rw [bne_iff_ne]; omega
  obtain ⟨K, hK⟩ : ∃ K, K = decide (key.size = 16) := ⟨_, rfl⟩
  rw [← hK] at e1
  rw [show (if key.size = 16 then (0 : Int) else 1) = if K = true then 0 else 1 by rw [hK]; simp]
  clear hK
  cases B1
  case' true => cases B2
  case' true.true => cases B3
  case' true.true.true => cases B4
  case' true.true.true.true => cases B5
  case' true.true.true.true.true => cases K
  all_goals
    simp only [Bool.and_true, Bool.and_false, Bool.false_and, if_true, if_false, Bool.false_eq_true, Bool.not_true, Bool.not_false] at e1 ⊢
    go_enter Try.func17, Try.ntmps17
    go_wp2_with (go_at_call 30; with_reducible (first | refine Calls.mono (H1.out _) ?_ | refine Calls.mono (H2.out _) ?_ | refine Calls.mono (H3.out _) ?_ | refine Calls.mono (H4.out _) ?_ | refine Calls.mono (H5.out _) ?_); rintro e wq ⟨rfl, hwq⟩; obtain rfl := hwq.symm)
    go_ret
    exact ⟨rfl, HB.out⟩

end Go.Proofs.Ytbmgiekiildaaaa
