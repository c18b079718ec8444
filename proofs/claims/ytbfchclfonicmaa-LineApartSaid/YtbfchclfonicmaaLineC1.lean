/-
  The landed line: within, flag, sizes, the closure of read; bytes.Equal.
-/
import Derived.Test.YtbfchclfonicmaaLineRef
import Derived.Test.YtbfchclfonicmaaTextEq
import Derived.Test.YtbfchclfonicmaaArrs
import Derived.Deep.MidRow
import Derived.Deep.TreeCalls
import Derived.Deep.RegionHeld3
import Derived.Test.YtbfchclfonicmaaIntRow
namespace Go.Proofs.Ytbfchclfonicmaa
open Go.RowKit

theorem textC_apart {x y : List Int} (hx : ∀ z ∈ x, 0 ≤ z ∧ z ≤ 255) (hy : ∀ z ∈ y, 0 ≤ z ∧ z ≤ 255) : ((strOfNums x).toList == (strOfNums y).toList) = decide (x = y) := by
  rw [Lib.strOfNums_toList, Lib.strOfNums_toList]
  by_cases h : x = y
  · rw [h, decide_eq_true rfl]; exact beq_self_eq_true _
  · rw [decide_eq_false h, beq_eq_false_iff_ne]
    intro e
    have e2 : keyI (strOfNums x) = keyI (strOfNums y) := congrArg (fun l : List UInt8 => l.map fun b : UInt8 => ((b.toNat : Nat) : Int)) e
    exact h (by rw [← keyI_str hx, ← keyI_str hy, e2])
def inL (m : Int) (l : List Int) : Bool := l.all fun n => inN n m
theorem inL_false {m : Int} {l : List Int} {k : Nat} (hk : k < l.length) (h : inN (l.getD k 0) m = false) : inL m l = false := by
  unfold inL
  rw [List.all_eq_false]
  exact ⟨l.getD k 0, getD_mem hk, by rw [h]; decide⟩
theorem inL_true {m : Int} {l : List Int} (h : ∀ k, k < l.length → inN (l.getD k 0) m = true) : inL m l = true := by
  unfold inL
  rw [List.all_eq_true]
  intro x hx
  obtain ⟨i, hi, rfl⟩ := List.getElem_of_mem hx
  have := h i hi
  rwa [List.getD_eq_getElem?_getD, List.getElem?_eq_getElem hi] at this

set_option maxHeartbeats 800000 in
/-- 'within'. -/
theorem withinL_any (A : Option Addr) (c : Nat) (l : List Int) (m : Int) (w : World) (h : Ints w w.heap.size .i64 A l) (hl : l.length ≤ 16) :
    Calls Try.prog 30 #[.int .i64 m, .slice A l.length c] w fun e w' => e = .returned (.bool (inL m l)) ∧ w' = w := by
  have HI := Lib.hid h
  have HF : Hid (∀ k, k < l.length → inN (l.getD k 0) m = false → inL m l = false) := fun k hk h => inL_false hk h
  have HT : Hid ((∀ k, k < l.length → inN (l.getD k 0) m = true) → inL m l = true) := inL_true
  obtain ⟨N, hN⟩ : ∃ N, N = l.length := ⟨_, rfl⟩
  have HN := Lib.hid hN
  obtain ⟨B, hB⟩ : ∃ B, B = inL m l := ⟨_, rfl⟩
  rw [← hB] at HF HT ⊢
  rw [← hN] at HF HT hl ⊢
  have n1 : (N : Int) ≤ 16 := by omega
  clear h hN hB
  go_enter Try.func30, Try.ntmps30
  go_wp2
  go_loopw [9] (fun i wr => ∃ k : Nat, k ≤ N ∧ i = .int .i64 k ∧ wr = w ∧ Hid (∀ j, j < k → inN (l.getD j 0) m = true)) (fun i _ => N - (intOf i).toNat)
  case atStart => exact ⟨0, Nat.zero_le _, rfl, rfl, fun j hj => absurd hj (Nat.not_lt_zero j)⟩
  case round =>
    obtain ⟨k, hk, rfl, rfl, HA⟩ := hrel
    by_cases hlt : k < N
    · obtain ⟨b, o, rfl, _, q0⟩ := HI.out k (by have := HN.out; omega)
      have HNO := Lib.hid (HF.out k hlt)
      have HYE : Hid (inN (l.getD k 0) m = true → ∀ j, j < k + 1 → inN (l.getD j 0) m = true) := fun h j hj => by
        rcases Nat.lt_or_ge j k with q | q
        · exact HA.out j q
        · rw [show j = k by omega]; exact h
      have k1 : (k : Int) < (N : Int) := by omega
      have k0 : (0 : Int) ≤ (k : Int) := by omega
      obtain ⟨x, hx⟩ : ∃ x, x = l.getD k 0 := ⟨_, rfl⟩
      rw [← hx] at q0 HNO HYE
      clear hx
      by_cases h0 : 0 ≤ x
      · have a0 : ¬ x < 0 := by omega
        by_cases h1 : x ≤ m
        · have a1 : ¬ m < x := by omega
          have HY := Lib.hid (HYE.out (inN_iff.2 ⟨h0, h1⟩))
          go_wp2
          go_roundw
          case rel => exact ⟨k + 1, by omega, by go_num, trivial, HY⟩
          case measure => simp [intOf]; omega
        · have a1 : m < x := by omega
          have HY : Hid (B = false) := HNO.out (by unfold inN; rw [decide_eq_false (by omega)])
          go_wp2
          go_ret
          exact ⟨by rw [HY.out]; rfl, rfl⟩
      · have a0 : x < 0 := by omega
        have HY : Hid (B = false) := HNO.out (by unfold inN; rw [decide_eq_false (by omega)])
        go_wp2
        go_ret
        exact ⟨by rw [HY.out]; rfl, rfl⟩
    · have hkN : k = N := by omega
      have k1 : ¬ (k : Int) < (N : Int) := by omega
      rw [hkN] at HA
      have HY : Hid (B = true) := HT.out HA.out
      clear HA
      go_wp2
      go_ret
      exact ⟨by rw [HY.out]; rfl, rfl⟩

/-- 'flag'. -/
theorem flag_any (b : Bool) (w : World) : Calls Try.prog 32 #[.bool b] w fun e w' => e = .returned (.int .i64 (lastN b)) ∧ w' = w := by
  cases b
  · go_enter Try.func32, Try.ntmps32
    go_wp2
    go_ret
    exact ⟨rfl, rfl⟩
  · go_enter Try.func32, Try.ntmps32
    go_wp2
    go_ret
    exact ⟨rfl, rfl⟩

def szL : List Int := [2, 4, 4, 1, 1, 7, 7, 7, 7, 1]
/-- 'sizes'. -/
theorem sizes_any (w : World) : Calls Try.prog 21 #[] w fun e w' => e = .returned (.slice (some ⟨w.heap.size, 0, none⟩) 10 10) ∧ w' = w.alloc (.cells (ICs szL) 3) := by
  go_enter Try.func21, Try.ntmps21
  go_wp2
  go_ret
  exact ⟨rfl, rfl⟩

/-- The closure of 'read': an entry of the numbers. -/
theorem nth_any (q : Nat) (A : Option Addr) (c : Nat) (l : List Int) (k : Nat) (w : World) (hq : w.heap[q]? = some (.cells #[.slice A l.length c] 50 (0, 0))) (h : Ints w w.heap.size .u64 A l) (hk : k < l.length) (hk9 : k ≤ 9) (hb : 0 ≤ l.getD k 0 ∧ l.getD k 0 ≤ 9223372036854775807) :
    Calls Try.prog 36 #[.int .i64 (k : Int), .pointer (some ⟨q, 0, none⟩)] w fun e w' => e = .returned (.int .i64 (l.getD k 0)) ∧ w' = w := by
  obtain ⟨b, o, rfl, _, q0⟩ := h k hk
  have hc := cell_of_row _ _ 0 _ _ _ hq
  obtain ⟨x, hx⟩ : ∃ x, x = l.getD k 0 := ⟨_, rfl⟩
  rw [← hx] at q0 hb ⊢
  have hc' : w.cell? ⟨q, 0, none⟩ = some (.slice (some ⟨b, o, none⟩) l.length c) := hc
  have hw : IntKind.i64.wrap x = x := IntWalk.i64_in _ (by omega)
  have k1 : (k : Int) < (l.length : Int) := by omega
  have k0 : (0 : Int) ≤ (k : Int) := by omega
  obtain ⟨N, hN⟩ : ∃ N, N = l.length := ⟨_, rfl⟩
  rw [← hN] at hc' k1
  clear hx hc hq h hN
  go_enter Try.func36, Try.ntmps36
  go_wp2
  go_ret
  exact ⟨rfl, rfl⟩

/-- 'bytes.Equal'. -/
theorem equalB_any (A1 A2 : Option Addr) (c1 c2 : Nat) (x y : List Int) (w : World) (h1 : Ints w w.heap.size .u8 A1 x) (h2 : Ints w w.heap.size .u8 A2 y) (m1 : ∀ z ∈ x, 0 ≤ z ∧ z ≤ 255) (m2 : ∀ z ∈ y, 0 ≤ z ∧ z ≤ 255) :
    Calls Try.prog 28 #[.slice A1 x.length c1, .slice A2 y.length c2] w fun e w' => e = .returned (.bool (decide (x = y))) ∧ w' = w := by
  have H := textC_apart m1 m2
  have t1 := h1.textAs (P := Try.prog) Try.underlying26 Try.underlying5 Try.underlying9 rfl rfl c1
  have t2 := h2.textAs (P := Try.prog) Try.underlying26 Try.underlying5 Try.underlying9 rfl rfl c2
  obtain ⟨s1, hs1⟩ : ∃ s, s = strOfNums x := ⟨_, rfl⟩
  obtain ⟨s2, hs2⟩ : ∃ s, s = strOfNums y := ⟨_, rfl⟩
  rw [← hs1] at t1 H
  rw [← hs2] at t2 H
  obtain ⟨B, hB⟩ : ∃ B, B = decide (x = y) := ⟨_, rfl⟩
  rw [← hB] at H ⊢
  obtain ⟨N1, hN1⟩ : ∃ N, N = x.length := ⟨_, rfl⟩
  obtain ⟨N2, hN2⟩ : ∃ N, N = y.length := ⟨_, rfl⟩
  rw [← hN1] at t1 ⊢
  rw [← hN2] at t2 ⊢
  clear hs1 hs2 hB h1 h2 m1 m2 hN1 hN2
  go_enter Try.func28, Try.ntmps28
  go_wp2
  go_ret
  exact ⟨rfl, rfl⟩

end Go.Proofs.Ytbfchclfonicmaa
