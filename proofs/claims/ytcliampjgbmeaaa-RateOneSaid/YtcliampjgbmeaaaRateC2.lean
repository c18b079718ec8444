/-
  rate's within, sound, until, filled, Fill.
-/
import Derived.Test.YtcliampjgbmeaaaRateSpec
namespace Go.Proofs.Ytcliampjgbmeaaa
open Go.RowKit

set_option maxHeartbeats 800000 in
theorem within_is {n a b : Int} {v : Bool} (h : decide (a ≤ n ∧ n ≤ b) = v) (w : World) : Calls Try.prog 30 #[.int .i64 n, .int .i64 a, .int .i64 b] w fun e w' => e = .returned (.bool v) ∧ w' = w := by
  by_cases c1 : a ≤ n
  · by_cases c2 : n ≤ b
    · have HE : Hid (v = true) := h.symm.trans (decide_eq_true ⟨c1, c2⟩)
      clear h
      go_enter Try.func30, Try.ntmps30
      go_wp2
      go_ret
      exact ⟨by rw [HE.out]; rfl, rfl⟩
    · have HE : Hid (v = false) := h.symm.trans (decide_eq_false (fun h => c2 h.2))
      have c3 : b < n := by omega
      clear h
      go_enter Try.func30, Try.ntmps30
      go_wp2
      go_ret
      exact ⟨by rw [HE.out]; rfl, rfl⟩
  · have HE : Hid (v = false) := h.symm.trans (decide_eq_false (fun h => c1 h.1))
    have c3 : n < a := by omega
    clear h
    go_enter Try.func30, Try.ntmps30
    go_wp2
    go_ret
    exact ⟨by rw [HE.out]; rfl, rfl⟩

set_option maxHeartbeats 1600000 in
set_option maxRecDepth 20000 in
theorem sound_any (k : Bk) (w : World) : Calls Try.prog 29 #[k.V] w fun e w' => e = .returned (.bool (soundB k)) ∧ w' = w.alloc (.cells #[.int .i64 k.r, .int .i64 k.b, .int .i64 k.l, .int .i64 k.a] 32) := by
  obtain ⟨r, b, l, a⟩ := k
  have hu : soundB ⟨r, b, l, a⟩ = decide (0 ≤ r ∧ r ≤ 4294967296 ∧ 1 ≤ b ∧ b ≤ 64 ∧ 0 ≤ l ∧ l ≤ 65536 * b ∧ 0 ≤ a ∧ a ≤ 1099511627776) := rfl
  simp only [Bk.V]
  by_cases c1 : 0 ≤ r ∧ r ≤ 4294967296
  · have H1 := Lib.hid (fun W => within_is (decide_eq_true c1) W)
    by_cases c2 : 1 ≤ b ∧ b ≤ 64
    · have H2 := Lib.hid (fun W => within_is (decide_eq_true c2) W)
      have hb : 65536 ≤ 65536 * b ∧ 65536 * b ≤ 4194304 := by omega
      have v1 : IntKind.i64.wrap (65536 * b) = 65536 * b := IntWalk.i64_in _ (by omega)
      by_cases c3 : 0 ≤ l ∧ l ≤ 65536 * b
      · have H3 := Lib.hid (fun W => within_is (decide_eq_true c3) W)
        by_cases c4 : 0 ≤ a ∧ a ≤ 1099511627776
        · have H4 := Lib.hid (fun W => within_is (decide_eq_true c4) W)
          have HS : Hid (soundB ⟨r, b, l, a⟩ = true) := hu.trans (decide_eq_true (by omega))
          obtain ⟨S, hS⟩ : ∃ S, S = soundB ⟨r, b, l, a⟩ := ⟨_, rfl⟩
          rw [← hS] at HS ⊢
          clear c1 c2 c3 c4 hu hS hb
          go_enter Try.func29, Try.ntmps29
          go_wp2_with (first
            | (go_at_call 30; with_reducible (refine Calls.mono (H1.out _) ?_); rintro e w' ⟨rfl, rfl⟩)
            | (go_at_call 30; with_reducible (refine Calls.mono (H2.out _) ?_); rintro e w' ⟨rfl, rfl⟩)
            | (go_at_call 30; with_reducible (refine Calls.mono (H3.out _) ?_); rintro e w' ⟨rfl, rfl⟩)
            | (go_at_call 30; with_reducible (refine Calls.mono (H4.out _) ?_); rintro e w' ⟨rfl, rfl⟩))
          go_ret
          exact ⟨by rw [HS.out]; rfl, rfl⟩
        · have H4 := Lib.hid (fun W => within_is (decide_eq_false c4) W)
          have HS : Hid (soundB ⟨r, b, l, a⟩ = false) := hu.trans (decide_eq_false (by omega))
          obtain ⟨S, hS⟩ : ∃ S, S = soundB ⟨r, b, l, a⟩ := ⟨_, rfl⟩
          rw [← hS] at HS ⊢
          clear c1 c2 c3 c4 hu hS hb
          go_enter Try.func29, Try.ntmps29
          go_wp2_with (first
            | (go_at_call 30; with_reducible (refine Calls.mono (H1.out _) ?_); rintro e w' ⟨rfl, rfl⟩)
            | (go_at_call 30; with_reducible (refine Calls.mono (H2.out _) ?_); rintro e w' ⟨rfl, rfl⟩)
            | (go_at_call 30; with_reducible (refine Calls.mono (H3.out _) ?_); rintro e w' ⟨rfl, rfl⟩)
            | (go_at_call 30; with_reducible (refine Calls.mono (H4.out _) ?_); rintro e w' ⟨rfl, rfl⟩))
          go_ret
          exact ⟨by rw [HS.out]; rfl, rfl⟩
      · have H3 := Lib.hid (fun W => within_is (decide_eq_false c3) W)
        have HS : Hid (soundB ⟨r, b, l, a⟩ = false) := hu.trans (decide_eq_false (by omega))
        obtain ⟨S, hS⟩ : ∃ S, S = soundB ⟨r, b, l, a⟩ := ⟨_, rfl⟩
        rw [← hS] at HS ⊢
        clear c1 c2 c3 hu hS hb
        go_enter Try.func29, Try.ntmps29
        go_wp2_with (first
          | (go_at_call 30; with_reducible (refine Calls.mono (H1.out _) ?_); rintro e w' ⟨rfl, rfl⟩)
          | (go_at_call 30; with_reducible (refine Calls.mono (H2.out _) ?_); rintro e w' ⟨rfl, rfl⟩)
          | (go_at_call 30; with_reducible (refine Calls.mono (H3.out _) ?_); rintro e w' ⟨rfl, rfl⟩))
        go_ret
        exact ⟨by rw [HS.out]; rfl, rfl⟩
    · have H2 := Lib.hid (fun W => within_is (decide_eq_false c2) W)
      have HS : Hid (soundB ⟨r, b, l, a⟩ = false) := hu.trans (decide_eq_false (by omega))
      obtain ⟨S, hS⟩ : ∃ S, S = soundB ⟨r, b, l, a⟩ := ⟨_, rfl⟩
      rw [← hS] at HS ⊢
      clear c1 c2 hu hS
      go_enter Try.func29, Try.ntmps29
      go_wp2_with (first
        | (go_at_call 30; with_reducible (refine Calls.mono (H1.out _) ?_); rintro e w' ⟨rfl, rfl⟩)
        | (go_at_call 30; with_reducible (refine Calls.mono (H2.out _) ?_); rintro e w' ⟨rfl, rfl⟩))
      go_ret
      exact ⟨by rw [HS.out]; rfl, rfl⟩
  · have H1 := Lib.hid (fun W => within_is (decide_eq_false c1) W)
    have HS : Hid (soundB ⟨r, b, l, a⟩ = false) := hu.trans (decide_eq_false (by omega))
    obtain ⟨S, hS⟩ : ∃ S, S = soundB ⟨r, b, l, a⟩ := ⟨_, rfl⟩
    rw [← hS] at HS ⊢
    clear c1 hu hS
    go_enter Try.func29, Try.ntmps29
    go_wp2_with (go_at_call 30; with_reducible (refine Calls.mono (H1.out _) ?_); rintro e w' ⟨rfl, rfl⟩)
    go_ret
    exact ⟨by rw [HS.out]; rfl, rfl⟩

/-! ### How long a bucket takes to a level -/
def untilM (k : Bk) (v : Int) : Int := if v ≤ k.l then 0 else if k.r = 0 then 0 else (v - k.l + k.r - 1) / k.r
def untilB (k : Bk) (v : Int) : Bool := decide (v ≤ k.l ∨ k.r ≠ 0)
theorem ceil_le {r d p : Int} (hr : 0 < r) : (d + r - 1) / r ≤ p ↔ d ≤ r * p := by
  rw [← Int.lt_add_one_iff, Int.ediv_lt_iff_lt_mul hr, Int.add_mul, Int.mul_comm p r]
  omega
set_option maxHeartbeats 1600000 in
theorem until_any (k : Bk) (v : Int) (w : World) (hs : soundB k = true) (hv : 0 ≤ v ∧ v ≤ 4194304) : Calls Try.prog 34 #[k.V, .int .i64 v] w fun e w' => e = .returned (.tuple #[.int .i64 (untilM k v), .bool (untilB k v)]) ∧ w' = w.alloc (.cells #[.int .i64 k.r, .int .i64 k.b, .int .i64 k.l, .int .i64 k.a] 32) := by
  obtain ⟨s1, s2, s3, s4, s5, s6, s7, s8⟩ := (sound_iff k).1 hs
  obtain ⟨r, b, l, a⟩ := k
  simp only [] at s1 s2 s3 s4 s5 s6 s7 s8
  simp only [Bk.V]
  by_cases c1 : v ≤ l
  · have HM : Hid (untilM ⟨r, b, l, a⟩ v = 0) := if_pos c1
    have HB : Hid (untilB ⟨r, b, l, a⟩ v = true) := decide_eq_true (.inl c1)
    clear hs s1 s2 s3 s4 s5 s6 s7 s8 hv
    go_enter Try.func34, Try.ntmps34
    go_wp2
    go_ret2
    exact ⟨by rw [HM.out, HB.out]; rfl, rfl⟩
  · have c1n : l < v := by omega
    by_cases c2 : r = 0
    · subst c2
      have HM : Hid (untilM ⟨0, b, l, a⟩ v = 0) := by unfold Hid untilM; rw [if_neg c1, if_pos rfl]
      have HB : Hid (untilB ⟨0, b, l, a⟩ v = false) := decide_eq_false (fun h => h.elim c1 (fun h => h rfl))
      clear hs s1 s2 s3 s4 s5 s6 s7 s8 hv c1
      go_enter Try.func34, Try.ntmps34
      go_wp2
      go_ret2
      exact ⟨by rw [HM.out, HB.out]; rfl, rfl⟩
    · have HM : Hid (untilM ⟨r, b, l, a⟩ v = (v - l + r - 1) / r) := by unfold Hid untilM; rw [if_neg c1, if_neg c2]
      have HB : Hid (untilB ⟨r, b, l, a⟩ v = true) := decide_eq_true (.inr c2)
      have v1 : IntKind.i64.wrap (v - l) = v - l := IntWalk.i64_in _ (by omega)
      have v2 : IntKind.i64.wrap (v - l + r) = v - l + r := IntWalk.i64_in _ (by omega)
      have v3 : IntKind.i64.wrap (v - l + r - 1) = v - l + r - 1 := IntWalk.i64_in _ (by omega)
      have q1 : (v - l + r - 1).tdiv r = (v - l + r - 1) / r := Int.tdiv_eq_ediv_of_nonneg (by omega)
      have q2 : 0 ≤ (v - l + r - 1) / r := Int.ediv_nonneg (by omega) (by omega)
      have q3 : (v - l + r - 1) / r ≤ 4194304 := (ceil_le (by omega)).2 (by have := mul_ge_one (a := r) (b := 4194304) (by omega) (by omega); omega)
      have v4 : IntKind.i64.wrap ((v - l + r - 1) / r) = (v - l + r - 1) / r := IntWalk.i64_in _ (by omega)
      have cb : (r == 0) = false := beq_eq_false_iff_ne.2 c2
      clear hs s1 s2 s3 s4 s5 s6 s7 s8 hv q2 q3 c1
      go_enter Try.func34, Try.ntmps34
      go_wp2
      go_ret2
      exact ⟨by rw [HM.out, HB.out]; rfl, rfl⟩

end Go.Proofs.Ytcliampjgbmeaaa
