/-
  The statements PackOrder and PackWider as walks. Conditions: what comes in is of its type.
-/
import Derived.Test.YtdlmnlgmdfcbfaaLaws
import Derived.Test.YtdlmnlgmdfcbfaaNumb
import Derived.WalkLawsBesides
namespace Go.Proofs.Ytdlmnlgmdfcbfaa
open Go.RowKit

theorem chain {a b c : World} (h1 : Below a.heap.size a b) (h2 : Below b.heap.size b c) : Below a.heap.size a c := h1.trans (h2.mono h1.size)
theorem fieldsE_one (n s : Int) : fieldsE [n] [s] = if szOk s = true then (if fitB n s = true then 0 else 7) else 1 := by
  unfold fieldsE
  rw [szs_one]
  simp
theorem fieldsB_one (n s : Int) (h : fieldsE [n] [s] = 0) : fieldsB [n] [s] = bytesOf n s.toNat := by
  unfold fieldsB
  rw [if_pos h]
  simp

/-- Not both fit. -/
theorem packOrder_no (a b s : Int) (w : World) (ha : 0 ≤ a ∧ a ≤ 18446744073709551615) (hb : 0 ≤ b ∧ b ≤ 18446744073709551615) (h : fieldsE [a] [s] ≠ 0 ∨ fieldsE [b] [s] ≠ 0) :
    Calls Try.prog 8 #[.int .u64 a, .int .u64 b, .int .i64 s] w fun e w' => e = .returned (.bool true) ∧ Below w.heap.size w w' := by
  have hP := put_any a s
  have hR := put_any b s
  obtain ⟨l1, hl1⟩ : ∃ l, l = fieldsB [a] [s] := ⟨_, rfl⟩
  obtain ⟨E1, hE1⟩ : ∃ E, E = fieldsE [a] [s] := ⟨_, rfl⟩
  obtain ⟨l2, hl2⟩ : ∃ l, l = fieldsB [b] [s] := ⟨_, rfl⟩
  obtain ⟨E2, hE2⟩ : ∃ E, E = fieldsE [b] [s] := ⟨_, rfl⟩
  rw [← hl1, ← hE1] at hP
  rw [← hl2, ← hE2] at hR
  rw [← hE1, ← hE2] at h
  clear hl1 hE1 hl2 hE2
  have HP := Lib.hid hP
  have HR := Lib.hid hR
  clear hP hR
  by_cases h1 : E1 = 0
  · have h2 : E2 ≠ 0 := h.resolve_left (fun hh => hh h1)
    subst h1
    have h3 : (E2 == 0) = false := by simpa using h2
    have h4 : (E2 != 0) = true := by simpa using h2
    clear h
    go_enter Try.func8, Try.ntmps8
    go_wp2_with (first
      | (go_at_call_of 11 (Value.int .u64 a); refine Calls.mono (HP.out _ ha) ?_; rintro e w1 ⟨A1, c1, rfl, hc1, hi1, hb1⟩)
      | (go_at_call 11; refine Calls.mono (HR.out _ hb) ?_; rintro e w2 ⟨A2, c2, rfl, hc2, hi2, hb2⟩)
      | (go_at_call 13; refine Calls.mono (awake_any _) ?_; rintro e w3 ⟨rfl, hb3⟩))
    go_ret
    exact ⟨rfl, by repeat (first | assumption | refine chain ?_ (by assumption))⟩
  · have h3 : (E1 == 0) = false := by simpa using h1
    have h4 : (E1 != 0) = true := by simpa using h1
    clear h
    go_enter Try.func8, Try.ntmps8
    go_wp2_with (first
      | (go_at_call_of 11 (Value.int .u64 a); refine Calls.mono (HP.out _ ha) ?_; rintro e w1 ⟨A1, c1, rfl, hc1, hi1, hb1⟩)
      | (go_at_call 11; refine Calls.mono (HR.out _ hb) ?_; rintro e w2 ⟨A2, c2, rfl, hc2, hi2, hb2⟩)
      | (go_at_call 13; refine Calls.mono (awake_any _) ?_; rintro e w3 ⟨rfl, hb3⟩))
    go_ret
    exact ⟨rfl, by repeat (first | assumption | refine chain ?_ (by assumption))⟩

/-- Both fit. -/
theorem fit_of {n s : Int} (h : fieldsE [n] [s] = 0) : (1 ≤ s ∧ s ≤ 8) ∧ n < 256 ^ s.toNat := by
  rw [fieldsE_one] at h
  by_cases e : szOk s = true
  · rw [if_pos e] at h
    by_cases f : fitB n s = true
    · exact ⟨by simpa only [szOk, decide_eq_true_eq] using e, by simpa only [fitB, decide_eq_true_eq] using f⟩
    · rw [if_neg f] at h; omega
  · rw [if_neg e] at h; omega
theorem packOrder_yes (a b s : Int) (w : World) (ha : 0 ≤ a ∧ a ≤ 18446744073709551615) (hb : 0 ≤ b ∧ b ≤ 18446744073709551615) (h1 : fieldsE [a] [s] = 0) (h2 : fieldsE [b] [s] = 0) :
    Calls Try.prog 8 #[.int .u64 a, .int .u64 b, .int .i64 s] w fun e w' => e = .returned (.bool true) ∧ Below w.heap.size w w' := by
  have hP := put_any a s
  have hR := put_any b s
  obtain ⟨l1, hl1⟩ : ∃ l, l = fieldsB [a] [s] := ⟨_, rfl⟩
  obtain ⟨l2, hl2⟩ : ∃ l, l = fieldsB [b] [s] := ⟨_, rfl⟩
  rw [← hl1, h1] at hP
  rw [← hl2, h2] at hR
  obtain ⟨hs, fa⟩ := fit_of h1
  have fb := (fit_of h2).2
  have hn1 : ((l1.length : Int) == s) = true := by rw [hl1, fieldsB_one a s h1, bytesOf_len]; simp; omega
  have hn2 : ((l2.length : Int) == s) = true := by rw [hl2, fieldsB_one b s h2, bytesOf_len]; simp; omega
  have hls : Op.bytesLess (strOfNums l1).toList (strOfNums l2).toList = decide (a < b) := by
    rw [hl1, hl2, fieldsB_one a s h1, fieldsB_one b s h2, strList, strList, less_val _ _ (by rw [bytesOf_len, bytesOf_len]) (bytesOf_mem _ _) (bytesOf_mem _ _), valOf_bytesOf a _ ha.1 fa, valOf_bytesOf b _ hb.1 fb]
  clear hl1 hl2
  have HP := Lib.hid hP
  have HR := Lib.hid hR
  clear hP hR h1 h2 fa fb
  go_enter Try.func8, Try.ntmps8
  go_wp2_with (first
    | (go_at_call_of 11 (Value.int .u64 a); refine Calls.mono (HP.out _ ha) ?_; rintro e w1 ⟨A1, c1, rfl, hc1, hi1, hb1⟩)
    | (go_at_call 11; refine Calls.mono (HR.out _ hb) ?_; rintro e w2 ⟨A2, c2, rfl, hc2, hi2, hb2⟩)
    | (go_at_call 13; refine Calls.mono (awake_any _) ?_; rintro e w3 ⟨rfl, hb3⟩; have hk1 := ((hi1.below hb2).below (hb3.mono hb2.size)).text (P := Try.prog) Try.underlying23 Try.underlying5 Try.underlying9 c1; have hk2 := (hi2.below hb3).text (P := Try.prog) Try.underlying23 Try.underlying5 Try.underlying9 c2))
  go_ret
  exact ⟨rfl, by repeat (first | assumption | refine chain ?_ (by assumption))⟩

theorem packOrder_go (a b s : Int) (w : World) (ha : 0 ≤ a ∧ a ≤ 18446744073709551615) (hb : 0 ≤ b ∧ b ≤ 18446744073709551615) :
    Calls Try.prog 8 #[.int .u64 a, .int .u64 b, .int .i64 s] w fun e w' => e = .returned (.bool true) ∧ Below w.heap.size w w' := by
  by_cases h : fieldsE [a] [s] = 0 ∧ fieldsE [b] [s] = 0
  · exact packOrder_yes a b s w ha hb h.1 h.2
  · refine packOrder_no a b s w ha hb ?_
    by_cases h1 : fieldsE [a] [s] = 0
    · exact .inr fun h2 => h ⟨h1, h2⟩
    · exact .inl h1

/-- It does not fit, or there is no greater size. -/
theorem packWider_no (n s : Int) (w : World) (hn : 0 ≤ n ∧ n ≤ 18446744073709551615) (h : fieldsE [n] [s] ≠ 0 ∨ s = 8) :
    Calls Try.prog 9 #[.int .u64 n, .int .i64 s] w fun e w' => e = .returned (.bool true) ∧ Below w.heap.size w w' := by
  have hP := put_any n s
  obtain ⟨l1, hl1⟩ : ∃ l, l = fieldsB [n] [s] := ⟨_, rfl⟩
  obtain ⟨E1, hE1⟩ : ∃ E, E = fieldsE [n] [s] := ⟨_, rfl⟩
  rw [← hl1, ← hE1] at hP
  rw [← hE1] at h
  clear hl1 hE1
  have HP := Lib.hid hP
  clear hP
  by_cases h1 : E1 = 0
  · have h2 : s = 8 := h.resolve_left (fun hh => hh h1)
    subst h1
    subst h2
    clear h
    go_enter Try.func9, Try.ntmps9
    go_wp2_with (first
      | (go_at_call 11; refine Calls.mono (HP.out _ hn) ?_; rintro e w1 ⟨A1, c1, rfl, hc1, hi1, hb1⟩)
      | (go_at_call 13; refine Calls.mono (awake_any _) ?_; rintro e w3 ⟨rfl, hb3⟩))
    go_ret
    exact ⟨rfl, by repeat (first | assumption | refine chain ?_ (by assumption))⟩
  · have h3 : (E1 == 0) = false := by simpa using h1
    have h4 : (E1 != 0) = true := by simpa using h1
    clear h
    go_enter Try.func9, Try.ntmps9
    go_wp2_with (first
      | (go_at_call 11; refine Calls.mono (HP.out _ hn) ?_; rintro e w1 ⟨A1, c1, rfl, hc1, hi1, hb1⟩)
      | (go_at_call 13; refine Calls.mono (awake_any _) ?_; rintro e w3 ⟨rfl, hb3⟩))
    go_ret
    exact ⟨rfl, by repeat (first | assumption | refine chain ?_ (by assumption))⟩

/-- It fits, and there is a greater size. -/
theorem packWider_yes (n s : Int) (w : World) (hn : 0 ≤ n ∧ n ≤ 18446744073709551615) (h : fieldsE [n] [s] = 0) (h8 : s ≠ 8) :
    Calls Try.prog 9 #[.int .u64 n, .int .i64 s] w fun e w' => e = .returned (.bool true) ∧ Below w.heap.size w w' := by
  have hP := put_any n s
  have hR := put_any n (s + 1)
  obtain ⟨hs, fn⟩ := fit_of h
  obtain ⟨k, hk⟩ : ∃ k : Nat, (k : Int) = s := ⟨s.toNat, by omega⟩
  have hk1 : s.toNat = k := by omega
  have hk2 : (s + 1).toNat = k + 1 := by omega
  rw [hk1] at fn
  have fn2 : n < 256 ^ (k + 1) := by have := pow_pos k; rw [Int.pow_succ]; omega
  have h2 : fieldsE [n] [s + 1] = 0 := by
    rw [fieldsE_one, if_pos (by simp only [szOk, decide_eq_true_eq]; omega), if_pos (by simp only [fitB, decide_eq_true_eq, hk2]; exact fn2)]
  have e1 := fieldsB_one n s h
  have e2 := fieldsB_one n (s + 1) h2
  rw [hk1] at e1
  rw [hk2, bytesOf_more n k hn.1 fn] at e2
  rw [h, e1] at hP
  rw [h2, e2] at hR
  obtain ⟨l, hl⟩ : ∃ l, l = bytesOf n k := ⟨_, rfl⟩
  rw [← hl] at hP hR
  have HP := Lib.hid hP
  have HR := Lib.hid hR
  have hll : (strOfNums l).size ≤ 8 := by rw [strOfNums_size, hl, bytesOf_len]; omega
  have hcat := strZero l
  have h9 : (s == 8) = false := by simpa using h8
  have hs8 : s ≤ 8 := hs.2
  have hs1 : 1 ≤ s := hs.1
  clear hP hR h h2 e1 e2 hl fn fn2 hk hk1 hk2 hs
  go_enter Try.func9, Try.ntmps9
  go_wp2_with (first
    | (go_at_call_of 11 (Value.int .i64 s); refine Calls.mono (HP.out _ hn) ?_; rintro e w1 ⟨A1, c1, rfl, hc1, hi1, hb1⟩)
    | (go_at_call 11; refine Calls.mono (HR.out _ hn) ?_; rintro e w2 ⟨A2, c2, rfl, hc2, hi2, hb2⟩; have hk1 := ((hi1.below hb3).below (hb2.mono hb3.size)).text (P := Try.prog) Try.underlying23 Try.underlying5 Try.underlying9 c1; have hk2 := hi2.textAs (P := Try.prog) (n := l.length + 1) Try.underlying23 Try.underlying5 Try.underlying9 (by simp) rfl c2)
    | (go_at_call 13; refine Calls.mono (awake_any _) ?_; rintro e w3 ⟨rfl, hb3⟩))
  go_ret
  exact ⟨rfl, by repeat (first | assumption | refine chain ?_ (by assumption))⟩

theorem packWider_go (n s : Int) (w : World) (hn : 0 ≤ n ∧ n ≤ 18446744073709551615) :
    Calls Try.prog 9 #[.int .u64 n, .int .i64 s] w fun e w' => e = .returned (.bool true) ∧ Below w.heap.size w w' := by
  by_cases h : fieldsE [n] [s] = 0 ∧ s ≠ 8
  · exact packWider_yes n s w hn h.1 h.2
  · refine packWider_no n s w hn ?_
    by_cases h1 : s = 8
    · exact .inr h1
    · exact .inl fun h2 => h ⟨h2, h1⟩

end Go.Proofs.Ytdlmnlgmdfcbfaa
