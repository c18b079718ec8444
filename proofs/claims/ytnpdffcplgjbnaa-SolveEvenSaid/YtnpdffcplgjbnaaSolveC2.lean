/-
  The landed solve: which error applies (slices.ContainsFunc with a closure, and with a function).
-/
import Derived.Test.YtnpdffcplgjbnaaSolveC1
namespace Go.Proofs.Ytnpdffcplgjbnaa
open Go.RowKit

theorem any_succ {P : Nat → Bool} {N k : Nat} (hk : k < N) (h : P k = true) : (List.range N).any P = true := List.any_eq_true.2 ⟨k, List.mem_range.2 hk, h⟩
theorem any_none {P : Nat → Bool} {N : Nat} (h : ∀ j, j < N → P j = false) : (List.range N).any P = false := by
  rw [List.any_eq_false]
  intro x hx
  rw [h x (List.mem_range.1 hx)]; decide

set_option maxHeartbeats 1600000 in
/-- 'slices.IndexFunc' on numbers. -/
theorem indexI_any (A : Option Addr) (c N : Nat) (F : Nat → Int) (P : Nat → Bool) (fn : FuncId) (cb : Array Value) (w : World) (hN : N ≤ 16) (h : ∀ i, i < N → ∃ b o, A = some ⟨b, o, none⟩ ∧ w.cell? ⟨b, o + i, none⟩ = some (.int .i64 (F i)))
    (he : ∀ args w, (callFunc fn args).run Try.prog w = .ok (.enter fn args) w) (hc : ∀ k, k < N → Calls Try.prog fn (#[.int .i64 (F k)] ++ cb) w fun e w' => e = .returned (.bool (P k)) ∧ w' = w) :
    Calls Try.prog 34 #[.slice A N c, .func (.func fn) #[] cb] w fun e w' => ∃ r : Int, e = .returned (.int .i64 r) ∧ decide (0 ≤ r) = (List.range N).any P ∧ w' = w := by
  have HA := Lib.hid h
  have HC := Lib.hid hc
  have HY : Hid (∀ k, k < N → P k = true → (List.range N).any P = true) := fun k hk q => any_succ hk q
  have HNo : Hid ((∀ j, j < N → P j = false) → (List.range N).any P = false) := fun q => any_none q
  obtain ⟨V, hV⟩ : ∃ V, V = (List.range N).any P := ⟨_, rfl⟩
  rw [← hV] at HY HNo ⊢
  have n1 : (N : Int) ≤ 16 := by omega
  have eg := he
  clear h hc hV hN
  go_enter Try.func34, Try.ntmps34
  go_wp2
  go_loopw [8] (fun i wr => ∃ k : Nat, k ≤ N ∧ i = .int .i64 k ∧ Hid (∀ j, j < k → P j = false) ∧ wr = w) (fun i _ => N - (intOf i).toNat)
  case atStart => exact ⟨0, Nat.zero_le _, rfl, fun j hj => absurd hj (Nat.not_lt_zero j), rfl⟩
  case round =>
    obtain ⟨k, hk, rfl, hall, rfl⟩ := hrel
    by_cases hlt : k < N
    · obtain ⟨b, o, rfl, q0⟩ := HA.out k hlt
      have k1 : (k : Int) < (N : Int) := by omega
      have k0 : (0 : Int) ≤ (k : Int) := by omega
      have hck := HC.out k hlt
      have hy := Lib.hid (HY.out k hlt)
      have hall2 : Hid (P k = false → ∀ j, j < k + 1 → P j = false) := fun q j hj => by
        rcases Nat.lt_or_ge j k with g | g
        · exact hall.out j g
        · rw [show j = k by omega]; exact q
      obtain ⟨p, hp⟩ : ∃ p, p = P k := ⟨_, rfl⟩
      obtain ⟨x, hx⟩ : ∃ p, p = F k := ⟨_, rfl⟩
      rw [← hp, ← hx] at hck
      rw [← hp] at hy hall2
      rw [← hx] at q0
      have HCK := Lib.hid hck
      clear hall HA HC HY HNo hp hx hck
      cases p
      · have H2 := Lib.hid (hall2.out rfl)
        clear hall2 hy
        go_wp2_with (go_at_fn fn; with_reducible (refine Calls.mono HCK.out ?_); rintro e w2 ⟨rfl, rfl⟩)
        go_roundw
        case rel => first | exact ⟨k + 1, by omega, by go_num, H2.out, by first | rfl | trivial⟩ | ((repeat apply Exists.intro); exact ⟨⟨k + 1, by omega, by go_num, H2.out, by first | rfl | trivial⟩, rfl⟩)
        case measure => simp [intOf]; omega
      · have H2 := Lib.hid (hy.out rfl)
        clear hall2 hy
        go_wp2_with (go_at_fn fn; with_reducible (refine Calls.mono HCK.out ?_); rintro e w2 ⟨rfl, rfl⟩)
        go_ret
        exact ⟨(k : Int), rfl, by rw [H2.out]; exact decide_eq_true k0, rfl⟩
    · have hk8 : k = N := by omega
      subst hk8
      have hn := Lib.hid (HNo.out hall.out)
      clear hall HA HC HY HNo
      have k1 : ¬ (k : Int) < (k : Int) := by omega
      go_wp2
      go_ret
      exact ⟨-1, rfl, by rw [hn.out]; decide, rfl⟩

set_option maxHeartbeats 800000 in
/-- 'slices.ContainsFunc' on numbers. -/
theorem containsI_any (A : Option Addr) (c N : Nat) (F : Nat → Int) (P : Nat → Bool) (fn : FuncId) (cb : Array Value) (w : World) (hN : N ≤ 16) (h : ∀ i, i < N → ∃ b o, A = some ⟨b, o, none⟩ ∧ w.cell? ⟨b, o + i, none⟩ = some (.int .i64 (F i)))
    (he : ∀ args w, (callFunc fn args).run Try.prog w = .ok (.enter fn args) w) (hc : ∀ k, k < N → Calls Try.prog fn (#[.int .i64 (F k)] ++ cb) w fun e w' => e = .returned (.bool (P k)) ∧ w' = w) :
    Calls Try.prog 28 #[.slice A N c, .func (.func fn) #[] cb] w fun e w' => e = .returned (.bool ((List.range N).any P)) ∧ w' = w := by
  have HI := Lib.hid (indexI_any A c N F P fn cb w hN h he hc)
  obtain ⟨V, hV⟩ : ∃ V, V = (List.range N).any P := ⟨_, rfl⟩
  rw [← hV] at HI ⊢
  clear h he hc hV hN
  go_enter Try.func28, Try.ntmps28
  go_wp2_with (go_at_call 34; with_reducible (refine Calls.mono HI.out ?_); rintro e w2 ⟨r, rfl, hr, rfl⟩)
  go_ret
  exact ⟨by rw [← hr]; rfl, rfl⟩

set_option maxHeartbeats 1600000 in
/-- 'slices.IndexFunc' on curves; the function may take memory. -/
theorem indexC_any (A : Option Addr) (c : Nat) (ps : List Cur) (P : Nat → Bool) (fn : FuncId) (w : World) (hN : ps.length ≤ 16) (h : Curs w w.heap.size A ps)
    (he : ∀ args w, (callFunc fn args).run Try.prog w = .ok (.enter fn args) w) (hc : ∀ k (hk : k < ps.length) W, Below w.heap.size w W → Calls Try.prog fn #[.slice ps[k].A ps[k].l.length ps[k].c] W fun e w' => e = .returned (.bool (P k)) ∧ Below W.heap.size W w') :
    Calls Try.prog 35 #[.slice A ps.length c, .func (.func fn) #[] #[]] w fun e w' => ∃ r : Int, e = .returned (.int .i64 r) ∧ decide (0 ≤ r) = (List.range ps.length).any P ∧ Below w.heap.size w w' := by
  have HA : Hid (∀ W, Below w.heap.size w W → ∀ i (hi : i < ps.length), ∃ b o, A = some ⟨b, o, none⟩ ∧ W.cell? ⟨b, o + i, none⟩ = some (.slice ps[i].A ps[i].l.length ps[i].c)) := fun W hb i hi => by
    obtain ⟨b, o, e, hbl, q, _⟩ := h i hi
    exact ⟨b, o, e, by rw [hb.cell (p := ⟨b, o + i, none⟩) hbl]; exact q⟩
  have HC := Lib.hid hc
  have HY : Hid (∀ k, k < ps.length → P k = true → (List.range ps.length).any P = true) := fun k hk q => any_succ hk q
  have HNo : Hid ((∀ j, j < ps.length → P j = false) → (List.range ps.length).any P = false) := fun q => any_none q
  obtain ⟨V, hV⟩ : ∃ V, V = (List.range ps.length).any P := ⟨_, rfl⟩
  rw [← hV] at HY HNo ⊢
  obtain ⟨N, hNN⟩ : ∃ N, N = ps.length := ⟨_, rfl⟩
  have n1 : (N : Int) ≤ 16 := by omega
  rw [← hNN] at HY HNo ⊢
  have HN := Lib.hid hNN
  have eg := he
  clear h hc hV hN hNN
  go_enter Try.func35, Try.ntmps35
  go_wp2
  go_loopw [8] (fun i wr => ∃ k : Nat, k ≤ N ∧ i = .int .i64 k ∧ Hid (∀ j, j < k → P j = false) ∧ Hid (Below w.heap.size w wr)) (fun i _ => N - (intOf i).toNat)
  case atStart => exact ⟨0, Nat.zero_le _, rfl, fun j hj => absurd hj (Nat.not_lt_zero j), Below.refl _ _⟩
  case round =>
    obtain ⟨k, hk, rfl, hall, hB⟩ := hrel
    by_cases hlt : k < N
    · obtain ⟨b, o, rfl, q0⟩ := HA.out wr hB.out k (by have := HN.out; omega)
      have k1 : (k : Int) < (N : Int) := by omega
      have k0 : (0 : Int) ≤ (k : Int) := by omega
      have hck := HC.out k (by have := HN.out; omega) wr hB.out
      have hy := Lib.hid (HY.out k hlt)
      have hall2 : Hid (P k = false → ∀ j, j < k + 1 → P j = false) := fun q j hj => by
        rcases Nat.lt_or_ge j k with g | g
        · exact hall.out j g
        · rw [show j = k by omega]; exact q
      obtain ⟨p, hp⟩ : ∃ p, p = P k := ⟨_, rfl⟩
      rw [← hp] at hck
      rw [← hp] at hy hall2
      obtain ⟨pA, hpA⟩ : ∃ x, x = (ps[k]'(by have := HN.out; omega)).A := ⟨_, rfl⟩
      obtain ⟨pl, hpl⟩ : ∃ x, x = (ps[k]'(by have := HN.out; omega)).l.length := ⟨_, rfl⟩
      obtain ⟨pc, hpc⟩ : ∃ x, x = (ps[k]'(by have := HN.out; omega)).c := ⟨_, rfl⟩
      rw [← hpA, ← hpl, ← hpc] at q0 hck
      have HCK := Lib.hid hck
      clear hall HA HC HY HNo hp hck hpA hpl hpc
      cases p
      · have H2 := Lib.hid (hall2.out rfl)
        clear hall2 hy
        go_wp2_with (go_at_fn fn; with_reducible (refine Calls.mono HCK.out ?_); rintro e w2 ⟨rfl, hb2⟩)
        have R := Lib.hid (chain hB.out hb2)
        clear hB hb2
        go_roundw
        case rel => first | exact ⟨k + 1, by omega, by go_num, H2.out, R⟩ | ((repeat apply Exists.intro); exact ⟨⟨k + 1, by omega, by go_num, H2.out, R⟩, rfl⟩)
        case measure => simp [intOf]; omega
      · have H2 := Lib.hid (hy.out rfl)
        clear hall2 hy
        go_wp2_with (go_at_fn fn; with_reducible (refine Calls.mono HCK.out ?_); rintro e w2 ⟨rfl, hb2⟩)
        have R := Lib.hid (chain hB.out hb2)
        clear hB hb2
        go_ret
        exact ⟨(k : Int), rfl, by rw [H2.out]; exact decide_eq_true k0, R.out⟩
    · have hk8 : k = N := by omega
      subst hk8
      have hn := Lib.hid (HNo.out hall.out)
      clear hall HA HC HY HNo
      have k1 : ¬ (k : Int) < (k : Int) := by omega
      go_wp2
      go_ret
      exact ⟨-1, rfl, by rw [hn.out]; decide, hB.out⟩

set_option maxHeartbeats 800000 in
/-- 'slices.ContainsFunc' on curves. -/
theorem containsC_any (A : Option Addr) (c : Nat) (ps : List Cur) (P : Nat → Bool) (fn : FuncId) (w : World) (hN : ps.length ≤ 16) (h : Curs w w.heap.size A ps)
    (he : ∀ args w, (callFunc fn args).run Try.prog w = .ok (.enter fn args) w) (hc : ∀ k (hk : k < ps.length) W, Below w.heap.size w W → Calls Try.prog fn #[.slice ps[k].A ps[k].l.length ps[k].c] W fun e w' => e = .returned (.bool (P k)) ∧ Below W.heap.size W w') :
    Calls Try.prog 30 #[.slice A ps.length c, .func (.func fn) #[] #[]] w fun e w' => e = .returned (.bool ((List.range ps.length).any P)) ∧ Below w.heap.size w w' := by
  have HI := Lib.hid (indexC_any A c ps P fn w hN h he hc)
  obtain ⟨V, hV⟩ : ∃ V, V = (List.range ps.length).any P := ⟨_, rfl⟩
  rw [← hV] at HI ⊢
  obtain ⟨N, hNN⟩ : ∃ N, N = ps.length := ⟨_, rfl⟩
  rw [← hNN] at HI ⊢
  clear h he hc hV hN hNN
  go_enter Try.func30, Try.ntmps30
  go_wp2_with (go_at_call 35; with_reducible (refine Calls.mono HI.out ?_); rintro e w2 ⟨r, rfl, hr, hb2⟩)
  go_ret
  exact ⟨by rw [← hr]; rfl, hb2⟩

/-- 'is it not within?'. -/
theorem least1_any (q : Nat) (n total : Int) (w : World) (hq : w.cell? ⟨q, 0, none⟩ = some (.int .i64 total)) :
    Calls Try.prog 29 #[.int .i64 n, .pointer (some ⟨q, 0, none⟩)] w fun e w' => e = .returned (.bool (!decide (0 ≤ n ∧ n ≤ total))) ∧ w' = w := by
  have HW := Lib.hid (fun W => withinV_any n total W)
  obtain ⟨V, hV⟩ : ∃ V, V = decide (0 ≤ n ∧ n ≤ total) := ⟨_, rfl⟩
  rw [← hV] at HW ⊢
  clear hV
  go_enter Try.func29, Try.ntmps29
  go_wp2_with (go_at_call 27; with_reducible (refine Calls.mono (HW.out _) ?_); rintro e w1 ⟨rfl, rfl⟩)
  go_ret
  exact ⟨rfl, rfl⟩

end Go.Proofs.Ytnpdffcplgjbnaa
