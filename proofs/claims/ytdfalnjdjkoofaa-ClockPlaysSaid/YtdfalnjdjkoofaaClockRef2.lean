/-
  The document's own ring (stowageref13): Touch, Drop, in, Any, Leave, New.
-/
import Derived.Test.YtdfalnjdjkoofaaClockRef
namespace Go.Proofs.Ytdfalnjdjkoofaa
open Go.RowKit

section
variable {base : Nat} {W : World} {q tg tc mg mc N : Nat} {s : Ck}
theorem RefR.drew (h : RefR base W q tg tc mg mc N s) : RefR base W.drew q tg tc mg mc N s := ⟨h.cell, h.tow, h.mow, h.d1, h.d2, h.d3, h.bq, h.ok, h.le⟩
theorem touchE_no {s : Ck} {n : Int} (h : touchE s n ≠ 0) : touchE s n = 4 ∧ touchS s n = s ∧ dropS s n = s := by
  refine ⟨?_, if_neg h, if_neg h⟩
  unfold touchE at h ⊢
  split
  · rfl
  · rename_i hn
    rw [if_neg hn] at h
    split
    · rename_i hc
      rw [if_pos hc] at h; exact absurd rfl h
    · rfl
theorem touchE_yes {s : Ck} {n : Int} (h : touchE s n = 0) : ¬ n < 0 ∧ s.t.contains n = true := by
  unfold touchE at h
  split at h
  · cases h
  · rename_i hn
    split at h
    · rename_i hc; exact ⟨hn, hc⟩
    · cases h
theorem touchE_why {s : Ck} {n : Int} (h : touchE s n ≠ 0) : n < 0 ∨ ¬ n < 0 ∧ s.t.contains n = false := by
  by_cases hn : n < 0
  · exact .inl hn
  · right
    refine ⟨hn, ?_⟩
    cases hc : s.t.contains n
    · rfl
    · exact absurd (by unfold touchE; rw [if_neg hn, hc]; rfl) h

set_option maxHeartbeats 1600000 in
theorem refTouch_any (h : RefR base W q tg tc mg mc N s) (n : Int) : Calls Try.prog 14 #[.pointer (some ⟨q, 0, none⟩), .int .i64 n] W fun e w' => e = .returned (.int .i64 (touchE s n)) ∧ RefR base w' q tg tc mg mc N (touchS s n) ∧ Away (RefF q tg mg) W w' := by
  have HF := Lib.hid (fun n W (h : RefR base W q tg tc mg mc N s) => refFind_any h n)
  have HH := Lib.hid h
  have ha0 := Away.refl (RefF q tg mg) W
  by_cases hE : touchE s n = 0
  · obtain ⟨hn, hc⟩ := touchE_yes hE
    obtain ⟨f1, f2⟩ := (findI_bounds h.ok n).1 hc
    have hS : touchS s n = ⟨s.t, s.m.set (s.t.idxOf n) true, s.h⟩ := if_pos hE
    have HFN : Hid (∀ W, RefR base W q tg tc mg mc N s → Calls Try.prog 24 #[.pointer (some ⟨q, 0, none⟩), .int .i64 n] W fun e w' => e = .returned (.int .i64 ((s.t.idxOf n : Nat) : Int)) ∧ w' = W) := fun W h => by
      have := HF.out n W h
      rwa [f1] at this
    rw [hE, hS]
    obtain ⟨i, hi⟩ : ∃ i, i = s.t.idxOf n := ⟨_, rfl⟩
    rw [← hi] at HFN f2 ⊢
    have i0 : (0 : Int) ≤ (i : Int) := by omega
    have i1 : (i : Int) < (N : Int) := by omega
    have i2 : ¬ (i : Int) < 0 := by omega
    have HQ := Lib.hid (HFN.out W.drew h.drew)
    have HQ0 := Lib.hid (HFN.out W h)
    obtain ⟨_, c1, _, _⟩ := h.cells
    have m1 := h.mc' f2
    have m2 := h.mow.frozenAt i
    have HR := Lib.hid (h.setM i true).drew
    have HW := Lib.hid (away_drew1 ((Away.refl (RefF q tg mg) W).set (g := mg) (.inr (.inr rfl)) i (.bool true)))
    clear h hE hS HF f1 hi hc f2 ha0 HFN HH
    go_enter Try.func14, Try.ntmps14
    go_wp2_with (go_at_call 24; with_reducible (refine Calls.mono HQ0.out ?_); rintro e w1 ⟨rfl, rfl⟩)
    go_region_with (go_at_call 24; with_reducible (refine Calls.mono HQ.out ?_); rintro e w1 ⟨rfl, hw1⟩; subst hw1)
    all_goals (go_wp2; go_ret; exact ⟨rfl, HR.out, HW.out⟩)
  · obtain ⟨e1, e2, _⟩ := touchE_no hE
    rw [e1, e2]
    rcases touchE_why hE with hn | ⟨hn, hc⟩
    · clear h hE HF e1 e2
      go_enter Try.func14, Try.ntmps14
      go_wp2
      go_ret
      exact ⟨rfl, HH.out, ha0⟩
    · have HFN := Lib.hid (HF.out n W h)
      rw [(findI_bounds h.ok n).2 hc] at HFN
      clear h hE HF e1 e2 hc
      go_enter Try.func14, Try.ntmps14
      go_wp2_with (go_at_call 24; with_reducible (refine Calls.mono HFN.out ?_); rintro e w1 ⟨rfl, rfl⟩)
      go_ret
      exact ⟨rfl, HH.out, ha0⟩

set_option maxHeartbeats 1600000 in
theorem refDrop_any (h : RefR base W q tg tc mg mc N s) (n : Int) : Calls Try.prog 16 #[.pointer (some ⟨q, 0, none⟩), .int .i64 n] W fun e w' => e = .returned (.int .i64 (touchE s n)) ∧ RefR base w' q tg tc mg mc N (dropS s n) ∧ Away (RefF q tg mg) W w' := by
  have HF := Lib.hid (fun n W (h : RefR base W q tg tc mg mc N s) => refFind_any h n)
  have HH := Lib.hid h
  have ha0 := Away.refl (RefF q tg mg) W
  by_cases hE : touchE s n = 0
  · obtain ⟨hn, hc⟩ := touchE_yes hE
    obtain ⟨f1, f2⟩ := (findI_bounds h.ok n).1 hc
    have hS : dropS s n = ⟨s.t.set (s.t.idxOf n) (-1), s.m, s.h⟩ := if_pos hE
    have HFN : Hid (∀ W, RefR base W q tg tc mg mc N s → Calls Try.prog 24 #[.pointer (some ⟨q, 0, none⟩), .int .i64 n] W fun e w' => e = .returned (.int .i64 ((s.t.idxOf n : Nat) : Int)) ∧ w' = W) := fun W h => by
      have := HF.out n W h
      rwa [f1] at this
    rw [hE, hS]
    obtain ⟨i, hi⟩ : ∃ i, i = s.t.idxOf n := ⟨_, rfl⟩
    rw [← hi] at HFN f2 ⊢
    have i0 : (0 : Int) ≤ (i : Int) := by omega
    have i1 : (i : Int) < (N : Int) := by omega
    have i2 : ¬ (i : Int) < 0 := by omega
    have HQ := Lib.hid (HFN.out W.drew h.drew)
    have HQ0 := Lib.hid (HFN.out W h)
    obtain ⟨c1, _, _, _⟩ := h.cells
    have m1 := h.tc' f2
    have m2 := h.tow.frozenAt i
    have HR := Lib.hid (h.setT i (-1)).drew
    have HW := Lib.hid (away_drew1 ((Away.refl (RefF q tg mg) W).set (g := tg) (.inr (.inl rfl)) i (.int .i64 (-1))))
    clear h hE hS HF f1 hi hc f2 ha0 HFN HH
    go_enter Try.func16, Try.ntmps16
    go_wp2_with (go_at_call 24; with_reducible (refine Calls.mono HQ0.out ?_); rintro e w1 ⟨rfl, rfl⟩)
    go_region_with (go_at_call 24; with_reducible (refine Calls.mono HQ.out ?_); rintro e w1 ⟨rfl, hw1⟩; subst hw1)
    all_goals (go_wp2; go_ret; exact ⟨rfl, HR.out, HW.out⟩)
  · obtain ⟨e1, _, e2⟩ := touchE_no hE
    rw [e1, e2]
    rcases touchE_why hE with hn | ⟨hn, hc⟩
    · clear h hE HF e1 e2
      go_enter Try.func16, Try.ntmps16
      go_wp2
      go_ret
      exact ⟨rfl, HH.out, ha0⟩
    · have HFN := Lib.hid (HF.out n W h)
      rw [(findI_bounds h.ok n).2 hc] at HFN
      clear h hE HF e1 e2 hc
      go_enter Try.func16, Try.ntmps16
      go_wp2_with (go_at_call 24; with_reducible (refine Calls.mono HFN.out ?_); rintro e w1 ⟨rfl, rfl⟩)
      go_ret
      exact ⟨rfl, HH.out, ha0⟩

/-! ### in, Any -/
set_option maxHeartbeats 800000 in
theorem refIn_any (A : Option Addr) (l : List Int) (c : Nat) (x : Int) (w : World) (hI : Ints w w.heap.size .i64 A l) (hll : l.length ≤ 17592186043904) : Calls Try.prog 31 #[.slice A l.length c, .int .i64 x] w fun e w' => e = .returned (.bool (l.contains x)) ∧ w' = w := by
  have HC : Hid (∀ i, i < l.length → ∃ b o, A = some ⟨b, o, none⟩ ∧ w.cell? ⟨b, o + i, none⟩ = some (.int .i64 (l.getD i 0))) := fun i hi => by
    obtain ⟨b, o, e, _, q⟩ := hI i hi
    exact ⟨b, o, e, q⟩
  have HY : Hid (∀ i, i < l.length → l.getD i 0 = x → l.contains x = true) := fun i hi e => contains_true (by rw [← e, List.getD_eq_getElem?_getD, List.getElem?_eq_getElem hi]; exact List.getElem_mem _)
  have HNO : Hid ((∀ j, j < l.length → l.getD j 0 ≠ x) → l.contains x = false) := fun hj => contains_false (fun hm => by
    obtain ⟨i, hi, e⟩ := List.getElem_of_mem hm
    refine hj i hi ?_
    rw [List.getD_eq_getElem?_getD, List.getElem?_eq_getElem hi]; exact e)
  obtain ⟨V, hV⟩ : ∃ V : Nat → Int, V = fun i => l.getD i 0 := ⟨_, rfl⟩
  have hVV : ∀ i, l.getD i 0 = V i := fun i => by rw [hV]
  simp only [hVV] at HC HY HNO
  obtain ⟨R, hR⟩ : ∃ R, R = l.contains x := ⟨_, rfl⟩
  rw [← hR] at HY HNO ⊢
  obtain ⟨N, hN⟩ : ∃ N, N = l.length := ⟨_, rfl⟩
  rw [← hN] at HC HY HNO hll ⊢
  have nll : (N : Int) ≤ 17592186043904 := by omega
  clear hI hV hVV hR hN
  go_enter Try.func31, Try.ntmps31
  go_wp2
  go_loopw [5] (fun i wr => ∃ k : Nat, k ≤ N ∧ i = .int .i64 k ∧ (∀ j, j < k → V j ≠ x) ∧ wr = w) (fun i _ => N - (intOf i).toNat)
  case atStart => exact ⟨0, Nat.zero_le _, rfl, fun j hj => absurd hj (Nat.not_lt_zero j), rfl⟩
  case round =>
    obtain ⟨k, hk, rfl, hno, rfl⟩ := hrel
    by_cases hlt : k < N
    · obtain ⟨b, o, rfl, c1⟩ := HC.out k hlt
      have k1 : (k : Int) < (N : Int) := by omega
      have k0 : (0 : Int) ≤ (k : Int) := by omega
      by_cases he : V k = x
      · have HR := Lib.hid (HY.out k hlt he)
        obtain ⟨y, hy⟩ : ∃ x, x = V k := ⟨_, rfl⟩
        rw [← hy] at c1 he
        have d1 : (y == x) = true := beq_iff_eq.2 he
        clear hno hy he
        go_wp2
        go_ret
        exact ⟨by rw [HR.out]; rfl, rfl⟩
      · have HN1 : Hid (∀ j, j < k + 1 → V j ≠ x) := fun j hj => by
          rcases Nat.lt_or_ge j k with g | g
          · exact hno j g
          · rw [show j = k by omega]; exact he
        obtain ⟨y, hy⟩ : ∃ x, x = V k := ⟨_, rfl⟩
        rw [← hy] at c1 he
        have d1 : (y == x) = false := beq_eq_false_iff_ne.2 he
        clear hno hy he
        go_wp2
        go_roundw
        case rel => first | exact ⟨k + 1, by omega, by go_num, HN1.out, by first | rfl | trivial⟩ | ((repeat apply Exists.intro); exact ⟨⟨k + 1, by omega, by go_num, HN1.out, by first | rfl | trivial⟩, rfl⟩)
        case measure => simp [intOf]; omega
    · have hkN : k = N := by omega
      subst hkN
      have HR := Lib.hid (HNO.out hno)
      clear hno
      go_wp2
      go_ret
      exact ⟨by rw [HR.out]; rfl, rfl⟩
theorem any_no {s : Ck} {may : List Int} (h : ∀ j, j < s.t.length → ¬ (0 ≤ s.t.getD j 0 ∧ may.contains (s.t.getD j 0) = true)) : anyK s may = false := by
  cases hb : anyK s may
  · rfl
  · obtain ⟨p, hp, hm⟩ := any_place hb
    exact absurd hm (h p hp)
set_option maxHeartbeats 1600000 in
theorem refAny_any (h : RefR base W q tg tc mg mc N s) (A : Option Addr) (l : List Int) (c : Nat) (hI : Ints W W.heap.size .i64 A l) (hll : l.length ≤ 17592186043904) : Calls Try.prog 18 #[.pointer (some ⟨q, 0, none⟩), .slice A l.length c] W fun e w' => e = .returned (.bool (anyK s l)) ∧ w' = W := by
  have HIN := Lib.hid (fun x => refIn_any A l c x W hI hll)
  obtain ⟨c0, _, _, _⟩ := h.cells
  have HT := Lib.hid (fun i (hi : i < N) => h.tc' hi)
  have hle := h.le
  have hlen := h.ok.len
  have HY : Hid (∀ i, i < N → 0 ≤ s.t.getD i 0 → l.contains (s.t.getD i 0) = true → anyK s l = true) := fun i hi h1 h2 => place_any (p := i) (by omega) ⟨h1, h2⟩
  have HNO : Hid ((∀ j, j < N → ¬ (0 ≤ s.t.getD j 0 ∧ l.contains (s.t.getD j 0) = true)) → anyK s l = false) := fun hj => any_no (fun j hj2 => hj j (by omega))
  obtain ⟨V, hV⟩ : ∃ V : Nat → Int, V = fun i => s.t.getD i 0 := ⟨_, rfl⟩
  have hVV : ∀ i, s.t.getD i 0 = V i := fun i => by rw [hV]
  simp only [hVV] at HT HY HNO
  obtain ⟨R, hR⟩ : ∃ R, R = anyK s l := ⟨_, rfl⟩
  rw [← hR] at HY HNO ⊢
  obtain ⟨CT, hCT⟩ : ∃ C : Int → Bool, C = fun x => l.contains x := ⟨_, rfl⟩
  have hCC : ∀ x, l.contains x = CT x := fun x => by rw [hCT]
  simp only [hCC] at HIN HY HNO
  obtain ⟨L, hL⟩ : ∃ N, N = l.length := ⟨_, rfl⟩
  rw [← hL] at HIN ⊢
  clear h hlen hI hV hVV hR hCT hCC hL
  go_enter Try.func18, Try.ntmps18
  go_wp2
  go_loopw [5] (fun i wr => ∃ k : Nat, k ≤ N ∧ i = .int .i64 k ∧ (∀ j, j < k → ¬ (0 ≤ V j ∧ CT (V j) = true)) ∧ wr = W) (fun i _ => N - (intOf i).toNat)
  case atStart => exact ⟨0, Nat.zero_le _, rfl, fun j hj => absurd hj (Nat.not_lt_zero j), rfl⟩
  case round =>
    obtain ⟨k, hk, rfl, hno, rfl⟩ := hrel
    by_cases hlt : k < N
    · have c1 := HT.out k hlt
      have k1 : (k : Int) < (N : Int) := by omega
      have k0 : (0 : Int) ≤ (k : Int) := by omega
      have HI1 := Lib.hid (HIN.out (V k))
      have HSTEP : Hid (¬ (0 ≤ V k ∧ CT (V k) = true) → ∀ j, j < k + 1 → ¬ (0 ≤ V j ∧ CT (V j) = true)) := fun he j hj => by
        rcases Nat.lt_or_ge j k with g | g
        · exact hno j g
        · rw [show j = k by omega]; exact he
      have HYK := Lib.hid (HY.out k hlt)
      obtain ⟨y, hy⟩ : ∃ x, x = V k := ⟨_, rfl⟩
      rw [← hy] at c1 HI1 HSTEP HYK
      clear hno hy
      by_cases h0 : 0 ≤ y
      · have d0 : decide (0 ≤ y) = true := decide_eq_true h0
        cases hb : CT y with
        | true =>
          have HR := Lib.hid (HYK.out h0 hb)
          rw [hb] at HI1
          clear hb HSTEP HYK
          go_wp2_with (go_at_call 31; with_reducible (refine Calls.mono HI1.out ?_); rintro e w1 ⟨rfl, rfl⟩)
          go_ret
          exact ⟨by rw [HR.out]; rfl, rfl⟩
        | false =>
          have HN1 := Lib.hid (HSTEP.out (fun e => by rw [hb] at e; cases e.2))
          rw [hb] at HI1
          clear hb HSTEP HYK
          go_wp2_with (go_at_call 31; with_reducible (refine Calls.mono HI1.out ?_); rintro e w1 ⟨rfl, rfl⟩)
          go_roundw
          case rel => first | exact ⟨k + 1, by omega, by go_num, HN1.out, by first | rfl | trivial⟩ | ((repeat apply Exists.intro); exact ⟨⟨k + 1, by omega, by go_num, HN1.out, by first | rfl | trivial⟩, rfl⟩)
          case measure => simp [intOf]; omega
      · have d0 : decide (0 ≤ y) = false := decide_eq_false h0
        have HN1 := Lib.hid (HSTEP.out (fun e => h0 e.1))
        clear HSTEP HYK
        go_wp2
        go_roundw
        case rel => first | exact ⟨k + 1, by omega, by go_num, HN1.out, by first | rfl | trivial⟩ | ((repeat apply Exists.intro); exact ⟨⟨k + 1, by omega, by go_num, HN1.out, by first | rfl | trivial⟩, rfl⟩)
        case measure => simp [intOf]; omega
    · have hkN : k = N := by omega
      subst hkN
      have HR := Lib.hid (HNO.out hno)
      clear hno
      go_wp2
      go_ret
      exact ⟨by rw [HR.out]; rfl, rfl⟩

/-! ### Leave -/
theorem step_pass {s : Ck} {may : List Int} (h : s.t.getD s.h 0 < 0 ∨ may.contains (s.t.getD s.h 0) = false) : stepK may s = (⟨s.t, s.m, (s.h + 1) % s.t.length⟩, none) := if_pos h
theorem step_unmark {s : Ck} {may : List Int} (h : ¬ (s.t.getD s.h 0 < 0 ∨ may.contains (s.t.getD s.h 0) = false)) (hm : s.m.getD s.h false = true) : stepK may s = (⟨s.t, s.m.set s.h false, (s.h + 1) % s.t.length⟩, none) := by
  unfold stepK
  rw [if_neg h, if_pos hm]
theorem step_leave {s : Ck} {may : List Int} (h : ¬ (s.t.getD s.h 0 < 0 ∨ may.contains (s.t.getD s.h 0) = false)) (hm : s.m.getD s.h false = false) : stepK may s = (⟨s.t.set s.h (-1), s.m, (s.h + 1) % s.t.length⟩, some (s.t.getD s.h 0)) := by
  unfold stepK
  rw [if_neg h, if_neg (by rw [hm]; decide)]
theorem go_next {may : List Int} {f : Nat} {s s' : Ck} (h : stepK may s = (s', none)) : goK may (f + 1) s = goK may f s' := by
  show (match stepK may s with | (s', some n) => (s', some n) | (s', none) => goK may f s') = _
  rw [h]
theorem go_last {may : List Int} {f : Nat} {s s' : Ck} {n : Int} (h : stepK may s = (s', some n)) : goK may (f + 1) s = (s', some n) := by
  show (match stepK may s with | (s', some n) => (s', some n) | (s', none) => goK may f s') = _
  rw [h]
set_option maxHeartbeats 3200000 in
set_option maxRecDepth 20000 in
theorem refLeave_any (h : RefR base W q tg tc mg mc N s) (A : Option Addr) (l : List Int) (c : Nat) (hI : Ints W W.heap.size .i64 A l) (hF : 0 < l.length → ∀ b o, A = some ⟨b, o, none⟩ → ¬ RefF q tg mg b) (hany : anyK s l = true) (hll : l.length ≤ 17592186043904) :
    Calls Try.prog 19 #[.pointer (some ⟨q, 0, none⟩), .slice A l.length c] W fun e w' => e = .returned (.tuple #[.int .i64 (leaveN s l), .int .i64 0]) ∧ RefR base w' q tg tc mg mc N (leaveS s l) ∧ Away (RefF q tg mg) W w' := by
  obtain ⟨n, hn⟩ := leave_some h.ok hany
  have hgo : goK l (2 * N + 1) s = ((goK l (2 * N + 1) s).1, some n) := by
    have h2 : leaveR s l = goK l (2 * s.t.length + 1) s := by unfold leaveR; rw [if_pos hany]
    rw [h2, h.ok.len] at hn; exact hn
  have hN : leaveN s l = n := by unfold leaveN; rw [hn]; rfl
  have hS : leaveS s l = (goK l (2 * N + 1) s).1 := by unfold leaveS; rw [hn, h.ok.len]
  rw [hN, hS]
  obtain ⟨S2, hS2⟩ : ∃ S, S = (goK l (2 * N + 1) s).1 := ⟨_, rfl⟩
  rw [← hS2] at hgo ⊢
  have HIN : Hid (∀ x W', Away (RefF q tg mg) W W' → Calls Try.prog 31 #[.slice A l.length c, .int .i64 x] W' fun e w' => e = .returned (.bool (l.contains x)) ∧ w' = W') := fun x W' ha => refIn_any A l c x W' ((hI.away ha (Nat.le_refl _) hF).more ha.size) hll
  have HN1 := Lib.hid h.ok.pos
  have HN2 := Lib.hid h.le
  have HGO := Lib.hid hgo
  have HH := Lib.hid h
  have HPASS := Lib.hid (fun (s : Ck) (h : s.t.getD s.h 0 < 0 ∨ l.contains (s.t.getD s.h 0) = false) (f : Nat) => go_next (f := f) (step_pass (may := l) h))
  have HUN := Lib.hid (fun (s : Ck) (h : ¬ (s.t.getD s.h 0 < 0 ∨ l.contains (s.t.getD s.h 0) = false)) (hm : s.m.getD s.h false = true) (f : Nat) => go_next (f := f) (step_unmark (may := l) h hm))
  have HLV := Lib.hid (fun (s : Ck) (h : ¬ (s.t.getD s.h 0 < 0 ∨ l.contains (s.t.getD s.h 0) = false)) (hm : s.m.getD s.h false = false) (f : Nat) => go_last (f := f) (step_leave (may := l) h hm))
  have HZ : Hid (∀ s : Ck, goK l 0 s = (s, none)) := fun _ => rfl
  obtain ⟨GK, hGK⟩ : ∃ G, G = goK l := ⟨_, rfl⟩
  rw [← hGK] at HGO HPASS HUN HLV HZ
  obtain ⟨CT, hCT⟩ : ∃ C : Int → Bool, C = fun x => l.contains x := ⟨_, rfl⟩
  have hCC : ∀ x, l.contains x = CT x := fun x => by rw [hCT]
  simp only [hCC] at HIN HPASS HUN HLV
  obtain ⟨L, hL⟩ : ∃ N, N = l.length := ⟨_, rfl⟩
  rw [← hL] at HIN ⊢
  have n200 : (N : Int) ≤ 200 := by have := h.le; omega
  have n1 : (1 : Int) ≤ (N : Int) := by have := h.ok.pos; omega
  have nz : ((N : Int) == 0) = false := beq_eq_false_iff_ne.2 (by omega)
  have vN : IntKind.i64.wrap (2 * (N : Int)) = 2 * (N : Int) := IntWalk.i64_in _ (by omega)
  have vN1 : IntKind.i64.wrap (2 * (N : Int) + 1) = 2 * (N : Int) + 1 := IntWalk.i64_in _ (by omega)
  clear h hn hgo hN hS hS2 hI hF hany hGK hCT hCC hL
  go_enter Try.func19, Try.ntmps19
  go_wp2
  go_loopw [6] (fun i wr => ∃ (k : Nat) (s' : Ck), k ≤ 2 * N + 1 ∧ i = .int .i64 k ∧ Hid (RefR base wr q tg tc mg mc N s' ∧ GK (2 * N + 1 - k) s' = (S2, some n) ∧ Away (RefF q tg mg) W wr)) (fun i _ => 2 * N + 1 - (intOf i).toNat)
  case atStart => exact ⟨0, s, Nat.zero_le _, rfl, HH.out, HGO.out, Away.refl _ _⟩
  case round =>
    clear HH HGO
    obtain ⟨k, s', hk, rfl, hR⟩ := hrel
    obtain ⟨hr, hg, ha⟩ := hR.out
    obtain ⟨c0, c1, c2, fz⟩ := hr.cells
    by_cases hlt : k < 2 * N + 1
    · have k1 : (k : Int) < 2 * (N : Int) + 1 := by omega
      have k0 : (0 : Int) ≤ (k : Int) := by omega
      have hf : 2 * N + 1 - k = (2 * N + 1 - (k + 1)) + 1 := by omega
      rw [hf] at hg
      have hhd := hr.ok.hnd
      have ct := hr.tc' hhd
      have cm := hr.mc' hhd
      have ft := hr.tow.frozenAt s'.h
      have fm := hr.mow.frozenAt s'.h
      have hlen := hr.ok.len
      have hmod : (s'.h + 1) % N < N := Nat.mod_lt _ (by omega)
      have q1 : ((s'.h : Int) + 1).tmod (N : Int) = (((s'.h + 1) % N : Nat) : Int) := by rw [Int.tmod_eq_emod_of_nonneg (by omega)]; rfl
      have q2 : ((s'.h : Int) + 1) % (N : Int) = (((s'.h + 1) % N : Nat) : Int) := rfl
      have q3 : IntKind.i64.wrap ((s'.h : Int) + 1) = (s'.h : Int) + 1 := IntWalk.i64_in _ (by omega)
      have HRH := Lib.hid (hr.setH hmod)
      have haH := ha.set (F := RefF q tg mg) (g := q) (.inl rfl) 2 (.int .i64 (((s'.h + 1) % N : Nat) : Int))
      have HAH := Lib.hid haH
      have hd1 := hr.d1
      have hd2 := hr.d2
      have HPS := Lib.hid (fun h => HPASS.out s' h (2 * N + 1 - (k + 1)))
      have HUS := Lib.hid (fun h hm => HUN.out s' h hm (2 * N + 1 - (k + 1)))
      have HLS := Lib.hid (fun h hm => HLV.out s' h hm (2 * N + 1 - (k + 1)))
      rw [hlen] at HPS HUS HLS
      have HG := Lib.hid hg
      have HI1 := Lib.hid (HIN.out (s'.t.getD s'.h 0) _ haH)
      obtain ⟨h', hh'⟩ : ∃ x, x = (s'.h + 1) % N := ⟨_, rfl⟩
      rw [← hh'] at q1 q2 HRH HAH HPS HUS HLS HI1 haH
      have q4 : IntKind.i64.wrap (((s'.h : Int) + 1) % (N : Int)) = (h' : Int) := by rw [q2]; exact IntWalk.i64_in _ (by omega)
      obtain ⟨hd, hhd2⟩ : ∃ x, x = s'.h := ⟨_, rfl⟩
      obtain ⟨y, hy⟩ : ∃ x, x = s'.t.getD s'.h 0 := ⟨_, rfl⟩
      obtain ⟨mk, hmk⟩ : ∃ x, x = s'.m.getD s'.h false := ⟨_, rfl⟩
      rw [← hy] at ct HI1
      rw [← hmk] at cm
      simp only [← hy, ← hmk] at HPS HUS HLS
      rw [← hhd2] at c2 ct cm ft fm q1 q3 q4 hhd
      have HHD := Lib.hid hhd2
      have y0 : (0 : Int) ≤ (hd : Int) := by omega
      have y1 : (hd : Int) < (N : Int) := by omega
      have hfu : 2 * N + 1 - (k + 1) = 2 * N + 1 - (k + 1) := rfl
      clear hR hr hg ha hf hlen hmod q2 haH hh' hhd2 hy hmk hfu HPASS HUN HLV
      by_cases h0 : y < 0
      · have d0 : decide (y < 0) = true := decide_eq_true h0
        have HE := Lib.hid ((HPS.out (.inl h0)).symm.trans HG.out)
        go_wp2
        go_roundw
        case rel => first | exact ⟨k + 1, _, by omega, by go_num, HRH.out, HE.out, HAH.out⟩ | ((repeat apply Exists.intro); exact ⟨⟨k + 1, _, by omega, by go_num, HRH.out, HE.out, HAH.out⟩, rfl⟩)
        case measure => simp [intOf]; omega
      · have d0 : decide (y < 0) = false := decide_eq_false h0
        cases hb : CT y with
        | false =>
          have HE := Lib.hid ((HPS.out (.inr hb)).symm.trans HG.out)
          rw [hb] at HI1
          clear hb HPS HUS HLS
          go_wp2_with (go_at_call 31; with_reducible (refine Calls.mono HI1.out ?_); rintro e w1 ⟨rfl, hw1⟩; subst hw1)
          go_roundw
          case rel => first | exact ⟨k + 1, _, by omega, by go_num, HRH.out, HE.out, HAH.out⟩ | ((repeat apply Exists.intro); exact ⟨⟨k + 1, _, by omega, by go_num, HRH.out, HE.out, HAH.out⟩, rfl⟩)
          case measure => simp [intOf]; omega
        | true =>
          have hcond : ¬ (y < 0 ∨ CT y = false) := fun e => e.elim h0 (fun e => by rw [hb] at e; cases e)
          rw [hb] at HI1
          cases mk with
          | true =>
            have HE := Lib.hid ((HUS.out hcond rfl).symm.trans HG.out)
            have HRM := Lib.hid (HRH.out.setM hd false)
            have HAM := Lib.hid (HAH.out.set (F := RefF q tg mg) (g := mg) (.inr (.inr rfl)) hd (.bool false))
            rw [← HHD.out] at HE
            clear hb hcond HPS HUS HLS HG
            go_wp2_with (go_at_call 31; with_reducible (refine Calls.mono HI1.out ?_); rintro e w1 ⟨rfl, hw1⟩; subst hw1)
            go_roundw
            case rel => first | exact ⟨k + 1, _, by omega, by go_num, HRM.out, HE.out, HAM.out⟩ | ((repeat apply Exists.intro); exact ⟨⟨k + 1, _, by omega, by go_num, HRM.out, HE.out, HAM.out⟩, rfl⟩)
            case measure => simp [intOf]; omega
          | false =>
            have HE := (HLS.out hcond rfl).symm.trans HG.out
            injection HE with e1 e2
            injection e2 with e2
            have HRT := Lib.hid (HRH.out.setT hd (-1))
            have HAT := Lib.hid (HAH.out.set (F := RefF q tg mg) (g := tg) (.inr (.inl rfl)) hd (.int .i64 (-1)))
            rw [← HHD.out] at e1
            have E1 := Lib.hid e1
            have E2 := Lib.hid e2
            clear hb hcond HPS HUS HLS HG e1 e2
            go_wp2_with (go_at_call 31; with_reducible (refine Calls.mono HI1.out ?_); rintro e w1 ⟨rfl, hw1⟩; subst hw1)
            go_ret2
            exact ⟨by rw [← E2.out]; rfl, by rw [← E1.out]; exact HRT.out, HAT.out⟩
    · have hk2 : 2 * N + 1 - k = 0 := by omega
      rw [hk2, HZ.out] at hg
      injection hg with _ hg
      cases hg
end

end Go.Proofs.Ytdfalnjdjkoofaa
