/-
  The document's own ring (stowageref13): find, Put, Touch, Drop, in, Any.
-/
import Derived.Test.YtdfalnjdjkoofaaClockAll
import Derived.Deep.RegionWith
namespace Go.Proofs.Ytdfalnjdjkoofaa
open Go.RowKit

structure RefR (base : Nat) (W : World) (q tg tc mg mc N : Nat) (s : Ck) : Prop where
  cell : W.heap[q]? = some (.cells #[.slice (some ⟨tg, 0, none⟩) N tc, .slice (some ⟨mg, 0, none⟩) N mc, .int .i64 (s.h : Int)] 43 (0, 0))
  tow : W.ownsRow base 3 1 (.slice (some ⟨tg, 0, none⟩) N tc) N (s.t.map (Value.int .i64))
  mow : W.ownsRow base 4 1 (.slice (some ⟨mg, 0, none⟩) N mc) N (s.m.map Value.bool)
  d1 : tg ≠ q
  d2 : mg ≠ q
  d3 : tg ≠ mg
  bq : base ≤ q
  ok : s.ok N
  le : N ≤ 200
/-- The blocks of the document's ring. -/
def RefF (q tg mg : Nat) : Nat → Prop := fun b => b = q ∨ b = tg ∨ b = mg
section
variable {base : Nat} {W : World} {q tg tc mg mc N : Nat} {s : Ck}
theorem RefR.tc' (h : RefR base W q tg tc mg mc N s) {i : Nat} (hi : i < N) : W.cell? ⟨tg, i, none⟩ = some (.int .i64 (s.t.getD i 0)) := own_atK h.tow (by rw [h.ok.len]; exact hi)
theorem RefR.mc' (h : RefR base W q tg tc mg mc N s) {i : Nat} (hi : i < N) : W.cell? ⟨mg, i, none⟩ = some (.bool (s.m.getD i false)) := by
  rw [h.mow.cellAt i (by omega), List.getElem?_map, List.getElem?_eq_getElem (by rw [h.ok.mrk]; exact hi), List.getD_eq_getElem?_getD, List.getElem?_eq_getElem (by rw [h.ok.mrk]; exact hi)]; rfl
theorem RefR.cells (h : RefR base W q tg tc mg mc N s) : W.cell? ⟨q, 0, none⟩ = some (.slice (some ⟨tg, 0, none⟩) N tc) ∧ W.cell? ⟨q, 1, none⟩ = some (.slice (some ⟨mg, 0, none⟩) N mc) ∧ W.cell? ⟨q, 2, none⟩ = some (.int .i64 (s.h : Int)) ∧ W.frozen? ⟨q, 2, none⟩ = false :=
  ⟨cell_of_row W q 0 _ _ _ h.cell, cell_of_row W q 1 _ _ _ h.cell, cell_of_row W q 2 _ _ _ h.cell, frozen_of_row W q 2 _ _ h.cell⟩
theorem RefR.setT (h : RefR base W q tg tc mg mc N s) (i : Nat) (x : Int) : RefR base (W.setCell ⟨tg, i, none⟩ (.int .i64 x)) q tg tc mg mc N ⟨s.t.set i x, s.m, s.h⟩ := by
  have h1 := (h.tow.stored i (.int .i64 x)).1
  rw [← List.map_set] at h1
  exact ⟨(setc_other W tg q i _ h.d1).trans h.cell, h1, own_heap h.mow (setc_other W tg mg i _ h.d3), h.d1, h.d2, h.d3, h.bq, ⟨by simp [h.ok.len], h.ok.mrk, h.ok.pos, h.ok.hnd⟩, h.le⟩
theorem RefR.setM (h : RefR base W q tg tc mg mc N s) (i : Nat) (x : Bool) : RefR base (W.setCell ⟨mg, i, none⟩ (.bool x)) q tg tc mg mc N ⟨s.t, s.m.set i x, s.h⟩ := by
  have h1 := (h.mow.stored i (.bool x)).1
  rw [← List.map_set] at h1
  exact ⟨(setc_other W mg q i _ h.d2).trans h.cell, own_heap h.tow (setc_other W mg tg i _ (fun e => h.d3 e.symm)), h1, h.d1, h.d2, h.d3, h.bq, ⟨h.ok.len, by simp [h.ok.mrk], h.ok.pos, h.ok.hnd⟩, h.le⟩
theorem RefR.setH (h : RefR base W q tg tc mg mc N s) {i : Nat} (hi : i < N) : RefR base (W.setCell ⟨q, 2, none⟩ (.int .i64 (i : Int))) q tg tc mg mc N ⟨s.t, s.m, i⟩ :=
  ⟨setc_same W q 2 _ _ _ h.cell, own_heap h.tow (setc_other W q tg 2 _ (fun e => h.d1 e.symm)), own_heap h.mow (setc_other W q mg 2 _ (fun e => h.d2 e.symm)), h.d1, h.d2, h.d3, h.bq, ⟨h.ok.len, h.ok.mrk, h.ok.pos, hi⟩, h.le⟩
theorem RefR.drewN (h : RefR base W q tg tc mg mc N s) (n : Nat) : RefR base (W.drewN n) q tg tc mg mc N s := ⟨h.cell, h.tow, h.mow, h.d1, h.d2, h.d3, h.bq, h.ok, h.le⟩
theorem RefR.away {W' : World} {F : Nat → Prop} (h : RefR base W q tg tc mg mc N s) (ha : Away F W W') (hq : ¬ F q) (ht : ¬ F tg) (hm : ¬ F mg) : RefR base W' q tg tc mg mc N s :=
  ⟨(ha.block q (Array.getElem?_eq_some_iff.1 h.cell).1 hq).trans h.cell, own_heap h.tow (ha.block tg (h.tow.lt tg rfl).2 ht), own_heap h.mow (ha.block mg (h.mow.lt mg rfl).2 hm), h.d1, h.d2, h.d3, h.bq, h.ok, h.le⟩

/-! ### find -/
def findI (s : Ck) (n : Int) : Int := if s.t.contains n then ((s.t.idxOf n : Nat) : Int) else -1
set_option maxHeartbeats 800000 in
theorem refFind_any (h : RefR base W q tg tc mg mc N s) (n : Int) : Calls Try.prog 24 #[.pointer (some ⟨q, 0, none⟩), .int .i64 n] W fun e w' => e = .returned (.int .i64 (findI s n)) ∧ w' = W := by
  obtain ⟨c0, _, _, _⟩ := h.cells
  have HT := Lib.hid (fun i (hi : i < N) => h.tc' hi)
  have hl := h.ok.len
  have hle := h.le
  have HF1 : Hid (∀ i, i < N → (∀ j, j < i → s.t.getD j 0 ≠ n) → s.t.getD i 0 = n → findI s n = (i : Int)) := fun i hi hj he => by
    have hm : n ∈ s.t := by rw [← he, List.getD_eq_getElem?_getD, List.getElem?_eq_getElem (by omega)]; exact List.getElem_mem _
    have hc := contains_true hm
    have hx := idx_at hc
    have hxl := idx_lt hc
    have e : s.t.idxOf n = i := by
      rcases Nat.lt_trichotomy (s.t.idxOf n) i with g | g | g
      · exact absurd hx (hj _ g)
      · exact g
      · have h3 := List.not_of_lt_findIdx (xs := s.t) (p := fun x => x == n) (i := i) (by unfold List.idxOf at g; exact g)
        rw [List.getD_eq_getElem?_getD, List.getElem?_eq_getElem (by omega), Option.getD_some] at he
        rw [he] at h3
        simp at h3
    unfold findI
    rw [hc, if_pos rfl, e]
  have HF2 : Hid ((∀ j, j < N → s.t.getD j 0 ≠ n) → findI s n = -1) := fun hj => by
    have hm : n ∉ s.t := fun hm => by
      obtain ⟨i, hi, e⟩ := List.getElem_of_mem hm
      refine hj i (by omega) ?_
      rw [List.getD_eq_getElem?_getD, List.getElem?_eq_getElem hi]; exact e
    unfold findI
    rw [contains_false hm]; rfl
  obtain ⟨V, hV⟩ : ∃ V : Nat → Int, V = fun i => s.t.getD i 0 := ⟨_, rfl⟩
  have hVV : ∀ i, s.t.getD i 0 = V i := fun i => by rw [hV]
  simp only [hVV] at HT HF1 HF2
  obtain ⟨R, hR⟩ : ∃ R, R = findI s n := ⟨_, rfl⟩
  rw [← hR] at HF1 HF2 ⊢
  have n200 : (N : Int) ≤ 200 := by omega
  clear h hl hV hVV hR
  go_enter Try.func24, Try.ntmps24
  go_wp2
  go_loopw [5] (fun i wr => ∃ k : Nat, k ≤ N ∧ i = .int .i64 k ∧ (∀ j, j < k → V j ≠ n) ∧ wr = W) (fun i _ => N - (intOf i).toNat)
  case atStart => exact ⟨0, Nat.zero_le _, rfl, fun j hj => absurd hj (Nat.not_lt_zero j), rfl⟩
  case round =>
    obtain ⟨k, hk, rfl, hno, rfl⟩ := hrel
    by_cases hlt : k < N
    · have c1 := HT.out k hlt
      have k1 : (k : Int) < (N : Int) := by omega
      have k0 : (0 : Int) ≤ (k : Int) := by omega
      by_cases he : V k = n
      · have HR := Lib.hid (HF1.out k hlt hno he)
        obtain ⟨x, hx⟩ : ∃ x, x = V k := ⟨_, rfl⟩
        rw [← hx] at c1 he
        have d1 : (x == n) = true := beq_iff_eq.2 he
        clear hno hx he
        go_wp2
        go_ret
        exact ⟨by rw [HR.out]; rfl, rfl⟩
      · have HNO : Hid (∀ j, j < k + 1 → V j ≠ n) := fun j hj => by
          rcases Nat.lt_or_ge j k with g | g
          · exact hno j g
          · rw [show j = k by omega]; exact he
        obtain ⟨x, hx⟩ : ∃ x, x = V k := ⟨_, rfl⟩
        rw [← hx] at c1 he
        have d1 : (x == n) = false := beq_eq_false_iff_ne.2 he
        clear hno hx he
        go_wp2
        go_roundw
        case rel => first | exact ⟨k + 1, by omega, by go_num, HNO.out, by first | rfl | trivial⟩ | ((repeat apply Exists.intro); exact ⟨⟨k + 1, by omega, by go_num, HNO.out, by first | rfl | trivial⟩, rfl⟩)
        case measure => simp [intOf]; omega
    · have hkN : k = N := by omega
      subst hkN
      have HR := Lib.hid (HF2.out hno)
      clear hno
      go_wp2
      go_ret
      exact ⟨by rw [HR.out]; rfl, rfl⟩
theorem findI_bounds (h : s.ok N) (n : Int) : (s.t.contains n = true → findI s n = ((s.t.idxOf n : Nat) : Int) ∧ s.t.idxOf n < N) ∧ (s.t.contains n = false → findI s n = -1) := by
  constructor
  · intro hc
    have := idx_lt hc
    rw [h.len] at this
    exact ⟨by unfold findI; rw [if_pos hc], this⟩
  · intro hc
    unfold findI
    rw [hc]; rfl
/-! ### Put -/
set_option maxHeartbeats 1600000 in
theorem refPut_any (h : RefR base W q tg tc mg mc N s) (n : Int) : Calls Try.prog 12 #[.pointer (some ⟨q, 0, none⟩), .int .i64 n] W fun e w' => e = .returned (.tuple #[.int .i64 (putA s n), .int .i64 (putE s n)]) ∧ RefR base w' q tg tc mg mc N (putS s n) ∧ Away (RefF q tg mg) W w' := by
  have HF := Lib.hid (fun n => refFind_any h n)
  obtain ⟨c0, c1, _, _⟩ := h.cells
  have HH := Lib.hid h
  have ha0 := Away.refl (RefF q tg mg) W
  by_cases hn : n < 0
  · have hE : putE s n = 1 := if_pos hn
    have hA : putA s n = 0 := by unfold putA; rw [if_neg (by rw [hE]; decide)]
    have hS : putS s n = s := by unfold putS; rw [if_neg (by rw [hE]; decide)]
    rw [hE, hA, hS]
    clear h hE hA hS
    go_enter Try.func12, Try.ntmps12
    go_wp2
    go_ret2
    exact ⟨rfl, HH.out, ha0⟩
  · cases hc : s.t.contains n with
    | true =>
      have hE : putE s n = 5 := by unfold putE; rw [if_neg hn, hc]; rfl
      have hA : putA s n = 0 := by unfold putA; rw [if_neg (by rw [hE]; decide)]
      have hS : putS s n = s := by unfold putS; rw [if_neg (by rw [hE]; decide)]
      obtain ⟨f1, f2⟩ := (findI_bounds h.ok n).1 hc
      rw [hE, hA, hS]
      have HFN := Lib.hid (HF.out n)
      rw [f1] at HFN
      obtain ⟨i, hi⟩ : ∃ i, i = s.t.idxOf n := ⟨_, rfl⟩
      rw [← hi] at HFN
      have i0 : ¬ (i : Int) < 0 := by omega
      have i1 : (0 : Int) ≤ (i : Int) := by omega
      clear h hE hA hS HF f1 f2 hi hc
      go_enter Try.func12, Try.ntmps12
      go_wp2_with (go_at_call 24; with_reducible (refine Calls.mono HFN.out ?_); rintro e w1 ⟨rfl, rfl⟩)
      go_ret2
      exact ⟨rfl, HH.out, ha0⟩
    | false =>
      have HFN := Lib.hid (HF.out n)
      rw [(findI_bounds h.ok n).2 hc] at HFN
      have HFM := Lib.hid (HF.out (-1))
      cases hc2 : s.t.contains (-1) with
      | false =>
        have hE : putE s n = 6 := by unfold putE; rw [if_neg hn, hc, hc2]; rfl
        have hA : putA s n = 0 := by unfold putA; rw [if_neg (by rw [hE]; decide)]
        have hS : putS s n = s := by unfold putS; rw [if_neg (by rw [hE]; decide)]
        rw [(findI_bounds h.ok (-1)).2 hc2] at HFM
        rw [hE, hA, hS]
        clear h hE hA hS HF hc hc2
        go_enter Try.func12, Try.ntmps12
        go_wp2_with (first
          | (go_at_call 24; with_reducible (refine Calls.mono HFN.out ?_); rintro e w1 ⟨rfl, rfl⟩)
          | (go_at_call 24; with_reducible (refine Calls.mono HFM.out ?_); rintro e w1 ⟨rfl, rfl⟩))
        go_ret2
        exact ⟨rfl, HH.out, ha0⟩
      | true =>
        have hE : putE s n = 0 := by unfold putE; rw [if_neg hn, hc, hc2]; rfl
        have hA : putA s n = ((s.t.idxOf (-1) : Nat) : Int) := by unfold putA; rw [if_pos hE]
        have hS : putS s n = ⟨s.t.set (s.t.idxOf (-1)) n, s.m.set (s.t.idxOf (-1)) true, s.h⟩ := by unfold putS; rw [if_pos hE]
        obtain ⟨f1, f2⟩ := (findI_bounds h.ok (-1)).1 hc2
        rw [f1] at HFM
        rw [hE, hA, hS]
        obtain ⟨i, hi⟩ : ∃ i, i = s.t.idxOf (-1) := ⟨_, rfl⟩
        rw [← hi] at HFM f2 ⊢
        have i0 : (0 : Int) ≤ (i : Int) := by omega
        have i1 : (i : Int) < (N : Int) := by omega
        have i2 : ¬ (i : Int) < 0 := by omega
        have t1 := h.tc' f2
        have t2 := h.tow.frozenAt i
        have m1 := h.mc' f2
        have m2 := h.mow.frozenAt i
        have HR := Lib.hid ((h.setT i n).setM i true)
        have HW := Lib.hid (((Away.refl (RefF q tg mg) W).set (g := tg) (.inr (.inl rfl)) i (.int .i64 n)).set (g := mg) (.inr (.inr rfl)) i (.bool true))
        have d1 := h.d1
        have d2 := h.d2
        have d3 := h.d3
        clear h hE hA hS HF f1 f2 hi hc hc2 ha0 HH
        go_enter Try.func12, Try.ntmps12
        go_wp2_with (first
          | (go_at_call 24; with_reducible (refine Calls.mono HFN.out ?_); rintro e w1 ⟨rfl, rfl⟩)
          | (go_at_call 24; with_reducible (refine Calls.mono HFM.out ?_); rintro e w1 ⟨rfl, rfl⟩))
        go_ret2
        exact ⟨rfl, HR.out, HW.out⟩
end

end Go.Proofs.Ytdfalnjdjkoofaa
