/-
  rate's asked, Take, Ready.
-/
import Derived.Test.YtcliampjgbmeaaaRateC4
import Derived.Deep.CutRange
namespace Go.Proofs.Ytcliampjgbmeaaa
open Go.RowKit

def askE (k : Bk) (n m : Int) : Int := if fillE k m = 0 then (if n < 0 ∨ n > k.b then 7 else 0) else fillE k m
def askK (k : Bk) (n m : Int) : Bk := if askE k n m = 0 then ⟨k.r, k.b, lev k m, m⟩ else zeroK
theorem ask_ok {k : Bk} {n m : Int} : askE k n m = 0 ↔ soundB k = true ∧ k.a ≤ m ∧ m ≤ 1099511627776 ∧ 0 ≤ n ∧ n ≤ k.b := by
  unfold askE
  by_cases hf : fillE k m = 0
  · rw [if_pos hf]
    obtain ⟨h1, h2, h3⟩ := fill_ok.1 hf
    by_cases hn : n < 0 ∨ n > k.b
    · rw [if_pos hn]
      exact ⟨(fun e => by cases e), fun e => by omega⟩
    · rw [if_neg hn]
      exact ⟨fun _ => ⟨h1, h2, h3, by omega, by omega⟩, fun _ => rfl⟩
  · rw [if_neg hf]
    exact ⟨fun e => absurd e hf, fun e => absurd (fill_ok.2 ⟨e.1, e.2.1, e.2.2.1⟩) hf⟩
/-- A bucket stored over the parameter, then one stored as the result. -/
theorem over_end {W w0 : World} {B g : Nat} {t : TypeId} {z0 z1 z2 z3 : Value} (hb : Below B w0 W) (hg : B ≤ g) (h : W.heap[g + 1]? = some (.cells #[z0, z1, z2, z3] t (0, 0))) (v0 v1 v2 v3 u0 u1 u2 u3 : Value) :
    ((((((((W.setCell ⟨g, 0, none⟩ v0).setCell ⟨g, 1, none⟩ v1).setCell ⟨g, 2, none⟩ v2).setCell ⟨g, 3, none⟩ v3).setCell ⟨g + 1, 0, none⟩ u0).setCell ⟨g + 1, 1, none⟩ u1).setCell ⟨g + 1, 2, none⟩ u2).setCell ⟨g + 1, 3, none⟩ u3).heap[g + 1]? = some (.cells #[u0, u1, u2, u3] t (0, 0)) ∧
    Below B w0 ((((((((W.setCell ⟨g, 0, none⟩ v0).setCell ⟨g, 1, none⟩ v1).setCell ⟨g, 2, none⟩ v2).setCell ⟨g, 3, none⟩ v3).setCell ⟨g + 1, 0, none⟩ u0).setCell ⟨g + 1, 1, none⟩ u1).setCell ⟨g + 1, 2, none⟩ u2).setCell ⟨g + 1, 3, none⟩ u3) := by
  have h2 : ((((W.setCell ⟨g, 0, none⟩ v0).setCell ⟨g, 1, none⟩ v1).setCell ⟨g, 2, none⟩ v2).setCell ⟨g, 3, none⟩ v3).heap[g + 1]? = some (.cells #[z0, z1, z2, z3] t (0, 0)) := by
    rw [set_other _ _ _ _ _ (by omega), set_other _ _ _ _ _ (by omega), set_other _ _ _ _ _ (by omega), set_other _ _ _ _ _ (by omega)]; exact h
  exact ⟨bk_set h2 u0 u1 u2 u3, bk_below (bk_below hb hg v0 v1 v2 v3) (show B ≤ g + 1 by omega) u0 u1 u2 u3⟩

theorem set_four (W : World) (g : Nat) (v0 v1 v2 v3 : Value) {o : Obj} (h : W.heap[g + 1]? = some o) : ((((W.setCell ⟨g, 0, none⟩ v0).setCell ⟨g, 1, none⟩ v1).setCell ⟨g, 2, none⟩ v2).setCell ⟨g, 3, none⟩ v3).heap[g + 1]? = some o := by
  rw [set_other _ _ _ _ _ (by omega), set_other _ _ _ _ _ (by omega), set_other _ _ _ _ _ (by omega), set_other _ _ _ _ _ (by omega)]; exact h
/-- One field stored, then the bucket as the result. -/
theorem one_end {W w0 : World} {B g : Nat} {t : TypeId} {z0 z1 z2 z3 : Value} (hb : Below B w0 W) (hg : B ≤ g) (h : W.heap[g + 1]? = some (.cells #[z0, z1, z2, z3] t (0, 0))) (v2 u0 u1 u2 u3 : Value) :
    (((((W.setCell ⟨g, 2, none⟩ v2).setCell ⟨g + 1, 0, none⟩ u0).setCell ⟨g + 1, 1, none⟩ u1).setCell ⟨g + 1, 2, none⟩ u2).setCell ⟨g + 1, 3, none⟩ u3).heap[g + 1]? = some (.cells #[u0, u1, u2, u3] t (0, 0)) ∧
    Below B w0 (((((W.setCell ⟨g, 2, none⟩ v2).setCell ⟨g + 1, 0, none⟩ u0).setCell ⟨g + 1, 1, none⟩ u1).setCell ⟨g + 1, 2, none⟩ u2).setCell ⟨g + 1, 3, none⟩ u3) := by
  have h2 : (W.setCell ⟨g, 2, none⟩ v2).heap[g + 1]? = some (.cells #[z0, z1, z2, z3] t (0, 0)) := by
    rw [set_other _ _ _ _ _ (by omega)]; exact h
  exact ⟨bk_set h2 u0 u1 u2 u3, bk_below (hb.setCell (p := ⟨g, 2, none⟩) hg v2) (show B ≤ g + 1 by omega) u0 u1 u2 u3⟩

set_option maxHeartbeats 3200000 in
set_option maxRecDepth 20000 in
theorem asked_any (k : Bk) (n m : Int) (w : World) : Calls Try.prog 33 #[k.V, .int .i64 n, .int .i64 m] w fun e w' => e = .returned (.tuple #[(askK k n m).V, .int .i64 (askE k n m)]) ∧ Below w.heap.size w w' := by
  have HF := Lib.hid (fill_any k m)
  by_cases hf : fillE k m = 0
  · obtain ⟨hs, hm1, hm2⟩ := fill_ok.1 hf
    rw [show fillK k m = ⟨k.r, k.b, lev k m, m⟩ from if_pos hf, hf] at HF
    by_cases hn : 0 ≤ n ∧ n ≤ k.b
    · have hE : askE k n m = 0 := ask_ok.2 ⟨hs, hm1, hm2, hn.1, hn.2⟩
      have HW := Lib.hid (fun W => within_is (decide_eq_true hn) W)
      rw [show askK k n m = ⟨k.r, k.b, lev k m, m⟩ from if_pos hE, hE]
      obtain ⟨LV, hLV⟩ : ∃ L, L = lev k m := ⟨_, rfl⟩
      rw [← hLV] at HF ⊢
      clear hf hs hm1 hm2 hn hE hLV
      obtain ⟨r, b, l, a⟩ := k
      simp only [Bk.V] at HF HW ⊢
      go_enter Try.func33, Try.ntmps33
      go_wp2_with (first
        | (go_at_call 22; with_reducible (refine Calls.mono (HF.out _) ?_); rintro e w1 ⟨rfl, hb1⟩; obtain ⟨g0, g1, hB⟩ := two_boxes hb1; have HB1 := Lib.hid hB; obtain ⟨x0, x1, x2, x3, f0, f1, f2, f3⟩ := bkCells g0; obtain ⟨z0, z1, z2, z3, y0, y1, y2, y3⟩ := bkCells g1; have HG1 := Lib.hid g1; clear g0 g1 hB hb1)
        | (go_at_call 30; with_reducible (refine Calls.mono (HW.out _) ?_); rintro e w2 ⟨rfl, rfl⟩))
      have hE := over_end HB1.out (Nat.le_refl _) HG1.out (.int .i64 r) (.int .i64 b) (.int .i64 LV) (.int .i64 m) (.int .i64 r) (.int .i64 b) (.int .i64 LV) (.int .i64 m)
      exact bodyPost_ret (results_row_tmp rfl _ _ (w.heap.size + 1) _ _ _ _ rfl hE.1 Try.underlying32 rfl (by kernel_rfl)) rfl ⟨rfl, hE.2⟩
    · have hE : askE k n m = 7 := by
        unfold askE
        rw [if_pos hf, if_pos (by omega)]
      have HW := Lib.hid (fun W => within_is (decide_eq_false hn) W)
      rw [show askK k n m = zeroK from if_neg (by omega), hE]
      obtain ⟨LV, hLV⟩ : ∃ L, L = lev k m := ⟨_, rfl⟩
      rw [← hLV] at HF
      clear hf hs hm1 hm2 hn hE hLV
      obtain ⟨r, b, l, a⟩ := k
      simp only [Bk.V, zeroK] at HF HW ⊢
      go_enter Try.func33, Try.ntmps33
      go_wp2_with (first
        | (go_at_call 22; with_reducible (refine Calls.mono (HF.out _) ?_); rintro e w1 ⟨rfl, hb1⟩; obtain ⟨g0, g1, hB⟩ := two_boxes hb1; have HB1 := Lib.hid hB; obtain ⟨x0, x1, x2, x3, f0, f1, f2, f3⟩ := bkCells g0; obtain ⟨z0, z1, z2, z3, y0, y1, y2, y3⟩ := bkCells g1; have HG1 := Lib.hid g1; clear g0 g1 hB hb1)
        | (go_at_call 30; with_reducible (refine Calls.mono (HW.out _) ?_); rintro e w2 ⟨rfl, rfl⟩))
      have hE := over_end HB1.out (Nat.le_refl _) HG1.out (.int .i64 r) (.int .i64 b) (.int .i64 LV) (.int .i64 m) (.int .i64 0) (.int .i64 0) (.int .i64 0) (.int .i64 0)
      exact bodyPost_ret (results_row_tmp rfl _ _ (w.heap.size + 1) _ _ _ _ rfl hE.1 Try.underlying32 rfl (by kernel_rfl)) rfl ⟨rfl, hE.2⟩
  · have hE : askE k n m = fillE k m := if_neg hf
    rw [show fillK k m = zeroK from if_neg hf] at HF
    rw [show askK k n m = zeroK from if_neg (by rw [hE]; exact hf), hE]
    obtain ⟨E, hEE⟩ : ∃ E, E = fillE k m := ⟨_, rfl⟩
    rw [← hEE] at HF hf ⊢
    have hf2 : (E == 0) = false := beq_eq_false_iff_ne.2 hf
    clear hE hEE
    obtain ⟨r, b, l, a⟩ := k
    simp only [Bk.V, zeroK] at HF ⊢
    go_enter Try.func33, Try.ntmps33
    go_wp2_with (go_at_call 22; with_reducible (refine Calls.mono (HF.out _) ?_); rintro e w1 ⟨rfl, hb1⟩; obtain ⟨g0, g1, hB⟩ := two_boxes hb1; have HB1 := Lib.hid hB; obtain ⟨x0, x1, x2, x3, f0, f1, f2, f3⟩ := bkCells g0; obtain ⟨z0, z1, z2, z3, y0, y1, y2, y3⟩ := bkCells g1; have HG1 := Lib.hid g1; clear g0 g1 hB hb1)
    have hE := over_end HB1.out (Nat.le_refl _) HG1.out (.int .i64 0) (.int .i64 0) (.int .i64 0) (.int .i64 0) (.int .i64 0) (.int .i64 0) (.int .i64 0) (.int .i64 0)
    exact bodyPost_ret (results_row_tmp rfl _ _ (w.heap.size + 1) _ _ _ _ rfl hE.1 Try.underlying32 rfl (by kernel_rfl)) rfl ⟨rfl, hE.2⟩

theorem take_of_ask (k : Bk) (n m : Int) : takeE k n m = if askE k n m = 0 then (if lev k m < 65536 * n then 12 else 0) else askE k n m := by
  unfold takeE askE
  by_cases hf : fillE k m = 0
  · rw [if_pos hf, if_pos hf]
    by_cases hn : n < 0 ∨ n > k.b
    · rw [if_pos hn, if_pos hn]; rfl
    · rw [if_neg hn, if_neg hn]; rfl
  · rw [if_neg hf, if_neg hf, if_neg hf]

set_option maxHeartbeats 3200000 in
set_option maxRecDepth 20000 in
theorem take_any (k : Bk) (n m : Int) (w : World) : Calls Try.prog 24 #[k.V, .int .i64 n, .int .i64 m] w fun e w' => e = .returned (.tuple #[(takeK k n m).V, .int .i64 (takeE k n m)]) ∧ Below w.heap.size w w' := by
  have HA := Lib.hid (asked_any k n m)
  have hT := take_of_ask k n m
  by_cases ha : askE k n m = 0
  · obtain ⟨hs, hm1, hm2, hn1, hn2⟩ := ask_ok.1 ha
    obtain ⟨s1, s2, s3, s4, s5, s6, s7, s8⟩ := (sound_iff k).1 hs
    obtain ⟨q1, q2, q3⟩ := lev_bounds hs hm1
    rw [show askK k n m = ⟨k.r, k.b, lev k m, m⟩ from if_pos ha, ha] at HA
    rw [if_pos ha] at hT
    have v1 : IntKind.i64.wrap (65536 * n) = 65536 * n := IntWalk.i64_in _ (by omega)
    by_cases hl : lev k m < 65536 * n
    · rw [if_pos hl] at hT
      rw [show takeK k n m = zeroK from if_neg (by omega), hT]
      obtain ⟨LV, hLV⟩ : ∃ L, L = lev k m := ⟨_, rfl⟩
      rw [← hLV] at HA hl
      clear ha hT hs hm1 hm2 hn1 hn2 s1 s2 s3 s4 s5 s6 s7 s8 q1 q2 q3 hLV
      obtain ⟨r, b, l, a⟩ := k
      simp only [Bk.V, zeroK] at HA ⊢
      go_enter Try.func24, Try.ntmps24
      go_wp2_with (go_at_call 33; with_reducible (refine Calls.mono (HA.out _) ?_); rintro e w1 ⟨rfl, hb1⟩; obtain ⟨g0, g1, hB⟩ := two_boxes hb1; have HB1 := Lib.hid hB; obtain ⟨x0, x1, x2, x3, f0, f1, f2, f3⟩ := bkCells g0; obtain ⟨z0, z1, z2, z3, y0, y1, y2, y3⟩ := bkCells g1; have HG1 := Lib.hid g1; clear g0 g1 hB hb1)
      have hE := over_end HB1.out (Nat.le_refl _) HG1.out (.int .i64 r) (.int .i64 b) (.int .i64 LV) (.int .i64 m) (.int .i64 0) (.int .i64 0) (.int .i64 0) (.int .i64 0)
      exact bodyPost_ret (results_row_tmp rfl _ _ (w.heap.size + 1) _ _ _ _ rfl hE.1 Try.underlying32 rfl (by kernel_rfl)) rfl ⟨rfl, hE.2⟩
    · rw [if_neg hl] at hT
      rw [show takeK k n m = ⟨k.r, k.b, lev k m - 65536 * n, m⟩ from if_pos hT, hT]
      have v2 : IntKind.i64.wrap (lev k m - 65536 * n) = lev k m - 65536 * n := IntWalk.i64_in _ (by omega)
      obtain ⟨LV, hLV⟩ : ∃ L, L = lev k m := ⟨_, rfl⟩
      rw [← hLV] at HA hl v2 ⊢
      clear ha hT hs hm1 hm2 hn1 hn2 s1 s2 s3 s4 s5 s6 s7 s8 q1 q2 q3 hLV
      obtain ⟨r, b, l, a⟩ := k
      simp only [Bk.V] at HA ⊢
      go_enter Try.func24, Try.ntmps24
      go_upto_if 24 with (go_at_call 33; with_reducible (refine Calls.mono (HA.out _) ?_); rintro e w1 ⟨rfl, hb1⟩; obtain ⟨g0, g1, hB⟩ := two_boxes hb1; have HB1 := Lib.hid hB; obtain ⟨x0, x1, x2, x3, f0, f1, f2, f3⟩ := bkCells g0; obtain ⟨z0, z1, z2, z3, y0, y1, y2, y3⟩ := bkCells g1; have HG0 := Lib.hid g0; have HG1 := Lib.hid g1; clear g0 g1 hB hb1)
      rw [show decide (LV < 65536 * n) = false from decide_eq_false (by omega)]
      obtain ⟨W, hW⟩ : ∃ W, W = ((((w1.setCell ⟨w.heap.size, 0, none⟩ (.int .i64 r)).setCell ⟨w.heap.size, 1, none⟩ (.int .i64 b)).setCell ⟨w.heap.size, 2, none⟩ (.int .i64 LV)).setCell ⟨w.heap.size, 3, none⟩ (.int .i64 m)) := ⟨_, rfl⟩
      rw [← hW]
      have G0 := bk_set HG0.out (.int .i64 r) (.int .i64 b) (.int .i64 LV) (.int .i64 m)
      have G1 := set_four w1 w.heap.size (.int .i64 r) (.int .i64 b) (.int .i64 LV) (.int .i64 m) HG1.out
      have HBW := Lib.hid (bk_below HB1.out (Nat.le_refl _) (.int .i64 r) (.int .i64 b) (.int .i64 LV) (.int .i64 m))
      rw [← hW] at G0 G1 HBW
      have HG2 := Lib.hid G1
      clear x0 x1 x2 x3 f0 f1 f2 f3 z0 z1 z2 z3 y0 y1 y2 y3 hW HG0 HG1 HB1 hl
      obtain ⟨x0, x1, x2, x3, f0, f1, f2, f3⟩ := bkCells G0
      obtain ⟨z0, z1, z2, z3, y0, y1, y2, y3⟩ := bkCells G1
      clear G0 G1
      go_wp2
      have hE := one_end HBW.out (Nat.le_refl _) HG2.out (.int .i64 (LV - 65536 * n)) (.int .i64 r) (.int .i64 b) (.int .i64 (LV - 65536 * n)) (.int .i64 m)
      exact bodyPost_ret (results_row_tmp rfl _ _ (w.heap.size + 1) _ _ _ _ rfl hE.1 Try.underlying32 rfl (by kernel_rfl)) rfl ⟨rfl, hE.2⟩
  · rw [if_neg ha] at hT
    rw [show askK k n m = zeroK from if_neg ha] at HA
    rw [show takeK k n m = zeroK from if_neg (by rw [hT]; exact ha), hT]
    obtain ⟨E, hEE⟩ : ∃ E, E = askE k n m := ⟨_, rfl⟩
    rw [← hEE] at HA ha ⊢
    have hf2 : (E == 0) = false := beq_eq_false_iff_ne.2 ha
    clear hT hEE
    obtain ⟨r, b, l, a⟩ := k
    simp only [Bk.V, zeroK] at HA ⊢
    go_enter Try.func24, Try.ntmps24
    go_wp2_with (go_at_call 33; with_reducible (refine Calls.mono (HA.out _) ?_); rintro e w1 ⟨rfl, hb1⟩; obtain ⟨g0, g1, hB⟩ := two_boxes hb1; have HB1 := Lib.hid hB; obtain ⟨x0, x1, x2, x3, f0, f1, f2, f3⟩ := bkCells g0; obtain ⟨z0, z1, z2, z3, y0, y1, y2, y3⟩ := bkCells g1; have HG1 := Lib.hid g1; clear g0 g1 hB hb1)
    have hE := over_end HB1.out (Nat.le_refl _) HG1.out (.int .i64 0) (.int .i64 0) (.int .i64 0) (.int .i64 0) (.int .i64 0) (.int .i64 0) (.int .i64 0) (.int .i64 0)
    exact bodyPost_ret (results_row_tmp rfl _ _ (w.heap.size + 1) _ _ _ _ rfl hE.1 Try.underlying32 rfl (by kernel_rfl)) rfl ⟨rfl, hE.2⟩

/-! ### Ready -/
theorem one_box {w W : World} {A : Obj} (hb : Below (w.alloc A).heap.size (w.alloc A) W) : W.heap[w.heap.size]? = some A ∧ Below w.heap.size w W := by
  have hn : (w.alloc A).heap.size = w.heap.size + 1 := by simp
  exact ⟨(hb.block _ (by omega)).trans (heap_alloc_new w A), ((Below.refl _ w).alloc (Nat.le_refl _) A).trans (hb.mono (by omega))⟩
theorem box_alloc {W w0 : World} {g : Nat} {o0 : Obj} (hb : Below g w0 W) (h : W.heap[g]? = some o0) (v0 v1 v2 v3 : Value) (o : Obj) : Below g w0 (((((W.setCell ⟨g, 0, none⟩ v0).setCell ⟨g, 1, none⟩ v1).setCell ⟨g, 2, none⟩ v2).setCell ⟨g, 3, none⟩ v3).alloc o) := by
  refine (bk_below hb (Nat.le_refl _) v0 v1 v2 v3).alloc ?_ o
  have hlt := (Array.getElem?_eq_some_iff.1 h).1
  simp [World.setCell]
  omega
theorem ready_cases {k : Bk} {n m : Int} (ha : askE k n m = 0) : soundB ⟨k.r, k.b, lev k m, m⟩ = true ∧
    ((untilB ⟨k.r, k.b, lev k m, m⟩ (65536 * n) = false ∧ readyE k n m = 4 ∧ readyM k n m = 0) ∨
     (untilB ⟨k.r, k.b, lev k m, m⟩ (65536 * n) = true ∧ 1099511627776 - m < untilM ⟨k.r, k.b, lev k m, m⟩ (65536 * n) ∧ readyE k n m = 4 ∧ readyM k n m = 0) ∨
     (untilB ⟨k.r, k.b, lev k m, m⟩ (65536 * n) = true ∧ ¬ 1099511627776 - m < untilM ⟨k.r, k.b, lev k m, m⟩ (65536 * n) ∧ 0 ≤ untilM ⟨k.r, k.b, lev k m, m⟩ (65536 * n) ∧ readyE k n m = 0 ∧ readyM k n m = m + untilM ⟨k.r, k.b, lev k m, m⟩ (65536 * n))) := by
  obtain ⟨hs, hm1, hm2, hn1, hn2⟩ := ask_ok.1 ha
  obtain ⟨s1, s2, s3, s4, s5, s6, s7, s8⟩ := (sound_iff k).1 hs
  obtain ⟨q1, q2, q3⟩ := lev_bounds hs hm1
  refine ⟨(fill_sound (fill_ok.2 ⟨hs, hm1, hm2⟩)).2, ?_⟩
  have hT := take_of_ask k n m
  rw [if_pos ha] at hT
  unfold untilB untilM
  simp only []
  by_cases c1 : 65536 * n ≤ lev k m
  · have hT0 : takeE k n m = 0 := by rw [hT, if_neg (by omega)]
    have hR : readyE k n m = 0 := by unfold readyE; rw [if_neg (by omega), hT0]
    have hM : readyM k n m = m := by unfold readyM; rw [if_pos hR, if_pos hT0]
    right; right
    rw [if_pos c1]
    exact ⟨decide_eq_true (.inl c1), by omega, by omega, hR, by omega⟩
  · have hT12 : takeE k n m = 12 := by rw [hT, if_pos (by omega)]
    rw [if_neg c1]
    have hW : takeE k n 1099511627776 = if lev k 1099511627776 < 65536 * n then 12 else 0 := by
      rw [take_of_ask, if_pos (ask_ok.2 ⟨hs, by omega, by omega, hn1, hn2⟩)]
    have hlv := lev_lev (k := k) s1 (show m ≤ 1099511627776 by omega)
    by_cases c2 : k.r = 0
    · left
      have hl : lev k 1099511627776 < 65536 * n := by
        rw [← hlv]
        unfold lev at c1 ⊢
        simp only []
        rw [c2, Int.zero_mul] at c1 ⊢
        omega
      rw [if_pos hl] at hW
      have hR : readyE k n m = 4 := by unfold readyE; rw [if_pos hT12, if_neg (by omega)]
      exact ⟨decide_eq_false (fun h => h.elim c1 (fun h => h c2)), hR, by unfold readyM; rw [if_neg (by omega)]⟩
    · rw [if_neg c2]
      right
      have hr : 0 < k.r := by omega
      have hc := ceil_le (r := k.r) (d := 65536 * n - lev k m) (p := 1099511627776 - m) hr
      have hl : lev k 1099511627776 < 65536 * n ↔ lev k m + k.r * (1099511627776 - m) < 65536 * n := by
        rw [← hlv]
        show min (65536 * k.b) (lev k m + k.r * (1099511627776 - m)) < 65536 * n ↔ _
        omega
      by_cases c3 : (65536 * n - lev k m + k.r - 1) / k.r ≤ 1099511627776 - m
      · right
        have h1 := hc.1 c3
        rw [if_neg (fun h => by have := hl.1 h; omega)] at hW
        have hR : readyE k n m = 0 := by unfold readyE; rw [if_pos hT12, if_pos hW]
        have hM : readyM k n m = firstM k n := by unfold readyM; rw [if_pos hR, if_neg (by omega)]
        refine ⟨decide_eq_true (.inr c2), by omega, Int.ediv_nonneg (by omega) (by omega), hR, ?_⟩
        rw [hM]
        unfold firstM
        have hlm : lev k m = k.l + k.r * (m - k.a) := by
          unfold lev at c1 ⊢
          omega
        rw [hlm, show 65536 * n - (k.l + k.r * (m - k.a)) + k.r - 1 = (65536 * n - k.l + k.r - 1) + k.r * (-(m - k.a)) by rw [Int.mul_neg]; omega, Int.add_mul_ediv_left _ _ (by omega)]
        omega
      · left
        have h1 : ¬ 65536 * n - lev k m ≤ k.r * (1099511627776 - m) := fun h => c3 (hc.2 h)
        rw [if_pos (hl.2 (by omega))] at hW
        have hR : readyE k n m = 4 := by unfold readyE; rw [if_pos hT12, if_neg (by omega)]
        exact ⟨decide_eq_true (.inr c2), by omega, hR, by unfold readyM; rw [if_neg (by omega)]⟩
theorem ready_no {k : Bk} {n m : Int} (ha : askE k n m ≠ 0) : readyE k n m = askE k n m ∧ readyM k n m = 0 := by
  have hT := take_of_ask k n m
  rw [if_neg ha] at hT
  have h12 : askE k n m ≠ 12 := by
    unfold askE
    split
    · split <;> decide
    · rcases fill_err k m with h | h | h <;> rw [h] <;> decide
  have hR : readyE k n m = askE k n m := by unfold readyE; rw [hT, if_neg h12]
  exact ⟨hR, by unfold readyM; rw [hR, if_neg ha]⟩

set_option maxHeartbeats 3200000 in
set_option maxRecDepth 20000 in
theorem ready_any (k : Bk) (n m : Int) (w : World) : Calls Try.prog 26 #[k.V, .int .i64 n, .int .i64 m] w fun e w' => e = .returned (.tuple #[.int .i64 (readyM k n m), .int .i64 (readyE k n m)]) ∧ Below w.heap.size w w' := by
  have HA := Lib.hid (asked_any k n m)
  by_cases ha : askE k n m = 0
  · obtain ⟨hs, hm1, hm2, hn1, hn2⟩ := ask_ok.1 ha
    obtain ⟨s1, s2, s3, s4, s5, s6, s7, s8⟩ := (sound_iff k).1 hs
    obtain ⟨hS, hC⟩ := ready_cases ha
    have HU := Lib.hid (fun W => until_any ⟨k.r, k.b, lev k m, m⟩ (65536 * n) W hS (by omega))
    rw [show askK k n m = ⟨k.r, k.b, lev k m, m⟩ from if_pos ha, ha] at HA
    have v1 : IntKind.i64.wrap (65536 * n) = 65536 * n := IntWalk.i64_in _ (by omega)
    have v2 : IntKind.i64.wrap (1099511627776 - m) = 1099511627776 - m := IntWalk.i64_in _ (by omega)
    obtain ⟨UM, hUM⟩ : ∃ L, L = untilM ⟨k.r, k.b, lev k m, m⟩ (65536 * n) := ⟨_, rfl⟩
    obtain ⟨UB, hUB⟩ : ∃ L, L = untilB ⟨k.r, k.b, lev k m, m⟩ (65536 * n) := ⟨_, rfl⟩
    rw [← hUM, ← hUB] at hC HU
    obtain ⟨LV, hLV⟩ : ∃ L, L = lev k m := ⟨_, rfl⟩
    obtain ⟨RM, hRM⟩ : ∃ L, L = readyM k n m := ⟨_, rfl⟩
    obtain ⟨RE, hRE⟩ : ∃ L, L = readyE k n m := ⟨_, rfl⟩
    rw [← hRM, ← hRE] at hC ⊢
    simp only [Bk.V] at HU HA
    rw [← hLV] at HU HA
    rcases hC with ⟨rfl, rfl, rfl⟩ | ⟨rfl, hlt, rfl, rfl⟩ | ⟨rfl, hlt, hp, rfl, rfl⟩
    · clear ha hs hm1 hm2 hn1 hn2 s1 s2 s3 s4 s5 s6 s7 s8 hS hUM hUB hLV hRM hRE
      obtain ⟨r, b, l, a⟩ := k
      simp only [Bk.V] at HU HA ⊢
      go_enter Try.func26, Try.ntmps26
      go_wp2_with (first
        | (go_at_call 33; with_reducible (refine Calls.mono (HA.out _) ?_); rintro e w1 ⟨rfl, hb1⟩; obtain ⟨g0, hB⟩ := one_box hb1; have HD := Lib.hid (box_alloc hB g0 (.int .i64 r) (.int .i64 b) (.int .i64 LV) (.int .i64 m)); obtain ⟨x0, x1, x2, x3, f0, f1, f2, f3⟩ := bkCells g0; clear g0 hB hb1)
        | (go_at_call 34; with_reducible (refine Calls.mono (HU.out _) ?_); rintro e w2 ⟨rfl, rfl⟩))
      go_ret2
      exact ⟨rfl, HD.out _⟩
    · have v3 : IntKind.i64.wrap (m + UM) = IntKind.i64.wrap (m + UM) := rfl
      clear v3 ha hs hm1 hm2 hn1 hn2 s1 s2 s3 s4 s5 s6 s7 s8 hS hUM hUB hLV hRM hRE
      obtain ⟨r, b, l, a⟩ := k
      simp only [Bk.V] at HU HA ⊢
      go_enter Try.func26, Try.ntmps26
      go_wp2_with (first
        | (go_at_call 33; with_reducible (refine Calls.mono (HA.out _) ?_); rintro e w1 ⟨rfl, hb1⟩; obtain ⟨g0, hB⟩ := one_box hb1; have HD := Lib.hid (box_alloc hB g0 (.int .i64 r) (.int .i64 b) (.int .i64 LV) (.int .i64 m)); obtain ⟨x0, x1, x2, x3, f0, f1, f2, f3⟩ := bkCells g0; clear g0 hB hb1)
        | (go_at_call 34; with_reducible (refine Calls.mono (HU.out _) ?_); rintro e w2 ⟨rfl, rfl⟩))
      go_ret2
      exact ⟨rfl, HD.out _⟩
    · have v3 : IntKind.i64.wrap (m + UM) = m + UM := IntWalk.i64_in _ (by omega)
      clear hp ha hs hm1 hm2 hn1 hn2 s1 s2 s3 s4 s5 s6 s7 s8 hS hUM hUB hLV hRM hRE
      obtain ⟨r, b, l, a⟩ := k
      simp only [Bk.V] at HU HA ⊢
      go_enter Try.func26, Try.ntmps26
      go_wp2_with (first
        | (go_at_call 33; with_reducible (refine Calls.mono (HA.out _) ?_); rintro e w1 ⟨rfl, hb1⟩; obtain ⟨g0, hB⟩ := one_box hb1; have HD := Lib.hid (box_alloc hB g0 (.int .i64 r) (.int .i64 b) (.int .i64 LV) (.int .i64 m)); obtain ⟨x0, x1, x2, x3, f0, f1, f2, f3⟩ := bkCells g0; clear g0 hB hb1)
        | (go_at_call 34; with_reducible (refine Calls.mono (HU.out _) ?_); rintro e w2 ⟨rfl, rfl⟩))
      go_ret2
      exact ⟨rfl, HD.out _⟩
  · obtain ⟨h1, h2⟩ := ready_no ha
    rw [h1, h2]
    rw [show askK k n m = zeroK from if_neg ha] at HA
    obtain ⟨E, hEE⟩ : ∃ E, E = askE k n m := ⟨_, rfl⟩
    rw [← hEE] at HA ha ⊢
    have hf2 : (E == 0) = false := beq_eq_false_iff_ne.2 ha
    clear h1 h2 hEE
    obtain ⟨r, b, l, a⟩ := k
    simp only [Bk.V, zeroK] at HA ⊢
    go_enter Try.func26, Try.ntmps26
    go_wp2_with (go_at_call 33; with_reducible (refine Calls.mono (HA.out _) ?_); rintro e w1 ⟨rfl, hb1⟩; obtain ⟨g0, hB⟩ := one_box hb1; have HD := Lib.hid (bk_below hB (Nat.le_refl _) (.int .i64 0) (.int .i64 0) (.int .i64 0) (.int .i64 0)); obtain ⟨x0, x1, x2, x3, f0, f1, f2, f3⟩ := bkCells g0; clear g0 hB hb1)
    go_ret2
    exact ⟨rfl, HD.out⟩

end Go.Proofs.Ytcliampjgbmeaaa
