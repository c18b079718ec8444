/-
  The document's own Same (stowageref16), of the same tables.
-/
import Derived.Test.YtnenpafofplbhaaGreatTableEq
import Derived.Test.YtnenpafofplbhaaGreatSame
namespace Go.Proofs.YtnenpafofplbhaaGreat
open Go.RowKit

/-- Two tables laid in boxes of their own. -/
theorem box_two (w : World) (x y z x' y' z' : Value) (T : TypeId) : ∃ W, W = (w.alloc (.cells #[x, y, z] T)).alloc (.cells #[x', y', z'] T) ∧
    (∀ m, (W.drewN m).cell? ⟨w.heap.size, 0, none⟩ = some x ∧ (W.drewN m).cell? ⟨w.heap.size, 1, none⟩ = some y ∧ (W.drewN m).cell? ⟨w.heap.size, 2, none⟩ = some z ∧
      (W.drewN m).cell? ⟨w.heap.size + 1, 0, none⟩ = some x' ∧ (W.drewN m).cell? ⟨w.heap.size + 1, 1, none⟩ = some y' ∧ (W.drewN m).cell? ⟨w.heap.size + 1, 2, none⟩ = some z') ∧ Below w.heap.size w W ∧ ∀ m, Below w.heap.size w (W.drewN m) := by
  refine ⟨_, rfl, fun m => ?_, ?_, fun m => ?_⟩
  · have h := (heap_alloc_new w (.cells #[x, y, z] T))
    have h1 : ((w.alloc (.cells #[x, y, z] T)).alloc (.cells #[x', y', z'] T)).heap[w.heap.size]? = some (.cells #[x, y, z] T) := (Below.heap_alloc (w.alloc (.cells #[x, y, z] T)) (.cells #[x', y', z'] T) _ (by simp)).trans h
    have h2 := heap_alloc_new (w.alloc (.cells #[x, y, z] T)) (.cells #[x', y', z'] T)
    have e : (w.alloc (.cells #[x, y, z] T)).heap.size = w.heap.size + 1 := by simp
    rw [e] at h2
    have q1 : ∀ i v, (#[x, y, z] : Array Value)[i]? = some v → ((w.alloc (.cells #[x, y, z] T)).alloc (.cells #[x', y', z'] T)).cell? ⟨w.heap.size, i, none⟩ = some v := fun i v hv => by rw [cell_of_row _ _ _ _ _ _ h1, hv]
    have q2 : ∀ i v, (#[x', y', z'] : Array Value)[i]? = some v → ((w.alloc (.cells #[x, y, z] T)).alloc (.cells #[x', y', z'] T)).cell? ⟨w.heap.size + 1, i, none⟩ = some v := fun i v hv => by rw [cell_of_row _ _ _ _ _ _ h2, hv]
    exact ⟨q1 0 x rfl, q1 1 y rfl, q1 2 z rfl, q2 0 x' rfl, q2 1 y' rfl, q2 2 z' rfl⟩
  · exact ((Below.refl _ _).alloc (Nat.le_refl _) _).alloc (by simp) _
  · exact below_drewN (((Below.refl _ _).alloc (Nat.le_refl _) _).alloc (by simp) _) m

set_option maxHeartbeats 3200000 in
set_option maxRecDepth 20000 in
/-- 'Same', of the same. -/
theorem refSame16_any (V1 V2 : TabW) (t : Tab) (w : World) (h1 : TabAt w w.heap.size V1 t) (h2 : TabAt w w.heap.size V2 t) (hm1 : t.ts.length ≤ 140737488355328) (hm2 : t.vs.length ≤ 140737488355328) (hm3 : t.os.length ≤ 140737488355328) :
    Calls Tryz.prog 7 #[.agg (tabV V1 t), .agg (tabV V2 t)] w fun e w' => e = .returned (.bool true) ∧ Below w.heap.size w w' := by
  obtain ⟨W0, hW0, hf, hb0, hbm⟩ := box_two w (.slice V1.A1 t.ts.length V1.c1) (.slice V1.A2 t.vs.length V1.c2) (.slice V1.A3 t.os.length V1.c3) (.slice V2.A1 t.ts.length V2.c1) (.slice V2.A2 t.vs.length V2.c2) (.slice V2.A3 t.os.length V2.c3) 26
  have H1 := Lib.hid (fun m => h1.ts.below (hbm m))
  have G1 := Lib.hid (fun m => h2.ts.below (hbm m))
  have H2 := Lib.hid (fun m => h1.vs.below (hbm m))
  have G2 := Lib.hid (fun m => h2.vs.below (hbm m))
  have HS := Lib.hid (sameInts_any V1.A3 V2.A3 V1.c3 V2.c3 t.os W0 ((h1.os.below hb0).more hb0.size) ((h2.os.below hb0).more hb0.size) hm3)
  have HB := Lib.hid hb0
  have hle1 := h1.l1
  have hle2 := h2.l1
  have hle3 := h1.l2
  have hle4 := h2.l2
  have hle5 := h1.l3
  have hle6 := h2.l3
  obtain ⟨ts, vs, os⟩ := t
  obtain ⟨A1, c1, A2, c2, A3, c3⟩ := V1
  obtain ⟨B1, d1, B2, d2, B3, d3⟩ := V2
  simp only [tabV] at hf hW0 H1 G1 H2 G2 HS hle1 hle2 hle3 hle4 hle5 hle6 hm1 hm2 hm3 ⊢
  obtain ⟨N1, hN1⟩ : ∃ N, N = ts.length := ⟨_, rfl⟩
  obtain ⟨N2, hN2⟩ : ∃ N, N = vs.length := ⟨_, rfl⟩
  obtain ⟨N3, hN3⟩ : ∃ N, N = os.length := ⟨_, rfl⟩
  have HN1 := Lib.hid hN1
  have HN2 := Lib.hid hN2
  simp only [← hN1, ← hN2, ← hN3] at hf hW0 HS hle1 hle2 hle3 hle4 hle5 hle6 hm1 hm2 hm3 ⊢
  have HF := Lib.hid hf
  have HW := Lib.hid hW0
  obtain ⟨f0, f1, f2, g0, g1, g2⟩ := hf 0
  have e0 : W0.drewN 0 = W0 := rfl
  rw [e0, hW0] at f0 f1 f2 g0 g1 g2
  rw [hW0] at HS
  clear h1 h2 hN1 hN2 hN3 hf hb0 hbm e0
  go_enter Tryz.func7, Tryz.ntmps7
  go_wp2_with (go_at_call 18; with_reducible (refine Calls.mono HS.out ?_); rintro e w1 ⟨rfl, m1, hw1⟩)
  rw [← hW0] at hw1
  clear f0 f1 f2 g0 g1 g2 HS hW0
  go_loopw [5] (fun i wr => ∃ k m : Nat, k ≤ N1 ∧ i = .int .i64 k ∧ wr = W0.drewN m) (fun i _ => N1 - (intOf i).toNat)
  case atStart => exact ⟨0, m1, Nat.zero_le _, rfl, by rw [HW.out]⟩
  case round =>
    obtain ⟨k, m, hk, rfl, hwm⟩ := hrel
    have k0 : (0 : Int) ≤ (k : Int) := by omega
    by_cases hlt : k < N1
    · have k1 : (k : Int) < (N1 : Int) := by omega
      have hkx : k < ts.length := by have := HN1.out; omega
      obtain ⟨b1, o1, rfl, _, x0, x1, x2, x3, x4, x5⟩ := H1.out m k hkx
      obtain ⟨b2, o2, rfl, _, y0, y1, y2, y3, y4, y5⟩ := G1.out m k hkx
      obtain ⟨f0, f1, f2, g0, g1, g2⟩ := HF.out m
      obtain ⟨x, hx⟩ : ∃ x, x = ts[k] := ⟨_, rfl⟩
      rw [← hx] at x0 x1 x2 x3 x4 x5 y0 y1 y2 y3 y4 y5
      have heq : ∀ W, (Op.equalIn 10000 49 (.agg (tenV x)) (.agg (tenV x))).run Tryz.prog W = .ok true W := fun W => by rw [eqTen_all, decide_eq_true rfl]
      clear hx
      obtain ⟨p0, p1, p2, p3, p4, p5⟩ := x
      simp only [tenV] at heq
      simp only at x0 x1 x2 x3 x4 x5 y0 y1 y2 y3 y4 y5
      rw [← hwm] at x0 x1 x2 x3 x4 x5 y0 y1 y2 y3 y4 y5 f0 f1 f2 g0 g1 g2
      have HWM := Lib.hid hwm
      clear hwm
      go_wp2
      go_quiet (fail)
      go_wp2
      go_roundw
      case rel => exact ⟨k + 1, m + nq, by omega, by go_num, by rw [HWM.out, World.drewN_drewN]⟩
      case measure => first | (simp [intOf]; done) | (simp [intOf]; omega)
    · have k1 : ¬ (k : Int) < (N1 : Int) := by omega
      obtain ⟨f0, f1, f2, g0, g1, g2⟩ := HF.out m
      rw [← hwm] at f0 f1 f2 g0 g1 g2
      have HWM := Lib.hid hwm
      clear hwm
      go_wp2
      clear k0 hlt k1 hk
      go_loopw [6] (fun i wr => ∃ k m : Nat, k ≤ N2 ∧ i = .int .i64 k ∧ wr = W0.drewN m) (fun i _ => N2 - (intOf i).toNat)
      case atStart => exact ⟨0, m, Nat.zero_le _, rfl, HWM.out⟩
      case round =>
        obtain ⟨k, m, hk, rfl, hwm⟩ := hrel
        have k0 : (0 : Int) ≤ (k : Int) := by omega
        by_cases hlt : k < N2
        · have k1 : (k : Int) < (N2 : Int) := by omega
          have hkx : k < vs.length := by have := HN2.out; omega
          obtain ⟨b1, o1, rfl, _, x0, x1, x2, x3⟩ := H2.out m k hkx
          obtain ⟨b2, o2, rfl, _, y0, y1, y2, y3⟩ := G2.out m k hkx
          obtain ⟨f0, f1, f2, g0, g1, g2⟩ := HF.out m
          obtain ⟨x, hx⟩ : ∃ x, x = vs[k] := ⟨_, rfl⟩
          rw [← hx] at x0 x1 x2 x3 y0 y1 y2 y3
          have heq : ∀ W, (Op.equalIn 10000 51 (.agg (volV x)) (.agg (volV x))).run Tryz.prog W = .ok true W := fun W => by rw [eqVol_all, decide_eq_true rfl]
          clear hx
          obtain ⟨p0, p1, p2, p3⟩ := x
          simp only [volV] at heq
          simp only at x0 x1 x2 x3 y0 y1 y2 y3
          rw [← hwm] at x0 x1 x2 x3 y0 y1 y2 y3 f0 f1 f2 g0 g1 g2
          have HWM := Lib.hid hwm
          clear hwm
          go_wp2
          go_quiet (fail)
          go_wp2
          go_roundw
          case rel => exact ⟨k + 1, m + nq, by omega, by go_num, by rw [HWM.out, World.drewN_drewN]⟩
          case measure => first | (simp [intOf]; done) | (simp [intOf]; omega)
        · have k1 : ¬ (k : Int) < (N2 : Int) := by omega
          obtain ⟨f0, f1, f2, g0, g1, g2⟩ := HF.out m
          rw [← hwm] at f0 f1 f2 g0 g1 g2
          have HWM := Lib.hid hwm
          clear hwm
          go_wp2
          go_ret
          exact ⟨rfl, by rw [HWM.out]; exact below_drewN HB.out _⟩

end Go.Proofs.YtnenpafofplbhaaGreat
