/-
  The law TableImages as a walk.
-/
import Derived.Test.YtnenpafofplbhaaTableSound
import Derived.Test.YtnenpafofplbhaaTableImgR
namespace Go.Proofs.Ytnenpafofplbhaa
open Go.RowKit

theorem rec_cells6 {w : World} {B : Nat} {A : Option Addr} {rs : List Rc} (h : RecsAt w B A rs) {k : Nat} (hk : k < rs.length) : ∃ b off, A = some ⟨b, off, none⟩ ∧ w.cell? ⟨b, off + k * 6, none⟩ = some (.int .i64 rs[k].k) ∧ w.cell? ⟨b, off + k * 6 + 1, none⟩ = some (.int .i64 rs[k].a) ∧ w.cell? ⟨b, off + k * 6 + 2, none⟩ = some (.int .i64 rs[k].b) ∧
    w.cell? ⟨b, off + k * 6 + 3, none⟩ = some (.int .i64 rs[k].c) ∧ w.cell? ⟨b, off + k * 6 + 4, none⟩ = some (.int .i64 rs[k].d) ∧ w.cell? ⟨b, off + k * 6 + 5, none⟩ = some (.string rs[k].key) := by
  obtain ⟨b, off, e, _, q⟩ := h k hk
  rw [Nat.mul_comm 6 k] at q
  exact ⟨b, off, e, q⟩
theorem image_few {t : Tab} (hs : t.sound) : (imageR t).length ≤ 200 := by
  obtain ⟨n1, n2, n3⟩ := sound_few hs
  have b2 := flatMap_le imgV_le t.vs
  have b3 := flatMap_le (imgO_le t.os) (List.range t.os.length)
  have b4 := flatMap_le imgD_le t.ts
  rw [List.length_range] at b3
  unfold imageR
  rw [List.length_append, List.length_append, List.length_append, List.length_map]
  omega

set_option maxHeartbeats 1600000 in
set_option maxRecDepth 20000 in
/-- TableImages, of a table that is none. -/
theorem tableImages_no (V : TabW) (t : Tab) (w : World) (HS : TableSpec w) (h : TabAt w w.heap.size V t) (ho : t.ok) (hs : ¬ t.sound) :
    Calls Try.prog 5 #[.agg (tabV V t)] w fun e w' => e = .returned (.bool true) ∧ Below w.heap.size w w' := by
  have hb0 : Below w.heap.size w (w.alloc (.cells (tabV V t) 26)) := (Below.refl _ _).alloc (Nat.le_refl _) _
  have hg0 := heap_alloc_new w (.cells (tabV V t) 26)
  obtain ⟨W0, hW0⟩ : ∃ W, W = w.alloc (.cells (tabV V t) 26) := ⟨_, rfl⟩
  rw [← hW0] at hb0 hg0
  have HT : ∀ X, Below w.heap.size w X → TabAt X X.heap.size V t := fun X hb => (h.below hb).more hb.size
  have HF : ∀ X, Below W0.heap.size W0 X → X.cell? ⟨w.heap.size, 0, none⟩ = some (.slice V.A1 t.ts.length V.c1) ∧ X.cell? ⟨w.heap.size, 1, none⟩ = some (.slice V.A2 t.vs.length V.c2) ∧ X.cell? ⟨w.heap.size, 2, none⟩ = some (.slice V.A3 t.os.length V.c3) := fun X hb => cellsL3 ((hb.block _ (Array.getElem?_eq_some_iff.1 hg0).1).trans hg0)
  have A1 := HS.imageNo V t W0 hb0 (HT _ hb0) ho hs
  have HAW := Lib.hid (fun X (hb : Below w.heap.size w X) => tableAwake HS X hb)
  have A2 := fun X (hb : Below w.heap.size w X) => refSound16_any V t X (HT X hb) ho false (by simp [hs])
  obtain ⟨f0, f1, f2⟩ := HF W0 (Below.refl _ _)
  unfold tabV at A1 A2 hW0 ⊢
  have HA1 := Lib.hid A1
  have HA2 := Lib.hid A2
  have HFH := Lib.hid HF
  have HB0 := Lib.hid hb0
  clear A1 A2 HF HT hb0 hg0 HS h ho hs
  go_enter Try.func5, Try.ntmps5
  go_wp2_with fail
  rw [← hW0]
  clear hW0
  go_wp2_with (first
    | (go_at_call 17; with_reducible (refine Calls.mono HA1.out ?_); rintro e w2 ⟨A3, c3, rfl, hb2⟩; obtain ⟨f0, f1, f2⟩ := HFH.out _ hb2)
    | (go_at_call 12; with_reducible (refine Calls.mono (HA2.out _ (chain HB0.out hb2)) ?_); rintro e w3 ⟨rfl, hb3⟩; have hx3 := chain HB0.out (chain hb2 hb3))
    | (go_at_call 11; with_reducible (refine Calls.mono (HAW.out _ hx3) ?_); rintro e w4 ⟨rfl, hb4⟩))
  go_ret
  exact ⟨rfl, chain hx3 hb4⟩

set_option maxHeartbeats 3200000 in
set_option maxRecDepth 20000 in
/-- TableImages, of a sound table. -/
theorem tableImages_yes (V : TabW) (t : Tab) (w : World) (HS : TableSpec w) (h : TabAt w w.heap.size V t) (ho : t.ok) (hs : t.sound) :
    Calls Try.prog 5 #[.agg (tabV V t)] w fun e w' => e = .returned (.bool true) ∧ Below w.heap.size w w' := by
  have hb0 : Below w.heap.size w (w.alloc (.cells (tabV V t) 26)) := (Below.refl _ _).alloc (Nat.le_refl _) _
  have hg0 := heap_alloc_new w (.cells (tabV V t) 26)
  obtain ⟨W0, hW0⟩ : ∃ W, W = w.alloc (.cells (tabV V t) 26) := ⟨_, rfl⟩
  rw [← hW0] at hb0 hg0
  have HT : ∀ X, Below w.heap.size w X → TabAt X X.heap.size V t := fun X hb => (h.below hb).more hb.size
  have HF : ∀ X, Below W0.heap.size W0 X → X.cell? ⟨w.heap.size, 0, none⟩ = some (.slice V.A1 t.ts.length V.c1) ∧ X.cell? ⟨w.heap.size, 1, none⟩ = some (.slice V.A2 t.vs.length V.c2) ∧ X.cell? ⟨w.heap.size, 2, none⟩ = some (.slice V.A3 t.os.length V.c3) := fun X hb => cellsL3 ((hb.block _ (Array.getElem?_eq_some_iff.1 hg0).1).trans hg0)
  have A1 := HS.image V t W0 hb0 (HT _ hb0) ho hs
  have HAW := Lib.hid (fun X (hb : Below w.heap.size w X) => tableAwake HS X hb)
  have A2 := fun X (hb : Below w.heap.size w X) => refSound16_any V t X (HT X hb) ho true (by simp [hs])
  have A3 := fun X (hb : Below w.heap.size w X) => refImage_any V t X (HT X hb) hs
  have hN200 := image_few hs
  obtain ⟨L, hL⟩ : ∃ L, L = imageR t := ⟨_, rfl⟩
  simp only [← hL] at A1 A3 hN200
  obtain ⟨N, hN⟩ : ∃ N, N = L.length := ⟨_, rfl⟩
  have HN := Lib.hid hN
  simp only [← hN] at A1 A3 hN200
  obtain ⟨f0, f1, f2⟩ := HF W0 (Below.refl _ _)
  unfold tabV at A1 A2 A3 hW0 ⊢
  have HA1 := Lib.hid A1
  have HA2 := Lib.hid A2
  have HA3 := Lib.hid A3
  have HFH := Lib.hid HF
  have HB0 := Lib.hid hb0
  clear A1 A2 A3 HF HT hb0 hg0 HS h ho hs hN hL
  go_enter Try.func5, Try.ntmps5
  go_wp2_with fail
  rw [← hW0]
  clear hW0
  go_wp2_with (first
    | (go_at_call 17; with_reducible (refine Calls.mono HA1.out ?_); rintro e w2 ⟨Ad, cd, rfl, hle2, hr2, _, hb2⟩; obtain ⟨f0, f1, f2⟩ := HFH.out _ hb2)
    | (go_at_call 12; with_reducible (refine Calls.mono (HA2.out _ (chain HB0.out hb2)) ?_); rintro e w3 ⟨rfl, hb3⟩; have hy3 := chain hb2 hb3; have hx3 := chain HB0.out hy3; obtain ⟨f0, f1, f2⟩ := HFH.out _ hy3)
    | (go_at_call 18; with_reducible (refine Calls.mono (HA3.out _ hx3) ?_); rintro e w4 ⟨Bd, dd, rfl, hle4, hr4, _, hb4⟩; have hx4 := chain hx3 hb4)
    | (go_at_call 11; with_reducible (refine Calls.mono (HAW.out _ hx4) ?_); rintro e w5 ⟨rfl, hb5⟩))
  have HX5 := Lib.hid (chain hx4 hb5)
  have HR1 : Hid (∀ m, RecsAt (w5.drewN m) (w5.drewN m).heap.size Ad L) := fun m => by
    have hb := chain hb3 (chain hb4 (chain hb5 (below_drewN (Below.refl _ _) m)))
    exact (hr2.below hb).more hb.size
  have HR2 : Hid (∀ m, RecsAt (w5.drewN m) (w5.drewN m).heap.size Bd L) := fun m => by
    have hb := chain hb5 (below_drewN (Below.refl _ _) m)
    exact (hr4.below hb).more hb.size
  clear f0 f1 f2 hr2 hr4 hb2 hb3 hy3 hx3 hb4 hx4 hb5 HA1 HA2 HA3 HFH HAW
  go_loopw [6] (fun iv wr => ∃ k m : Nat, k ≤ N ∧ iv = .int .i64 k ∧ wr = w5.drewN m) (fun iv _ => N - (intOf iv).toNat)
  case atStart => exact ⟨0, 0, Nat.zero_le _, rfl, rfl⟩
  case round =>
    obtain ⟨k, m, hk, rfl, hwm⟩ := hrel
    have k0 : (0 : Int) ≤ (k : Int) := by omega
    by_cases hlt : k < N
    · have k1 : (k : Int) < (N : Int) := by omega
      have hkx : k < L.length := by have := HN.out; omega
      obtain ⟨b1, o1, rfl, x0, x1, x2, x3, x4, x5⟩ := rec_cells6 (HR1.out m) hkx
      obtain ⟨b2, o2, rfl, y0, y1, y2, y3, y4, y5⟩ := rec_cells6 (HR2.out m) hkx
      obtain ⟨x, hx⟩ : ∃ x, x = L[k] := ⟨_, rfl⟩
      rw [← hx] at x0 x1 x2 x3 x4 x5 y0 y1 y2 y3 y4 y5
      have heq : ∀ W, (Op.equalIn 10000 42 (.agg (rcV x)) (.agg (rcV x))).run Try.prog W = .ok true W := fun W => by rw [eqRec_all, decide_eq_true rfl]
      clear hx
      obtain ⟨p0, p1, p2, p3, p4, p5⟩ := x
      simp only [rcV] at heq
      simp only at x0 x1 x2 x3 x4 x5 y0 y1 y2 y3 y4 y5
      rw [← hwm] at x0 x1 x2 x3 x4 x5 y0 y1 y2 y3 y4 y5
      have HWM := Lib.hid hwm
      clear hwm
      go_wp2
      go_quiet (fail)
      go_wp2
      go_roundw
      case rel => exact ⟨k + 1, m + nq, by omega, by go_num, by rw [HWM.out, World.drewN_drewN]⟩
      case measure => first | (simp [intOf]; done) | (simp [intOf]; omega)
    · have k1 : ¬ (k : Int) < (N : Int) := by omega
      have HWM := Lib.hid hwm
      clear hwm
      go_wp2
      go_ret
      exact ⟨rfl, by rw [HWM.out]; exact below_drewN HX5.out m⟩

/-- TableImages. -/
theorem tableImages_go (V : TabW) (t : Tab) (w : World) (HS : TableSpec w) (h : TabAt w w.heap.size V t) (ho : t.ok) :
    Calls Try.prog 5 #[.agg (tabV V t)] w fun e w' => e = .returned (.bool true) ∧ Below w.heap.size w w' := by
  by_cases hs : t.sound
  · exact tableImages_yes V t w HS h ho hs
  · exact tableImages_no V t w HS h ho hs

end Go.Proofs.Ytnenpafofplbhaa
