/-
  The landed vault: what is cleared behind an error; Open. The landed vault: Table, Generation; Commit. The landed vault: Commit.
-/
import Derived.Test.YtbnhkplhmanmoaaGreatVaultC10G
import Derived.Defers
namespace Go.Proofs.YtbnhkplhmanmoaaGreat
open Go.RowKit

theorem caught_ok (a : Addr) (fv : Value) (w : World) (hc : w.cell? a = some (.int .i64 0)) :
    CallsD Tryz.prog 21 #[.pointer (some a), fv] .returning w fun e u' w' => u' = .returning ∧ e = .returned (.tuple #[]) ∧ w' = w := by
  refine callsD_of_wp Tryz.func21 rfl ?_
  simp only [Tryz.ntmps21]
  go_wp2
  exact bodyPost_end (results_none rfl _ _ _) rfl ⟨rfl, rfl⟩
theorem commitC_any (b q : Nat) (x : Value) (w : World) (hb : w.cell? ⟨b, 0, none⟩ = some (.pointer (some ⟨q, 0, none⟩))) (hq : w.cell? ⟨q, 0, none⟩ = some x) (hz : w.frozen? ⟨q, 0, none⟩ = false) :
    Calls Tryz.prog 25 #[.pointer (some ⟨b, 0, none⟩)] w fun e w' => e = .returned (.tuple #[]) ∧ w' = w.setCell ⟨q, 0, none⟩ (.pointer none) := by
  go_enter Tryz.func25, Tryz.ntmps25
  go_wp2
  exact bodyPost_end (results_none rfl _ _ _) rfl ⟨rfl, rfl⟩
theorem caught_no (a : Addr) (E : Int) (b q : Nat) (x : Value) (w : World) (hc : w.cell? a = some (.int .i64 E)) (hE : E ≠ 0) (hb : w.cell? ⟨b, 0, none⟩ = some (.pointer (some ⟨q, 0, none⟩))) (hq : w.cell? ⟨q, 0, none⟩ = some x) (hz : w.frozen? ⟨q, 0, none⟩ = false) :
    CallsD Tryz.prog 21 #[.pointer (some a), .func (.func 25) #[] #[.pointer (some ⟨b, 0, none⟩)]] .returning w fun e u' w' => u' = .returning ∧ e = .returned (.tuple #[]) ∧ w' = w.setCell ⟨q, 0, none⟩ (.pointer none) := by
  have hE2 : (E != 0) = true := by rw [bne_iff_ne]; exact hE
  have HC := Lib.hid (commitC_any b q x w hb hq hz)
  clear hb hq hz
  refine callsD_of_wp Tryz.func21 rfl ?_
  simp only [Tryz.ntmps21]
  go_wp2_with (go_at_call 25; with_reducible (refine Calls.mono HC.out ?_); rintro e w2 ⟨rfl, rfl⟩)
  exact bodyPost_end (results_none rfl _ _ _) rfl ⟨rfl, rfl⟩

/-- The two results' own blocks. -/
structure OpS (w X : World) (v : Value) (E : Int) : Prop where
  below : Below w.heap.size w X
  rv : X.heap[w.heap.size]? = some (.cells #[v] 27 (0, 0))
  re : X.heap[w.heap.size + 1]? = some (.cells #[.int .i64 E] 24 (0, 0))
theorem OpS.start (w : World) : OpS w ((w.alloc (.cells #[.pointer none] 27)).alloc (.cells #[.int .i64 0] 24)) (.pointer none) 0 := by
  have hb0 : Below w.heap.size w (w.alloc (.cells #[.pointer none] 27)) := (Below.refl _ _).alloc (Nat.le_refl _) _
  refine ⟨hb0.alloc hb0.size _, by rw [Below.heap_alloc _ _ _ (by simp)]; exact heap_alloc_new _ _, ?_⟩
  have := heap_alloc_new (w.alloc (.cells #[.pointer none] 27)) (.cells #[.int .i64 0] 24)
  rwa [show (w.alloc (.cells #[.pointer none] 27)).heap.size = w.heap.size + 1 by simp] at this
section
variable {w X Y : World} {v : Value} {E : Int}
theorem OpS.later (h : OpS w X v E) (hb : Below X.heap.size X Y) : OpS w Y v E := ⟨chain h.below hb, (hb.block _ (Array.getElem?_eq_some_iff.1 h.rv).1).trans h.rv, (hb.block _ (Array.getElem?_eq_some_iff.1 h.re).1).trans h.re⟩
theorem OpS.cells (h : OpS w X v E) : X.cell? ⟨w.heap.size, 0, none⟩ = some v ∧ X.frozen? ⟨w.heap.size, 0, none⟩ = false ∧ X.cell? ⟨w.heap.size + 1, 0, none⟩ = some (.int .i64 E) ∧ X.frozen? ⟨w.heap.size + 1, 0, none⟩ = false :=
  ⟨by rw [cell_of_row _ _ _ _ _ _ h.rv]; rfl, frozen_of_row _ _ _ _ _ h.rv, by rw [cell_of_row _ _ _ _ _ _ h.re]; rfl, frozen_of_row _ _ _ _ _ h.re⟩
theorem OpS.away (h : OpS w X v E) {q : Nat} (hq : w.heap.size + 1 < q) (ha : Away (fun b => b = q) X Y) : OpS w Y v E := by
  have hs := (Array.getElem?_eq_some_iff.1 h.re).1
  exact ⟨ha.below (fun k hk => by have hk : k = q := hk; omega) h.below h.below.size, (ha.block _ (by omega) (by omega)).trans h.rv, (ha.block _ hs (by omega)).trans h.re⟩
theorem OpS.setE (h : OpS w X v E) (E2 : Int) : OpS w (X.setCell ⟨w.heap.size + 1, 0, none⟩ (.int .i64 E2)) v E2 := by
  have hs := setc_same X (w.heap.size + 1) 0 (.int .i64 E2) _ _ h.re
  exact ⟨h.below.setCell (Nat.le_succ _) _, (setc_other _ _ _ _ _ (by omega)).trans h.rv, hs⟩
theorem OpS.setV (h : OpS w X v E) (v2 : Value) : OpS w (X.setCell ⟨w.heap.size, 0, none⟩ v2) v2 E := by
  have hs := setc_same X w.heap.size 0 v2 _ _ h.rv
  exact ⟨h.below.setCell (Nat.le_refl _) _, hs, (setc_other _ _ _ _ _ (by omega)).trans h.re⟩
end
/-- Another block is written. -/
theorem VtAt.other {Rep : World → Nat → (Nat → Prop) → Dk → Prop} (L : Lows Rep) {X Y : World} {p q k lo : Nat} {F : Nat → Prop} {s : Dk} {d : Option Addr} {V : TabW} {v : Vt} (h : VtAt Rep X p q F s d V v) (hf : TabFrom lo V) (hk : k < lo) (hF : ¬ F k) (hq : k ≠ q) (hs : X.heap.size ≤ Y.heap.size) (ho : ∀ j, j ≠ k → Y.heap[j]? = X.heap[j]?) : VtAt Rep Y p q F s d V v :=
  ⟨(L.d X).keep X Y p F s h.rep fun b hb => ho b fun e => hF (e ▸ hb), h.nq, (ho q (Ne.symm hq)).trans h.cells, (h.tab.other hf hk ho).more hs, h.off⟩
section
variable {Rep : World → Nat → (Nat → Prop) → Dk → Prop} (L : Lows Rep)
include L
set_option maxHeartbeats 3200000 in
set_option maxRecDepth 20000 in
/-- 'Open', with a number of slots that none has. -/
theorem open_slots (d : Option Addr) (n : Int) (w : World) (hn : I64n n) (hr : ¬ inR n 1 64) :
    Calls Tryz.prog 8 #[.pointer d, .int .i64 n] w fun e w' => e = .returned (.tuple #[.pointer none, .int .i64 1]) ∧ Below w.heap.size w w' := by
  have hb0 : Below w.heap.size w (w.alloc (.cells #[.pointer none] 27)) := (Below.refl _ _).alloc (Nat.le_refl _) _
  have hb1 := hb0.alloc hb0.size (.cells #[.int .i64 0] 24)
  have H1 := Lib.hid (fun (W : World) => (L.t W).newNo n W (Below.refl _ _) hn hr)
  unfold tabV at H1
  go_enter_defers Tryz.func8, Tryz.ntmps8
  go_wp2_with (first
    | (go_at_call 19; with_reducible (refine Calls.mono (H1.out _) ?_); rintro e w1 ⟨V1, rfl, hb⟩
       have HO := Lib.hid (((OpS.start w).later hb).later ((Below.refl w1.heap.size w1).alloc (Nat.le_refl _) (.cells #[.slice V1.A1 Tab.zero.ts.length V1.c1, .slice V1.A2 Tab.zero.vs.length V1.c2, .slice V1.A3 Tab.zero.os.length V1.c3] 35)))
       obtain ⟨x0, x1, x2, x3⟩ := HO.out.cells
       have HO2 := Lib.hid (HO.out.setE 1)
       obtain ⟨y0, y1, y2, y3⟩ := HO2.out.cells
       clear hb))
  have HO3 := (HO2.out.setV (.pointer none)).setE 1
  obtain ⟨z0, _, z2, _⟩ := HO3.cells
  have hb3 := Lib.hid HO3.below
  clear HO3
  simp [bodyPostD, Leaves, results, Tryz.results8, go_sem, z0, z2]
  exact hb3.out

set_option maxHeartbeats 3200000 in
set_option maxRecDepth 20000 in
/-- 'Open', of no disk, or one that is too small. -/
theorem open_areas (d : Option Addr) (n : Nat) (w : World) (n1 : 1 ≤ n) (n2 : n ≤ 64) (ha : ∀ W, Below w.heap.size w W → Calls Tryz.prog 20 #[.pointer d] W fun e w' => e = .returned (.bool false) ∧ Below W.heap.size W w') :
    Calls Tryz.prog 8 #[.pointer d, .int .i64 (n : Int)] w fun e w' => e = .returned (.tuple #[.pointer none, .int .i64 1]) ∧ Below w.heap.size w w' := by
  have H1 := Lib.hid (fun (W : World) => (L.t W).new n W (Below.refl _ _) n1 n2)
  have HA := Lib.hid ha
  have hnot : ∀ (x : Bool) (w : World), (Op.unary .not (.bool x)).run Tryz.prog w = .ok (.bool (!x)) w := fun _ _ => rfl
  unfold tabV at H1
  clear ha
  go_enter_defers Tryz.func8, Tryz.ntmps8
  go_wp2_with (first
    | (go_at_call 19; with_reducible (refine Calls.mono (H1.out _) ?_); rintro e w1 ⟨V1, rfl, _, _, hb⟩
       have HO := Lib.hid (((OpS.start w).later hb).later ((Below.refl w1.heap.size w1).alloc (Nat.le_refl _) (.cells #[.slice V1.A1 (newR n).ts.length V1.c1, .slice V1.A2 (newR n).vs.length V1.c2, .slice V1.A3 (newR n).os.length V1.c3] 35)))
       obtain ⟨x0, x1, x2, x3⟩ := HO.out.cells
       have HO2 := Lib.hid (HO.out.setE 0)
       obtain ⟨y0, y1, y2, y3⟩ := HO2.out.cells
       clear hb)
    | (go_at_call 20; with_reducible (refine Calls.mono (HA.out _ HO2.out.below) ?_); rintro e w2 ⟨rfl, hb2⟩
       have HO4 := Lib.hid (HO2.out.later hb2)
       obtain ⟨u0, u1, u2, u3⟩ := HO4.out.cells
       clear hb2 x0 x1 x2 x3 y0 y1 y2 y3))
  have HO3 := (HO4.out.setV (.pointer none)).setE 1
  obtain ⟨z0, _, z2, _⟩ := HO3.cells
  have hb3 := Lib.hid HO3.below
  clear HO3
  simp [bodyPostD, Leaves, results, Tryz.results8, go_sem, z0, z2]
  exact hb3.out

set_option maxHeartbeats 6400000 in
set_option maxRecDepth 20000 in
/-- 'Open', of a disk that keeps a table. -/
theorem open_yes (p : Nat) (F : Nat → Prop) (s : Dk) (n : Nat) (t : Tab) (a : Nat) (g K : Int) (w : World) (h : Rep w p F s) (ho : s.off = false) (hpe : s.pend = []) (hl : 384 ≤ s.last.length) (n1 : 1 ≤ n) (n2 : n ≤ 64) (hH : Holds s.last n t a g K) :
    Calls Tryz.prog 8 #[.pointer (some ⟨p, 0, none⟩), .int .i64 (n : Int)] w fun e w' => ∃ q V, e = .returned (.tuple #[.pointer (some ⟨q, 0, none⟩), .int .i64 0]) ∧ VtAt Rep w' p q F s (some ⟨p, 0, none⟩) V ⟨t, a, g, 192⟩ ∧ w.heap.size ≤ q ∧ Below w.heap.size w w' := by
  have H1 := Lib.hid (fun (W : World) => (L.t W).new n W (Below.refl _ _) n1 n2)
  have HA := Lib.hid (fun (W : World) (hb : Below w.heap.size w W) => areas_yes L p F s W (L.keep h hb) hl)
  have HLD := Lib.hid (fun (q : Nat) (V : TabW) (W : World) (hv : VtAt Rep W p q F s (some ⟨p, 0, none⟩) V ⟨newR n, 0, 0, 0⟩) => load_any L p q F s n t a g K V W hv ho hpe hl n1 n2 hH)
  have HVT : Hid (∀ (V : TabW) (w1 X : World), Below w.heap.size w w1 → TabAt w1 w1.heap.size V (newR n) → TabFrom w.heap.size V → Below w1.heap.size w1 X → VtAt Rep (X.alloc (.cells #[.pointer (some ⟨p, 0, none⟩), .slice V.A1 (newR n).ts.length V.c1, .slice V.A2 (newR n).vs.length V.c2, .slice V.A3 (newR n).os.length V.c3, .int .i64 0, .int .i64 0, .int .i64 0] 68)) p X.heap.size F s (some ⟨p, 0, none⟩) V ⟨newR n, 0, 0, 0⟩) := fun V w1 X q1 q2 q3 q4 => by
    have hba : Below X.heap.size X (X.alloc (.cells #[.pointer (some ⟨p, 0, none⟩), .slice V.A1 (newR n).ts.length V.c1, .slice V.A2 (newR n).vs.length V.c2, .slice V.A3 (newR n).os.length V.c3, .int .i64 0, .int .i64 0, .int .i64 0] 68)) := (Below.refl _ _).alloc (Nat.le_refl _) _
    have hsz := (chain q1 q4).size
    refine ⟨L.keep h (chain (chain q1 q4) hba), fun hF => ?_, heap_alloc_new X _, ((q2.below q4).below (hba.mono q4.size)).more (chain q4 hba).size, TabOff.of q2 q3 fun b hN => ?_⟩
    · have := L.lt h hF; omega
    · rcases hN with hN | hN
      · exact .inl (L.lt h hN)
      · have := q4.size; exact .inr (by omega)
  have hlt : Hid (∀ b, F b → b < w.heap.size) := fun b hb => L.lt h hb
  have hnot : ∀ (x : Bool) (w : World), (Op.unary .not (.bool x)).run Tryz.prog w = .ok (.bool (!x)) w := fun _ _ => rfl
  have hmf : ∀ (fn : Fn) (first cap : Array Value) (w : World), (Instr.makeFunc fn first cap).run Tryz.prog w = .ok (.func fn first cap) w := fun _ _ _ _ => rfl
  have HLL := Lib.hid L
  obtain ⟨l1, hl1⟩ : ∃ x, x = (newR n).ts.length := ⟨_, rfl⟩
  obtain ⟨l2, hl2⟩ : ∃ x, x = (newR n).vs.length := ⟨_, rfl⟩
  obtain ⟨l3, hl3⟩ : ∃ x, x = (newR n).os.length := ⟨_, rfl⟩
  unfold tabV at H1
  simp only [← hl1, ← hl2, ← hl3] at H1 HVT
  clear h ho hpe hl n1 n2 hH hl1 hl2 hl3 L
  go_enter_defers Tryz.func8, Tryz.ntmps8
  go_wp2_with (first
    | (go_at_call 19; with_reducible (refine Calls.mono (H1.out _) ?_); rintro e w1 ⟨V1, rfl, hT1, hF1, hb⟩
       have hbx := (OpS.start w).later hb
       have HB1 := Lib.hid hbx
       have hsz1 : w.heap.size + 2 ≤ w1.heap.size := by have := hb.size; simpa using this
       have hf2 : TabFrom (w.heap.size + 2) V1 := by simpa using hF1
       have HF1 := Lib.hid hf2
       have HT1 := Lib.hid hT1
       have hba := (Below.refl w1.heap.size w1).alloc (Nat.le_refl _) (.cells #[.slice V1.A1 l1 V1.c1, .slice V1.A2 l2 V1.c2, .slice V1.A3 l3 V1.c3] 35)
       have HO := Lib.hid (hbx.later hba)
       have hg1 := heap_alloc_new w1 (.cells #[.slice V1.A1 l1 V1.c1, .slice V1.A2 l2 V1.c2, .slice V1.A3 l3 V1.c3] 35)
       have HG1 : Hid (((w1.alloc (.cells #[.slice V1.A1 l1 V1.c1, .slice V1.A2 l2 V1.c2, .slice V1.A3 l3 V1.c3] 35)).setCell ⟨w.heap.size + 1, 0, none⟩ (.int .i64 0)).heap[w1.heap.size]? = some (.cells #[.slice V1.A1 l1 V1.c1, .slice V1.A2 l2 V1.c2, .slice V1.A3 l3 V1.c3] 35 (0, 0))) := (setc_other _ _ _ _ _ (by omega)).trans hg1
       have HTX : Hid (TabAt ((w1.alloc (.cells #[.slice V1.A1 l1 V1.c1, .slice V1.A2 l2 V1.c2, .slice V1.A3 l3 V1.c3] 35)).setCell ⟨w.heap.size + 1, 0, none⟩ (.int .i64 0)) w1.heap.size V1 (newR n)) := (hT1.below hba).other hF1 (by simp) fun k hk => setc_other _ _ _ _ _ (Ne.symm hk)
       obtain ⟨x0, x1, x2, x3⟩ := HO.out.cells
       have HO2 := Lib.hid (HO.out.setE 0)
       obtain ⟨y0, y1, y2, y3⟩ := HO2.out.cells
       have HS1 := Lib.hid hsz1
       clear hb hbx hT1 hF1 hba hg1 hsz1 hf2)
    | (go_at_call 20; with_reducible (refine Calls.mono (HA.out _ HO2.out.below) ?_); rintro e w2 ⟨rfl, hb2⟩
       have HO4 := Lib.hid (HO2.out.later hb2)
       obtain ⟨u0, u1, u2, u3⟩ := HO4.out.cells
       have hg2 := (hb2.block _ (Array.getElem?_eq_some_iff.1 HG1.out).1).trans HG1.out
       obtain ⟨k0, k1, k2⟩ := cells3 hg2
       have hX1 := HO2.out.below
       have h3 : w1.heap.size ≤ ((w1.alloc (.cells #[.slice V1.A1 l1 V1.c1, .slice V1.A2 l2 V1.c2, .slice V1.A3 l3 V1.c3] 35)).setCell ⟨w.heap.size + 1, 0, none⟩ (.int .i64 0)).heap.size := (by simp [World.setCell])
       have hlt2 : w.heap.size + 2 ≤ w2.heap.size := Nat.le_trans HS1.out (Nat.le_trans h3 hb2.size)
       have hvt := HVT.out V1 _ w2 hX1 (HTX.out.more (by simp [World.setCell])) (from_less (Nat.le_add_right _ 2) HF1.out) hb2
       have hba2 := (Below.refl w2.heap.size w2).alloc (Nat.le_refl _) (.cells #[.pointer (some ⟨p, 0, none⟩), .slice V1.A1 l1 V1.c1, .slice V1.A2 l2 V1.c2, .slice V1.A3 l3 V1.c3, .int .i64 0, .int .i64 0, .int .i64 0] 68)
       have HO5 := Lib.hid (HO4.out.later hba2)
       obtain ⟨i0, i1, i2, i3⟩ := HO5.out.cells
       have HO6 := Lib.hid (HO5.out.setV (.pointer (some ⟨w2.heap.size, 0, none⟩)))
       have hHs : w.heap.size < w.heap.size + 2 := by omega
       have HVT6 := Lib.hid (hvt.other (Y := (w2.alloc (.cells #[.pointer (some ⟨p, 0, none⟩), .slice V1.A1 l1 V1.c1, .slice V1.A2 l2 V1.c2, .slice V1.A3 l3 V1.c3, .int .i64 0, .int .i64 0, .int .i64 0] 68)).setCell ⟨w.heap.size, 0, none⟩ (.pointer (some ⟨w2.heap.size, 0, none⟩))) HLL.out HF1.out hHs (fun hF => Nat.lt_irrefl _ (hlt.out _ hF)) (by omega) (by simp [World.setCell]) (fun j hj => setc_other _ _ _ _ _ (Ne.symm hj)))
       have HL2 := Lib.hid hlt2
       clear hb2 hg2 x0 x1 x2 x3 y0 y1 y2 y3 hvt hba2 hX1 hlt2 hHs HTX HG1 h3))
  obtain ⟨W3, hW3⟩ : ∃ W, W = (w2.alloc (.cells #[.pointer (some ⟨p, 0, none⟩), .slice V1.A1 l1 V1.c1, .slice V1.A2 l2 V1.c2, .slice V1.A3 l3 V1.c3, .int .i64 0, .int .i64 0, .int .i64 0] 68)).setCell ⟨w.heap.size, 0, none⟩ (.pointer (some ⟨w2.heap.size, 0, none⟩)) := ⟨_, rfl⟩
  obtain ⟨q, hq⟩ : ∃ q, q = w2.heap.size := ⟨_, rfl⟩
  rw [← hW3] at HVT6 HO6
  rw [← hW3]
  rw [← hq] at HVT6 HO6 HL2
  rw [← hq]
  have hbd : Below W3.heap.size W3 W3.drew := (Below.refl _ _).drew
  have ho3 := HO6.out.later hbd
  have hv3 := Lib.hid (HVT6.out.later HLL.out hbd)
  have HO3 := Lib.hid ho3
  have HS3 := Lib.hid ho3.cells.1
  have HSS : Hid (∀ X, OpS w X (.pointer (some ⟨q, 0, none⟩)) 0 → X.cell? ⟨w.heap.size, 0, none⟩ = some (.pointer (some ⟨q, 0, none⟩))) := fun X h => h.cells.1
  have HS7 : Hid (w.heap.size + 1 < q) := HL2.out
  clear hW3 hq hbd ho3 HVT6 HO6 HO5 HO4 HO2 HO HB1 HF1 HT1 HA H1 HVT HL2 HS1 u0 u1 u2 u3 k0 k1 k2 i0 i1 i2 i3
  go_region_held3 (fun X => X.cell? ⟨w.heap.size, 0, none⟩ = some (.pointer (some ⟨q, 0, none⟩)))
    (first | exact HS3.out | exact HSS.out _ HO7.out | exact HSS.out _ HO8.out | exact HSS.out _ HO9.out)
    (first
      | (go_at_call 23; with_reducible (refine Calls.mono (HLD.out q V1 _ hv3.out) ?_); rintro e w5 ⟨rfl, ⟨V5, hv5, hf5⟩, ha5⟩; have ho7 := HO3.out.away HS7.out ha5; have HO7 := Lib.hid ho7; have HO8 := Lib.hid (ho7.setV (.pointer (some ⟨q, 0, none⟩))); have HO9 := Lib.hid (HO8.out.setE 0); have HV5 := Lib.hid hv5; have HF5 := Lib.hid hf5; obtain ⟨x0, x1, x2, x3⟩ := ho7.cells; obtain ⟨y0, y1, y2, y3⟩ := HO8.out.cells; clear hv5 hf5 ha5 ho7)
      | fail)
  have hsz : w.heap.size + 2 ≤ W3.drew.heap.size := (Array.getElem?_eq_some_iff.1 HO3.out.re).1
  have HV8 : Hid (VtAt Rep ((w5.setCell ⟨w.heap.size, 0, none⟩ (.pointer (some ⟨q, 0, none⟩))).setCell ⟨w.heap.size + 1, 0, none⟩ (.int .i64 0)) p q F s (some ⟨p, 0, none⟩) V5 ⟨t, a, g, 192⟩) := by
    have hq := HS7.out
    have h8 := HV5.out.other HLL.out HF5.out (by omega) (fun hF => Nat.lt_irrefl _ (hlt.out _ hF)) (show w.heap.size ≠ q by omega) (Y := w5.setCell ⟨w.heap.size, 0, none⟩ (.pointer (some ⟨q, 0, none⟩))) (by simp [World.setCell]) (fun j hj => setc_other _ _ _ _ _ (Ne.symm hj))
    exact h8.other HLL.out HF5.out (by omega) (fun hF => by have := hlt.out _ hF; omega) (show w.heap.size + 1 ≠ q by omega) (by simp [World.setCell]) (fun j hj => setc_other _ _ _ _ _ (Ne.symm hj))
  obtain ⟨z0, _, z2, _⟩ := HO9.out.cells
  have hb9 := Lib.hid HO9.out.below
  have hle : w.heap.size ≤ q := by have := HS7.out; omega
  clear hsz x0 x1 x2 x3 y0 y1 y2 y3 HO8 HO7 HS3 HSS
  go_wp2
  refine leaves_cons (f := 21) (args := #[.pointer (some ⟨w.heap.size + 1, 0, none⟩), .func (.func 22) #[] #[.pointer (some ⟨w.heap.size, 0, none⟩)]]) (by simp) (by simp [go_sem]) ?_
  refine (caught_ok ⟨w.heap.size + 1, 0, none⟩ _ _ z2).mono ?_
  rintro e u' w'' ⟨rfl, rfl, rfl⟩
  simp [Leaves, settle, results, Tryz.results8, go_sem, z0, z2]
  exact ⟨⟨V5, HV8.out⟩, hle, hb9.out⟩
end

end Go.Proofs.YtbnhkplhmanmoaaGreat

namespace Go.Proofs.YtbnhkplhmanmoaaGreat
open Go.RowKit

theorem gen_nil (w : World) : Calls Tryz.prog 16 #[.pointer none] w fun e w' => e = .returned (.int .i64 0) ∧ w' = w := by
  go_enter Tryz.func16, Tryz.ntmps16
  go_wp2
  go_ret
  exact ⟨rfl, rfl⟩
theorem table_nil (w : World) : Calls Tryz.prog 15 #[.pointer none] w fun e w' => e = .returned (.agg #[.slice none 0 0, .slice none 0 0, .slice none 0 0]) ∧ Below w.heap.size w w' := by
  have hb0 : Below w.heap.size w (w.alloc (.cells #[.slice none 0 0, .slice none 0 0, .slice none 0 0] 35)) := (Below.refl _ _).alloc (Nat.le_refl _) _
  have hg0 := heap_alloc_new w (.cells #[.slice none 0 0, .slice none 0 0, .slice none 0 0] 35)
  obtain ⟨W0, hW0⟩ : ∃ W, W = w.alloc (.cells #[.slice none 0 0, .slice none 0 0, .slice none 0 0] 35) := ⟨_, rfl⟩
  rw [← hW0] at hb0 hg0
  have HE := Lib.hid (And.intro hg0 hb0)
  clear hb0 hg0
  go_enter Tryz.func15, Tryz.ntmps15
  go_wp2_with fail
  rw [← hW0]
  clear hW0
  refine bodyPost_ret (results_cell_row rfl _ _ w.heap.size 35 _ (0, 0) _ rfl HE.out.1 Tryz.underlying35 rfl (by kernel_rfl)) rfl ?_
  exact ⟨rfl, HE.out.2⟩
theorem commit_nil (A : Option Addr) (l c : Nat) (w : World) : Calls Tryz.prog 10 #[.pointer none, .slice A l c] w fun e w' => e = .returned (.int .i64 11) ∧ Below w.heap.size w w' := by
  have hb0 : Below w.heap.size w (w.alloc (.cells #[.pointer none] 27)) := (Below.refl _ _).alloc (Nat.le_refl _) _
  have hb1 := hb0.alloc hb0.size (.cells #[.int .i64 11] 24)
  have HB := Lib.hid hb1
  clear hb0 hb1
  go_enter_defers Tryz.func10, Tryz.ntmps10
  go_wp2
  simp [bodyPostD, Leaves, results, Tryz.results10, go_sem]
  exact HB.out
section
variable {Rep : World → Nat → (Nat → Prop) → Dk → Prop}
theorem gen_any {w : World} {p q : Nat} {F : Nat → Prop} {s : Dk} {d : Option Addr} {V : TabW} {v : Vt} (h : VtAt Rep w p q F s d V v) : Calls Tryz.prog 16 #[.pointer (some ⟨q, 0, none⟩)] w fun e w' => e = .returned (.int .i64 v.g) ∧ w' = w := by
  have hc := h.cells
  unfold vtC at hc
  obtain ⟨_, _, _, _, _, c5, _⟩ := cells7 hc
  clear hc h
  go_enter Tryz.func16, Tryz.ntmps16
  go_wp2
  go_ret
  exact ⟨rfl, rfl⟩
variable (L : Lows Rep)
include L
set_option maxHeartbeats 1600000 in
theorem table_any {w : World} {p q : Nat} {F : Nat → Prop} {s : Dk} {d : Option Addr} {V : TabW} {v : Vt} (h : VtAt Rep w p q F s d V v) (hs : v.t.sound) :
    Calls Tryz.prog 15 #[.pointer (some ⟨q, 0, none⟩)] w fun e w' => ∃ V', e = .returned (.agg #[.slice V'.A1 v.t.ts.length V'.c1, .slice V'.A2 v.t.vs.length V'.c2, .slice V'.A3 v.t.os.length V'.c3]) ∧ TabAt w' w'.heap.size V' v.t ∧ TabFrom w.heap.size V' ∧ Below w.heap.size w w' := by
  have hb0 : Below w.heap.size w (w.alloc (.cells #[.slice none 0 0, .slice none 0 0, .slice none 0 0] 35)) := (Below.refl _ _).alloc (Nat.le_refl _) _
  have hg0 := heap_alloc_new w (.cells #[.slice none 0 0, .slice none 0 0, .slice none 0 0] 35)
  obtain ⟨W0, hW0⟩ : ∃ W, W = w.alloc (.cells #[.slice none 0 0, .slice none 0 0, .slice none 0 0] 35) := ⟨_, rfl⟩
  rw [← hW0] at hb0 hg0
  have HA : Hid (Calls Tryz.prog 24 #[.agg #[.slice V.A1 v.t.ts.length V.c1, .slice V.A2 v.t.vs.length V.c2, .slice V.A3 v.t.os.length V.c3], .slice none 0 0] W0 fun e w' => ∃ V', e = .returned (.tuple #[.agg #[.slice V'.A1 v.t.ts.length V'.c1, .slice V'.A2 v.t.vs.length V'.c2, .slice V'.A3 v.t.os.length V'.c3], .int .i64 0]) ∧ TabAt w' w'.heap.size V' v.t ∧ TabFrom W0.heap.size V' ∧ Below W0.heap.size W0 w') := by
    have := (L.t W0).apply V v.t none 0 [] W0 (Below.refl _ _) ((h.tab.below hb0).more hb0.size) (sound_ok hs) (RecsAt.nil _ _ _) (Nat.le_refl _) (fun r hr => absurd hr (List.not_mem_nil)) (by decide)
    rw [show applyR v.t [] = (0, v.t) from apply_one hs] at this
    exact this
  have hc := (hb0.block _ (Array.getElem?_eq_some_iff.1 h.cells).1).trans h.cells
  unfold vtC at hc
  obtain ⟨_, c1, c2, c3, _⟩ := cells7 hc
  have hq : q < w.heap.size := (Array.getElem?_eq_some_iff.1 h.cells).1
  have HG : Hid (∀ X, Below W0.heap.size W0 X → X.heap[w.heap.size]? = some (.cells #[.slice none 0 0, .slice none 0 0, .slice none 0 0] 35 (0, 0))) := fun X hb => (hb.block _ (Array.getElem?_eq_some_iff.1 hg0).1).trans hg0
  have HB0 := Lib.hid hb0
  have HW0 := Lib.hid hW0
  have hs0 : W0.heap.size = w.heap.size + 1 := by rw [hW0]; simp
  have HS0 := Lib.hid hs0
  rw [hW0] at c1 c2 c3
  clear hc hb0 hg0 h hs L hs0 hW0
  go_enter Tryz.func15, Tryz.ntmps15
  go_wp2_with (go_at_call 24; rw [← HW0.out]; with_reducible (refine Calls.mono HA.out ?_); rintro e w2 ⟨V2, rfl, hT, hF, hb⟩
               have hba := (Below.refl w2.heap.size w2).alloc (Nat.le_refl _) (.cells #[.slice V2.A1 v.t.ts.length V2.c1, .slice V2.A2 v.t.vs.length V2.c2, .slice V2.A3 v.t.os.length V2.c3] 35)
               have hg := HG.out _ (chain hb hba)
               have HG2 := Lib.hid hg
               obtain ⟨z0, z1, z2⟩ := cells3 hg
               have z3 := frozen_of_row _ _ 0 _ _ hg
               have z4 := frozen_of_row _ _ 1 _ _ hg
               have z5 := frozen_of_row _ _ 2 _ _ hg
               have HB2 := Lib.hid (chain HB0.out (chain hb hba))
               have HT := Lib.hid ((hT.below hba).more hba.size)
               have HF := Lib.hid hF
               clear hb hba hg hT hF c1 c2 c3)
  have hs := set3 (.slice V2.A1 v.t.ts.length V2.c1) (.slice V2.A2 v.t.vs.length V2.c2) (.slice V2.A3 v.t.os.length V2.c3) HG2.out
  refine bodyPost_ret (results_cell_row rfl _ _ w.heap.size 35 _ (0, 0) _ rfl hs.1 Tryz.underlying35 rfl (by kernel_rfl)) rfl ?_
  exact ⟨V2, rfl, (HT.out.other HF.out (by rw [HS0.out]; omega) fun k hk => setCells_other w.heap.size k hk [.slice V2.A1 v.t.ts.length V2.c1, .slice V2.A2 v.t.vs.length V2.c2, .slice V2.A3 v.t.os.length V2.c3] 0 _).more hs.2.size, from_less (by rw [HS0.out]; omega) HF.out, grown_below HB2.out hs.2 HB2.out.size (Nat.le_refl _)⟩
end

end Go.Proofs.YtbnhkplhmanmoaaGreat

namespace Go.Proofs.YtbnhkplhmanmoaaGreat
open Go.RowKit

/-- Where a call's own two blocks lie: the vault's pointer, and the error. -/
structure CoS (w X : World) (q : Nat) (E : Int) : Prop where
  rv : X.heap[w.heap.size]? = some (.cells #[.pointer (some ⟨q, 0, none⟩)] 27 (0, 0))
  re : X.heap[w.heap.size + 1]? = some (.cells #[.int .i64 E] 24 (0, 0))
theorem CoS.start (w : World) (q : Nat) : CoS w ((w.alloc (.cells #[.pointer (some ⟨q, 0, none⟩)] 27)).alloc (.cells #[.int .i64 0] 24)) q 0 := by
  refine ⟨by rw [Below.heap_alloc _ _ _ (by simp)]; exact heap_alloc_new _ _, ?_⟩
  have := heap_alloc_new (w.alloc (.cells #[.pointer (some ⟨q, 0, none⟩)] 27)) (.cells #[.int .i64 0] 24)
  rwa [show (w.alloc (.cells #[.pointer (some ⟨q, 0, none⟩)] 27)).heap.size = w.heap.size + 1 by simp] at this
section
variable {w X Y : World} {q : Nat} {E : Int}
theorem CoS.later (h : CoS w X q E) (hb : Below X.heap.size X Y) : CoS w Y q E := ⟨(hb.block _ (Array.getElem?_eq_some_iff.1 h.rv).1).trans h.rv, (hb.block _ (Array.getElem?_eq_some_iff.1 h.re).1).trans h.re⟩
theorem CoS.away (h : CoS w X q E) {N : Nat → Prop} (ha : Away N X Y) (hN : ∀ b, N b → b < w.heap.size) : CoS w Y q E := by
  have h1 := (Array.getElem?_eq_some_iff.1 h.rv).1
  have h2 := (Array.getElem?_eq_some_iff.1 h.re).1
  exact ⟨(ha.block _ h1 fun q => by have := hN _ q; omega).trans h.rv, (ha.block _ h2 fun q => by have := hN _ q; omega).trans h.re⟩
theorem CoS.cells (h : CoS w X q E) : X.cell? ⟨w.heap.size, 0, none⟩ = some (.pointer (some ⟨q, 0, none⟩)) ∧ X.cell? ⟨w.heap.size + 1, 0, none⟩ = some (.int .i64 E) ∧ X.frozen? ⟨w.heap.size + 1, 0, none⟩ = false :=
  ⟨by rw [cell_of_row _ _ _ _ _ _ h.rv]; rfl, by rw [cell_of_row _ _ _ _ _ _ h.re]; rfl, frozen_of_row _ _ _ _ _ h.re⟩
theorem CoS.setE (h : CoS w X q E) (E2 : Int) : CoS w (X.setCell ⟨w.heap.size + 1, 0, none⟩ (.int .i64 E2)) q E2 := by
  have hs := setc_same X (w.heap.size + 1) 0 (.int .i64 E2) _ _ h.re
  exact ⟨(setc_other _ _ _ _ _ (by omega)).trans h.rv, hs⟩
end
theorem apply_err {t : Tab} {l : List Rc} (h : (applyR t l).1 = 0) (hs : t.sound) : applyR t l = (0, (applyR t l).2) ∧ runR t l = (0, (applyR t l).2) := by
  have h1 : applyR t l = (0, (applyR t l).2) := Prod.ext h rfl
  exact ⟨h1, by rw [← apply_one hs]; exact h1⟩

section
variable {Rep : World → Nat → (Nat → Prop) → Dk → Prop}
/-- A vault without power. -/
theorem commit_dead {w : World} {p q : Nat} {F : Nat → Prop} {s : Dk} {V : TabW} {v : Vt} (h : VtAt Rep w p q F s none V v) (A : Option Addr) (l c : Nat) :
    Calls Tryz.prog 10 #[.pointer (some ⟨q, 0, none⟩), .slice A l c] w fun e w' => e = .returned (.int .i64 8) ∧ Below w.heap.size w w' := by
  have hb0 : Below w.heap.size w (w.alloc (.cells #[.pointer (some ⟨q, 0, none⟩)] 27)) := (Below.refl _ _).alloc (Nat.le_refl _) _
  have hb1 := hb0.alloc hb0.size (.cells #[.int .i64 0] 24)
  have hc := (hb1.block _ (Array.getElem?_eq_some_iff.1 h.cells).1).trans h.cells
  unfold vtC at hc
  obtain ⟨c0, _⟩ := cells7 hc
  have HO := CoS.start w q
  obtain ⟨y0, y1, y2⟩ := HO.cells
  have HB : Hid (Below w.heap.size w ((w.alloc (.cells #[.pointer (some ⟨q, 0, none⟩)] 27)).alloc (.cells #[.int .i64 8] 24))) := hb0.alloc hb0.size _
  clear hc hb0 hb1 h HO
  go_enter_defers Tryz.func10, Tryz.ntmps10
  go_wp2
  simp [bodyPostD, Leaves, results, Tryz.results10, go_sem]
  exact HB.out
variable (L : Lows Rep)
include L
set_option maxHeartbeats 3200000 in
set_option maxRecDepth 20000 in
/-- Changes that are not done, or none. -/
theorem commit_not {w : World} {p q : Nat} {F : Nat → Prop} {s : Dk} {V : TabW} {v : Vt} (h : VtAt Rep w p q F s (some ⟨p, 0, none⟩) V v) (hs : v.t.sound) (A : Option Addr) (c : Nat) (l : List Rc) (hrec : RecsAt w w.heap.size A l) (hc : l.length ≤ c) (hok : ∀ r ∈ l, r.ok) (hm : l.length ≤ 140737488355328) (hor : (applyR v.t l).1 ≠ 0 ∨ ((applyR v.t l).1 = 0 ∧ l.length = 0)) :
    Calls Tryz.prog 10 #[.pointer (some ⟨q, 0, none⟩), .slice A l.length c] w fun e w' => e = .returned (.int .i64 (applyR v.t l).1) ∧ Below w.heap.size w w' := by
  have hb0 : Below w.heap.size w (w.alloc (.cells #[.pointer (some ⟨q, 0, none⟩)] 27)) := (Below.refl _ _).alloc (Nat.le_refl _) _
  have hb1 := hb0.alloc hb0.size (.cells #[.int .i64 0] 24)
  have hvc := (hb1.block _ (Array.getElem?_eq_some_iff.1 h.cells).1).trans h.cells
  unfold vtC at hvc
  obtain ⟨c0, c1, c2, c3, _⟩ := cells7 hvc
  have HO := CoS.start w q
  obtain ⟨y0, y1, y2⟩ := HO.cells
  obtain ⟨W0, hW0⟩ : ∃ W, W = (w.alloc (.cells #[.pointer (some ⟨q, 0, none⟩)] 27)).alloc (.cells #[.int .i64 0] 24) := ⟨_, rfl⟩
  rw [← hW0] at HO hb1
  have HO := Lib.hid HO
  have HW0 := Lib.hid hW0
  have HB0 := Lib.hid hb1
  obtain ⟨E, hEd⟩ : ∃ E, E = (applyR v.t l).1 := ⟨_, rfl⟩
  obtain ⟨T, hTd⟩ : ∃ T, T = (applyR v.t l).2 := ⟨_, rfl⟩
  have HA : Hid (Calls Tryz.prog 24 #[.agg #[.slice V.A1 v.t.ts.length V.c1, .slice V.A2 v.t.vs.length V.c2, .slice V.A3 v.t.os.length V.c3], .slice A l.length c] W0 fun e w' => ∃ V' : TabW, e = .returned (.tuple #[.agg #[.slice V'.A1 T.ts.length V'.c1, .slice V'.A2 T.vs.length V'.c2, .slice V'.A3 T.os.length V'.c3], .int .i64 E]) ∧ Below W0.heap.size W0 w') := by
    have := (L.t W0).apply V v.t A c l W0 (Below.refl _ _) ((h.tab.below hb1).more hb1.size) (sound_ok hs) ((hrec.below hb1).more hb1.size) hc hok hm
    rw [← hEd, ← hTd] at this
    exact this.mono fun e w' ⟨V', q1, _, _, q2⟩ => ⟨V', q1, q2⟩
  rw [← hEd] at hor ⊢
  obtain ⟨NL, hNL⟩ : ∃ x, x = l.length := ⟨_, rfl⟩
  rw [← hNL] at HA hor ⊢
  clear hvc hb0 hb1 h hs L hrec hc hok hm hEd hTd hNL hW0
  rcases hor with hE | ⟨hE, hl0⟩
  · have hor := True.intro
    have hE2 : (E != 0) = true := by rw [bne_iff_ne]; exact hE
    have hE3 : (E == 0) = false := by rw [beq_eq_false_iff_ne]; exact hE
    clear hor
    go_enter_defers Tryz.func10, Tryz.ntmps10
    go_wp2_with (go_at_call 24; rw [← HW0.out]; with_reducible (refine Calls.mono HA.out ?_); rintro e w1 ⟨V1, rfl, hb1⟩
                 have HO1 := Lib.hid ((HO.out.later hb1).later ((Below.refl w1.heap.size w1).alloc (Nat.le_refl _) (.cells #[.slice V1.A1 T.ts.length V1.c1, .slice V1.A2 T.vs.length V1.c2, .slice V1.A3 T.os.length V1.c3] 35)))
                 have HO2 := Lib.hid (HO1.out.setE E)
                 have HB2 := Lib.hid (((chain HB0.out hb1).alloc (chain HB0.out hb1).size (.cells #[.slice V1.A1 T.ts.length V1.c1, .slice V1.A2 T.vs.length V1.c2, .slice V1.A3 T.os.length V1.c3] 35)).setCell (p := ⟨w.heap.size + 1, 0, none⟩) (Nat.le_succ _) (.int .i64 E))
                 obtain ⟨x0, x1, x2⟩ := HO1.out.cells
                 obtain ⟨z0, z1, z2⟩ := HO2.out.cells
                 clear hb1 y0 y1 y2 c0 c1 c2 c3)
    have HO3 := HO2.out.setE E
    obtain ⟨u0, u1, _⟩ := HO3.cells
    have HB3 := Lib.hid (HB2.out.setCell (p := ⟨w.heap.size + 1, 0, none⟩) (Nat.le_succ _) (.int .i64 E))
    clear HO3
    simp [bodyPostD, Leaves, results, Tryz.results10, go_sem, u1]
    exact HB3.out
  · have hor := True.intro
    subst hl0
    subst hE
    clear hor
    go_enter_defers Tryz.func10, Tryz.ntmps10
    go_wp2_with (go_at_call 24; rw [← HW0.out]; with_reducible (refine Calls.mono HA.out ?_); rintro e w1 ⟨V1, rfl, hb1⟩
                 have HO1 := Lib.hid ((HO.out.later hb1).later ((Below.refl w1.heap.size w1).alloc (Nat.le_refl _) (.cells #[.slice V1.A1 T.ts.length V1.c1, .slice V1.A2 T.vs.length V1.c2, .slice V1.A3 T.os.length V1.c3] 35)))
                 have HO2 := Lib.hid (HO1.out.setE 0)
                 have HB2 := Lib.hid (((chain HB0.out hb1).alloc (chain HB0.out hb1).size (.cells #[.slice V1.A1 T.ts.length V1.c1, .slice V1.A2 T.vs.length V1.c2, .slice V1.A3 T.os.length V1.c3] 35)).setCell (p := ⟨w.heap.size + 1, 0, none⟩) (Nat.le_succ _) (.int .i64 0))
                 obtain ⟨x0, x1, x2⟩ := HO1.out.cells
                 obtain ⟨z0, z1, z2⟩ := HO2.out.cells
                 clear hb1 y0 y1 y2 c0 c1 c2 c3)
    have HO3 := HO2.out.setE 0
    obtain ⟨u0, u1, _⟩ := HO3.cells
    have HB3 := Lib.hid (HB2.out.setCell (p := ⟨w.heap.size + 1, 0, none⟩) (Nat.le_succ _) (.int .i64 0))
    clear HO3
    simp [bodyPostD, Leaves, results, Tryz.results10, go_sem, u1]
    exact HB3.out
end

end Go.Proofs.YtbnhkplhmanmoaaGreat
