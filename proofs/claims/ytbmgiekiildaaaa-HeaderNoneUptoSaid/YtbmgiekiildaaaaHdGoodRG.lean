/-
  The document's Good of the layer header. Written by wip/gen/head_goodr.py. A region that draws its order, whose operations read, and whose calls hand back plain values and may make memory: one walk, in the order of the text.
-/
import Derived.Test.YtbmgiekiildaaaaHdLaw4G
import Derived.Test.YtbmgiekiildaaaaHdC9G
import Derived.Test.YtbmgiekiildaaaaHdCAG
import Derived.Deep.QuietTactic
import Derived.BigQuiet
import Derived.Below
import Derived.Test.YtbmgiekiildaaaaChecked
namespace Go.Proofs.Ytbmgiekiildaaaa
open Go.RowKit

theorem volI_cases (vs : List Vol) (id : Int) : volI vs id = -1 ∨ ∃ j : Nat, j < vs.length ∧ volI vs id = (j : Int) := by
  unfold volI
  split
  · next h => exact .inr ⟨_, h, rfl⟩
  · exact .inl rfl

set_option maxHeartbeats 6400000 in
set_option maxRecDepth 20000 in
/-- The document's Good, at a slot. -/
theorem rGood_any (V : TabW) (t : Tab) (h : Rc) (s : Nat) (w : World) (hT : TabAt w w.heap.size V t) (hs : s < t.os.length) (ho : t.ok) :
    Calls Try.prog 16 #[.agg (tabV V t), .agg (rcV h), .int .i64 (s : Int)] w fun e w' => e = .returned (.bool (rGood t h s)) ∧ Below w.heap.size w w' := by
  obtain ⟨_, hrow, hb0⟩ := htab_box w V t 38
  obtain ⟨X, hX⟩ : ∃ X, X = w.alloc (.cells (tabV V t) 38) := ⟨_, rfl⟩
  rw [← hX] at hrow hb0
  have hxs : X.heap.size = w.heap.size + 1 := by rw [hX]; simp
  have hrow2 := heap_alloc_new X (.cells (rcV h) 23)
  have hb1 : Below X.heap.size X (X.alloc (.cells (rcV h) 23)) := (Below.refl _ _).alloc (Nat.le_refl _) _
  obtain ⟨Y, hY⟩ : ∃ Y, Y = X.alloc (.cells (rcV h) 23) := ⟨_, rfl⟩
  rw [← hY] at hrow2 hb1
  have hrowY := (hb1.block w.heap.size (by omega)).trans hrow
  have hlt : w.heap.size + 1 < Y.heap.size := by have := (Array.getElem?_eq_some_iff.1 hrow2).1; omega
  have HBY := Lib.hid (hb0.trans (hb1.mono hb0.size))
  have HVOL := Lib.hid (refVol_any V t h.a Y ((hT.below HBY.out).more HBY.out.size) (by have := ho.nv; omega))
  rw [hxs] at hrow2
  have HALL : Hid (∀ W, Below Y.heap.size Y W → (W.cell? ⟨w.heap.size, 1, none⟩ = some (.slice V.A2 t.vs.length V.c2) ∧ W.cell? ⟨w.heap.size, 2, none⟩ = some (.slice V.A3 t.os.length V.c3)) ∧ W.heap[w.heap.size + 1]? = some (.cells (rcV h) 23 (0, 0)) ∧ VolsAt W W.heap.size V.A2 t.vs ∧ Ints W W.heap.size .i64 V.A3 t.os ∧ Below w.heap.size w W) := fun W hb => by
    have hbw := HBY.out.trans (hb.mono HBY.out.size)
    have q := (hb.block w.heap.size (by omega)).trans hrowY
    exact ⟨⟨by rw [cell_of_row _ _ _ _ _ _ q]; rfl, by rw [cell_of_row _ _ _ _ _ _ q]; rfl⟩, (hb.block _ hlt).trans hrow2, (hT.vs.below hbw).more hbw.size, (hT.os.below hbw).more hbw.size, hbw⟩
  have HROWY := Lib.hid hrowY
  have HROW2 := Lib.hid hrow2
  have hinf : (Try.prog.info? 38).map (·.size) = some (tabV V t).size := Try.infoTabH
  have HGD : Hid (rGood t h s = (decide (h.c = (s : Int)) && (decide (1 ≤ h.k) && (decide (t.os.getD s 0 = h.k) && (decide (0 ≤ volI t.vs h.a) && (decide ((t.vs.getD (volI t.vs h.a).toNat ⟨0, 0, 0, 0⟩).ten = h.k) && (decide (0 ≤ h.b) && (decide (h.b < (t.vs.getD (volI t.vs h.a).toNat ⟨0, 0, 0, 0⟩).blocks) && decide (1 ≤ h.d))))))))) := rfl
  have hvc := volI_cases t.vs h.a
  obtain ⟨R, hR⟩ : ∃ R, R = rGood t h s := ⟨_, rfl⟩
  rw [← hR] at HGD ⊢
  obtain ⟨I, hI⟩ : ∃ I, I = volI t.vs h.a := ⟨_, rfl⟩
  rw [← hI] at HVOL hvc HGD
  obtain ⟨o0, ho0⟩ : ∃ o, o = t.os.getD s 0 := ⟨_, rfl⟩
  rw [← ho0] at HGD
  have HO0 := Lib.hid ho0
  obtain ⟨NO, hNO⟩ : ∃ N, N = t.os.length := ⟨_, rfl⟩
  obtain ⟨NV, hNV⟩ : ∃ N, N = t.vs.length := ⟨_, rfl⟩
  simp only [← hNO, ← hNV] at HALL
  have HNO := Lib.hid hNO
  have HNV := Lib.hid hNV
  have hm : NV ≤ 9223372036854775807 := by have := ho.nv; omega
  rw [← hNO] at hs
  rw [← hNV] at hvc
  have HXX := Lib.hid hX
  have HYY := Lib.hid hY
  have HXS := Lib.hid hxs
  obtain ⟨xk, xa, xb, xc, xd, xs⟩ := h
  obtain ⟨f0, f1, f2, f3, f4, f5⟩ := cells6 HROW2.out
  have s0 : (0 : Int) ≤ (s : Int) := by omega
  have s1 : (s : Int) < (NO : Int) := by omega
  obtain ⟨P, hP⟩ : ∃ P, P = tabV V t := ⟨_, rfl⟩
  simp only [← hP] at HVOL HROWY hinf HXX
  rw [← hP]
  clear hT ho hrow hb0 hX hrow2 hb1 hY hrowY hlt hR hI ho0 hNO hNV hxs hP
  go_enter Try.func16, Try.ntmps16
  go_wp2_with (first
    | (rw [← HXX.out, ← HYY.out]; refine wpList_load_row rfl 38 _ rfl w.heap.size rfl 38 _ (0, 0) _ HROWY.out Try.underlying38 rfl hinf ?_)
    | (go_at_call 15; with_reducible (refine Calls.mono HVOL.out ?_); rintro e w1 ⟨rfl, hb2⟩))
  obtain ⟨⟨z1, z2⟩, hr, hv, hi, hbw⟩ := HALL.out w1 hb2
  obtain ⟨y0, y1, y2, y3, y4, y5⟩ := cells6 hr
  obtain ⟨bo, oo, hA3, _, hco⟩ := hi s (by have := HNO.out; omega)
  rw [← HO0.out] at hco
  rw [hA3] at z2
  have HD : Hid (∀ n, Below w.heap.size w (w1.drewN n)) := fun n => below_drewN hbw n
  clear hb2 hr hi hbw f0 f1 f2 f3 f4 f5 hA3 y5
  by_cases d1 : xc = (s : Int)
  · have e1 : (xc == (s : Int)) = true := by rw [beq_iff_eq]; exact d1
    by_cases d2 : 1 ≤ xk
    · by_cases d3 : o0 = xk
      · have e3 : (o0 == xk) = true := by rw [beq_iff_eq]; exact d3
        rcases hvc with hI1 | ⟨jv, hjv, hI2⟩
        · have d4 : ¬ (0 : Int) ≤ I := by omega
          have HR : Hid (R = false) := by rw [HGD.out, decide_eq_true d1, decide_eq_true d2, decide_eq_true d3, decide_eq_false d4]; rfl
          rw [hI1] at d4
          subst hI1
          clear hv
          go_quiet (fail)
          go_wp2
          go_ret
          exact ⟨by rw [HR.out]; rfl, HD.out _⟩
        · obtain ⟨b, off, hA2, _, hmid⟩ := vols_mid hv (k := jv) (by have := HNV.out; omega)
          have HGE := HGD.out
          rw [hI2, Int.toNat_natCast] at HGE
          clear HGD
          have HGD := Lib.hid HGE
          clear HGE
          obtain ⟨v, hvv⟩ : ∃ v, v = t.vs.getD jv ⟨0, 0, 0, 0⟩ := ⟨_, rfl⟩
          rw [← hvv] at hmid HGD
          obtain ⟨vi, vt, vb, va⟩ := v
          have q1 : w1.cell? ⟨b, off + jv * 4 + 1, none⟩ = some (.int .i64 vt) := hmid 1 _ rfl
          have q2 : w1.cell? ⟨b, off + jv * 4 + 2, none⟩ = some (.int .i64 vb) := hmid 2 _ rfl
          have d4 : (0 : Int) ≤ (jv : Int) := by omega
          have j1 : (jv : Int) < (NV : Int) := by omega
          rw [hA2] at z1
          subst hI2
          clear hvv hmid hv hA2
          by_cases d5 : vt = xk
          · have e5 : (vt == xk) = true := by rw [beq_iff_eq]; exact d5
            by_cases d6 : 0 ≤ xb
            · by_cases d7 : xb < vb
              · by_cases d8 : 1 ≤ xd
                · have HR : Hid (R = true) := by rw [HGD.out, decide_eq_true d1, decide_eq_true d2, decide_eq_true d3, decide_eq_true d4, decide_eq_true d5, decide_eq_true d6, decide_eq_true d7, decide_eq_true d8]; rfl
                  go_quiet (fail)
                  go_wp2
                  go_ret
                  exact ⟨by rw [HR.out]; rfl, HD.out _⟩
                · have HR : Hid (R = false) := by rw [HGD.out, decide_eq_true d1, decide_eq_true d2, decide_eq_true d3, decide_eq_true d4, decide_eq_true d5, decide_eq_true d6, decide_eq_true d7, decide_eq_false d8]; rfl
                  go_quiet (fail)
                  go_wp2
                  go_ret
                  exact ⟨by rw [HR.out]; rfl, HD.out _⟩
              · have HR : Hid (R = false) := by rw [HGD.out, decide_eq_true d1, decide_eq_true d2, decide_eq_true d3, decide_eq_true d4, decide_eq_true d5, decide_eq_true d6, decide_eq_false d7]; rfl
                go_quiet (fail)
                go_wp2
                go_ret
                exact ⟨by rw [HR.out]; rfl, HD.out _⟩
            · have HR : Hid (R = false) := by rw [HGD.out, decide_eq_true d1, decide_eq_true d2, decide_eq_true d3, decide_eq_true d4, decide_eq_true d5, decide_eq_false d6]; rfl
              go_quiet (fail)
              go_wp2
              go_ret
              exact ⟨by rw [HR.out]; rfl, HD.out _⟩
          · have e5 : (vt == xk) = false := by rw [beq_eq_false_iff_ne]; exact d5
            have HR : Hid (R = false) := by rw [HGD.out, decide_eq_true d1, decide_eq_true d2, decide_eq_true d3, decide_eq_true d4, decide_eq_false d5]; rfl
            go_quiet (fail)
            go_wp2
            go_ret
            exact ⟨by rw [HR.out]; rfl, HD.out _⟩
      · have e3 : (o0 == xk) = false := by rw [beq_eq_false_iff_ne]; exact d3
        have HR : Hid (R = false) := by rw [HGD.out, decide_eq_true d1, decide_eq_true d2, decide_eq_false d3]; rfl
        go_quiet (fail)
        go_wp2
        go_ret
        exact ⟨by rw [HR.out]; rfl, HD.out _⟩
    · have HR : Hid (R = false) := by rw [HGD.out, decide_eq_true d1, decide_eq_false d2]; rfl
      go_quiet (fail)
      go_wp2
      go_ret
      exact ⟨by rw [HR.out]; rfl, HD.out _⟩
  · have e1 : (xc == (s : Int)) = false := by rw [beq_eq_false_iff_ne]; exact d1
    have HR : Hid (R = false) := by rw [HGD.out, decide_eq_false d1]; rfl
    go_quiet (fail)
    go_wp2
    go_ret
    exact ⟨by rw [HR.out]; rfl, HD.out _⟩

end Go.Proofs.Ytbmgiekiildaaaa

namespace Go.Proofs.Ytbmgiekiildaaaa
open Go.RowKit

/-- A world later than w0. -/
structure Lat (w0 : World) where
  W : World
  b : Below w0.heap.size w0 W
instance (w0 : World) : Nonempty (Lat w0) := ⟨⟨w0, Below.refl _ _⟩⟩
theorem lat_region {P : Program} {id : Nat} {Q : Exit → Act → World → Prop} {a : Act} {w w0 : World} {l : List Oper} (h0 : Below w0.heap.size w0 w) (hm : P.follows .mixedOrders = true) (hB : Region.lexB .any l.toArray = true)
    (h : wpQuiet P l.toArray (fun W => ∃ u : Lat w0, W = u.W) (fun a' => ∀ w', (∃ u : Lat w0, w' = u.W) → Q .normal a' w') l a) : (Code.region id l.toArray true).wp P Q a w :=
  wp_region_quiet (C := fun W => ∃ u : Lat w0, W = u.W) hm hB ⟨⟨_, h0.drew⟩, rfl⟩ (by simpa using h)
theorem lat_call {P : Program} {f : FuncId} {args : Array Value} {w0 : World} {v : Value} (u : Lat w0) (h : Calls P f args u.W fun e w' => e = .returned v ∧ Below u.W.heap.size u.W w') :
    Calls P f args u.W fun e w' => e = .returned v ∧ ∃ x : Lat w0, w' = x.W :=
  h.mono fun _ w' ⟨h1, h2⟩ => ⟨h1, ⟨⟨w', u.b.trans (h2.mono u.b.size)⟩, rfl⟩⟩

end Go.Proofs.Ytbmgiekiildaaaa
