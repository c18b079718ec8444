/-
  The program's pieces of a text: the function that is ranged over.
-/
import Derived.Test.YtcoiincgclglbaaStrRange
import Derived.Test.YtcoiincgclglbaaStrC1
namespace Go.Proofs.Ytcoiincgclglbaa
open Go.RowKit Go.Shelf
attribute [local go_sem] Oper.semAt_some

/-- A counter as a value. -/
def numV (v : Nat) : Array Value := #[.int .u64 (hiN v : Nat), .int .u64 (loN v : Nat)]

set_option maxHeartbeats 800000 in
/-- 'pieces'. -/
theorem pieces_any (v : Nat) (A : Option Addr) (L c : Nat) (w : World) :
    Calls Try.prog 15 #[.agg #[.int .u64 (hiN v : Nat), .int .u64 (loN v : Nat)], .slice A L c] w fun e w' =>
      e = .returned (.func (.func 27) #[] #[.pointer (some ⟨w.heap.size, 0, none⟩), .pointer (some ⟨w.heap.size + 1, 0, none⟩)]) ∧ w' = (w.alloc (.cells #[.int .u64 (hiN v : Nat), .int .u64 (loN v : Nat)] 43)).alloc (.cells #[.slice A L c] 22) := by
  go_enter Try.func15, Try.ntmps15
  go_wp2
  go_ret
  exact ⟨rfl, rfl⟩

def piecesN (L : Nat) : Nat := (L + 15) / 16
def encsP (v b o L c : Nat) (k : Nat) : Array Value := #[.agg #[.int .u64 (hiN (v + k) : Nat), .int .u64 (loN (v + k) : Nat)], .slice (some ⟨b, o + 16 * k, none⟩) (min (16 * k + 16) L - 16 * k) (c - 16 * k)]

set_option maxRecDepth 20000 in
set_option maxHeartbeats 3200000 in
/-- The function that is ranged over: each piece, with its counter. -/
theorem pieces1_in (l B1 B2 v b o L c : Nat) (A0 : Option Addr) (hA0 : 0 < L → A0 = some ⟨b, o, none⟩) (hL : L ≤ 1048576) (hLc : L ≤ c) (J : Nat → World → Prop) (W : World)
    (hJb : ∀ k A B, J k A → Below A.heap.size A B → J k B) (hJs : ∀ k A i u, J k A → J k (A.setCell ⟨W.heap.size, i, none⟩ u))
    (hJ1 : ∀ k A, J k A → A.heap[B1]? = some (.cells #[.int .u64 (hiN v : Nat), .int .u64 (loN v : Nat)] 43 (0, 0))) (hJ2 : ∀ k A, J k A → A.heap[B2]? = some (.cells #[.slice A0 L c] 22 (0, 0)))
    (hY : ∀ k W1, k < piecesN L → J k W1 → W.heap.size < W1.heap.size → YieldAt Fence.wide 5 Try.prog l (encsP v b o L c k) W1 fun e W' => e = .returned (.bool true) ∧ J (k + 1) W' ∧ W1.heap.size ≤ W'.heap.size ∧ W'.heap[W.heap.size]? = W1.heap[W.heap.size]?)
    (h0 : J 0 W) :
    CallsIn Fence.wide 6 Try.prog 27 #[.func (.yield l) #[] #[], .pointer (some ⟨B1, 0, none⟩), .pointer (some ⟨B2, 0, none⟩)] W fun e W' => (∃ v, e = .returned v) ∧ J (piecesN L) W' := by
  have hz := (zero_of_info (P := Try.prog) (t := 43) (v := .agg #[.int .u64 0, .int .u64 0]) (n := 2) (by kernel_rfl)).1
  have hb1 := hJ1 0 W h0
  have hb10 := cell_of_row W B1 0 _ _ _ hb1
  have hb11 := cell_of_row W B1 1 _ _ _ hb1
  have HV := Lib.hid (show hiN v = hiN (v + 0) ∧ loN v = loN (v + 0) from ⟨rfl, rfl⟩)
  have hmo : Try.prog.follows .mixedOrders = true := by kernel_rfl
  refine callsIn_of_wp Try.func27 rfl trivial ?_ rfl
  simp only [Try.ntmps27, List.size_toArray, List.length_cons, List.length_nil, Nat.reduceAdd, Nat.reduceSub, Array.replicate_succ, Array.replicate_zero, List.push_toArray, List.append_toArray, List.nil_append, List.cons_append]
  gi_wp2
  have hJa := hJb 0 W _ h0 ((Below.refl _ W).alloc (Nat.le_refl _) (.cells #[.int .u64 (hiN v : Nat), .int .u64 (loN v : Nat)] 43))
  have hga := heap_alloc_new W (.cells #[.int .u64 (hiN v : Nat), .int .u64 (loN v : Nat)] 43)
  gi_loopw [5] (fun i wr => ∃ k : Nat, i = .int .i64 ((16 * k : Nat) : Int) ∧ k ≤ piecesN L ∧ Hid (wr.heap[W.heap.size]? = some (.cells #[.int .u64 (hiN (v + k) : Nat), .int .u64 (loN (v + k) : Nat)] 43 (0, 0))) ∧ J k wr) (fun i _ => L + 16 - (intOf i).toNat)
  case atStart => exact ⟨0, rfl, Nat.zero_le _, hga, hJa⟩
  case round =>
    obtain ⟨k, rfl, hk, hg, hJ⟩ := hrel
    have hN : piecesN L = (L + 15) / 16 := rfl
    have hb2 := hJ2 k wr hJ
    have hb20 := cell_of_row wr B2 0 _ _ _ hb2
    have hszw : W.heap.size < wr.heap.size := lt_heap hg
    clear hb1 hb10 hb11 hJa hga h0
    by_cases hlt : 16 * k < L
    · obtain rfl := hA0 (by omega)
      have hJd : J k wr.drew := hJb k wr _ hJ (Below.refl _ wr).drew
      obtain ⟨fn, tmps, assign, body, hy, hR⟩ := hY k wr.drew (by omega) hJd hszw
      have hga0 := cell_of_row wr W.heap.size 0 _ _ _ hg
      have hga1 := cell_of_row wr W.heap.size 1 _ _ _ hg
      have HN2 := Lib.hid (numNext_any (v + k))
      dsimp only [encsP] at hy
      have HG := hg.out
      by_cases h16 : 16 * k + 16 ≤ L
      · rw [show min (16 * k + 16) L - 16 * k = 16 by omega] at hy
        have h16' : 16 * (k : Int) + 16 ≤ (L : Int) := by omega
        gi_wp2
        gi_region_with_o (refine hR.mono ?_; rintro e W3 ⟨rfl, hJ3, hs3, hg3⟩)
        all_goals
          have hg4 : W3.heap[W.heap.size]? = some (.cells #[.int .u64 (hiN (v + k) : Nat), .int .u64 (loN (v + k) : Nat)] 43 (0, 0)) := hg3.trans HG
          have hc40 := cell_of_row W3 W.heap.size 0 _ _ _ hg4
          have hc41 := cell_of_row W3 W.heap.size 1 _ _ _ hg4
          gi_wp2_with (refine ⟨trivial, ?_⟩; gi_at_call 28; refine (callsIn_wide.2 (HN2.out W3)).mono ?_; rintro e w4 ⟨rfl, hb4⟩; have hg5 := (hb4.block _ (lt_heap hg4)).trans hg4; have hc50 := cell_of_row w4 W.heap.size 0 _ _ _ hg5; have hc51 := cell_of_row w4 W.heap.size 1 _ _ _ hg5; have hf50 := frozen_of_row w4 W.heap.size 0 _ _ hg5; have hf51 := frozen_of_row w4 W.heap.size 1 _ _ hg5)
          go_roundw
          case rel => exact ⟨k + 1, by go_num, by omega, heap_setCell_same _ W.heap.size 1 _ _ _ _ (heap_setCell_same _ W.heap.size 0 _ _ _ _ hg5), hJs _ _ _ _ (hJs _ _ _ _ (hJb _ _ _ hJ3 hb4))⟩
          case measure => simp [intOf]; omega
      · rw [show min (16 * k + 16) L - 16 * k = L - 16 * k by omega] at hy
        have h16' : (L : Int) < 16 * (k : Int) + 16 := by omega
        gi_wp2
        gi_region_with_o (refine hR.mono ?_; rintro e W3 ⟨rfl, hJ3, hs3, hg3⟩)
        all_goals
          have hg4 : W3.heap[W.heap.size]? = some (.cells #[.int .u64 (hiN (v + k) : Nat), .int .u64 (loN (v + k) : Nat)] 43 (0, 0)) := hg3.trans HG
          have hc40 := cell_of_row W3 W.heap.size 0 _ _ _ hg4
          have hc41 := cell_of_row W3 W.heap.size 1 _ _ _ hg4
          gi_wp2_with (refine ⟨trivial, ?_⟩; gi_at_call 28; refine (callsIn_wide.2 (HN2.out W3)).mono ?_; rintro e w4 ⟨rfl, hb4⟩; have hg5 := (hb4.block _ (lt_heap hg4)).trans hg4; have hc50 := cell_of_row w4 W.heap.size 0 _ _ _ hg5; have hc51 := cell_of_row w4 W.heap.size 1 _ _ _ hg5; have hf50 := frozen_of_row w4 W.heap.size 0 _ _ hg5; have hf51 := frozen_of_row w4 W.heap.size 1 _ _ hg5)
          go_roundw
          case rel => exact ⟨k + 1, by go_num, by omega, heap_setCell_same _ W.heap.size 1 _ _ _ _ (heap_setCell_same _ W.heap.size 0 _ _ _ _ hg5), hJs _ _ _ _ (hJs _ _ _ _ (hJb _ _ _ hJ3 hb4))⟩
          case measure => simp [intOf]; omega
    · have hkk : k = piecesN L := by omega
      subst hkk
      gi_wp2
      go_end0
      exact ⟨⟨_, rfl⟩, hJ⟩

end Go.Proofs.Ytcoiincgclglbaa
