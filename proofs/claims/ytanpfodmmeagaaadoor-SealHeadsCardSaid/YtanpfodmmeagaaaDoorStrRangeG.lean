/-
  A range over a function whose own state lies in cells (a variable that it stores into between two rounds), and a region that draws its order within a round: laws of the walk, for whatever program. The program's pieces of a text: the function that is ranged over.
-/
import Derived.RangeFuncNested
import Derived.RangeFuncBound
import Derived.RangeFuncCalls
import Derived.RangeFuncLeaves
import Derived.Shelf.Abstract
import Derived.Shelf.RegionOpen
import Derived.WalkKit
import Derived.OwnWalkIn
import Derived.TacticsInMore
import Derived.LoopNIn
import Derived.LoopIn
import Derived.Deep.RegionHeld3
import Derived.Test.YtanpfodmmeagaaaDoorStrC1G
namespace Go.Proofs.YtanpfodmmeagaaaDoor
open Go.RowKit

/-! ### A region within a round -/
section
variable {P : Program} {ops : Array Oper} {Q : Exit → Act → World → Prop}

/-- What one operation does outside of a round it does within one. -/
theorem round_op {l n : Nat} {o : Oper} (hd : ∀ c, o.op ≠ .defer c) {K : Act → World → Prop} {a : Act} {w : World} (h : o.wp P a w K Q) : o.wpIn (Fence.wide.inRound l) n P a w K Q := by
  refine ⟨fun _ _ => trivial, ?_⟩
  rw [Fence.inRound_round, Oper.semAt_some l _ _ hd]
  unfold Oper.wp at h
  generalize (execOp a.eval o).run P w = r at h ⊢
  rcases r with ⟨x, w'⟩ | ⟨x, w'⟩
  · cases x with
    | value v => exact h
    | skip => exact h
    | defer d => exact h
    | enter f args => exact ⟨fun e => by simp [Fence.wide] at e, CallsIn.inRound l (callsIn_wide.2 h)⟩
    | row row args => exact ⟨fun e => by simp [Fence.wide] at e, fun c cs _ => let ⟨v, w'', r, s⟩ := h c cs; ⟨v, w'', r, stepsIn_wide.2 s⟩⟩
    | _ => exact h.elim
  · cases x with
    | panic v => exact h
    | _ => exact h.elim
theorem round_ops {l n : Nat} (hQ : ¬ LetsOut Q) (hd : ∀ (i : Nat) (o : Oper), ops[i]? = some o → ∀ c, o.op ≠ .defer c) : ∀ (order : List Nat) (a : Act) (w : World), wpOps P ops Q order a w → wpOpsIn (Fence.wide.inRound l) n P ops Q order a w := by
  intro order
  induction order with
  | nil => exact fun _ _ h => h
  | cons i rest ih =>
    intro a w h
    simp only [wpOps] at h
    simp only [wpOpsIn]
    cases ho : ops[i]? with
    | none => rw [ho] at h; exact ih _ _ h
    | some o =>
      rw [ho] at h
      simp only at h ⊢
      by_cases hw : Region.wanted o (yielded ops a.tmps) = true
      · rw [if_pos hw] at h ⊢
        rcases h with h | ⟨_, h⟩
        · exact Oper.wpIn_mono ih (round_op (hd i o ho) h)
        · exact absurd h hQ
      · rw [if_neg hw] at h ⊢
        exact ⟨fun _ _ => trivial, ih _ _ h⟩
/-- No operation is a 'defer'. -/
def noDefer (ops : Array Oper) : Bool := ops.all fun o => match o.op with | .defer _ => false | _ => true
theorem noDefer_at (h : noDefer ops = true) (i : Nat) (o : Oper) (ho : ops[i]? = some o) (c : Call) : o.op ≠ .defer c := by
  intro e
  obtain ⟨hi, hx⟩ := Array.getElem?_eq_some_iff.1 ho
  have := Array.all_eq_true.1 h i hi
  rw [hx, e] at this
  cases this
/-- A region that draws its order, within a round: from its walk outside. -/
theorem wpIn_round_held {S : World → Prop} {l n : Nat} {id : Nat} {a : Act} {w : World} (hQ : ¬ LetsOut Q) (hd : noDefer ops = true) (hm : P.follows .mixedOrders = true) (hS : S w.drew)
    (h : S w.drew → wpAnyH P .any ops Q S ops.size (Array.replicate ops.size false) a w.drew) : (Code.region id ops true).wpIn (Fence.wide.inRound l) n P Q a w :=
  wpIn_region_draw fun t => by
    simp only [Region.schedule, hm, Bool.true_or, if_true]
    exact round_ops hQ (noDefer_at hd) _ _ _ (wpAny_sound ops.size t _ a _ (wpAny_of_held _ _ _ _ (h hS)))

/-- append as one step, its run known. -/
theorem step_append_run {w w' : World} {o : Oper} {a : Act} {K : Act → World → Prop} {E : Prop} (hw : Region.wanted o (yielded ops a.tmps) = true) (s x : Operand) (t : TypeId)
    (ho : o.op = .call { callee := .builtin .append, args := #[s, x], argTypes := #[t, t] }) (v u v' : Value) (hs : a.eval s = v) (hx : a.eval x = u)
    (hrun : (Builtin.append_ #[t, t] o.type #[v, u]).run P w = .ok v' w') (h : K (a.put o.dst v') w') :
    if Region.wanted o (yielded ops a.tmps) = true then Oper.wp P o a w K Q else E := by
  rw [if_pos hw]
  unfold Oper.wp execOp
  simp only [ho, resolve, invoke, builtin, Sem.run_bind, Sem.run_pure, Result.andThen_ok, List.map_toArray, List.map_cons, List.map_nil, hs, hx, hrun]
  exact h
end

/-! ### The statement -/
theorem keeps_put (w : World) {b k : Nat} (o : Obj) (h : k ≠ b) : (w.putObj b o).heap[k]? = w.heap[k]? := World.putObj_heap_other h

theorem wp_range_own {P : Program} {g : Operand} {ps : Array Tmp} {assign body : Code} {Q : Exit → Act → World → Prop} {a : Act} {w : World}
    {gf : Nat} {lb : Array Value} (hg : a.eval g = .func (.func gf) #[] lb) (eg : ∀ args w, (callFunc gf args).run P w = .ok (.enter gf args) w)
    (encs : Nat → Array Value) (hps : ∀ k, (encs k).size = ps.size) (N : Nat) (I : Nat → World → Prop)
    (hIb : ∀ k A B, I k A → Below A.heap.size A B → I k B)
    (hIp : ∀ k W b o, w.heap.size ≤ b → I k W → I k (W.putObj b o))
    (hIs : ∀ k W i v, I k W → I k (W.setCell ⟨w.heap.size + 2, i, none⟩ v))
    (h0 : I 0 w)
    (hseq : ∀ (l : Nat) (J : Nat → World → Prop) (W : World), W.heap.size = w.heap.size + 2 → (∀ k A B, J k A → Below A.heap.size A B → J k B) → (∀ k A i v, J k A → J k (A.setCell ⟨W.heap.size, i, none⟩ v)) → (∀ k A, J k A → I k A) →
      (∀ k W1, k < N → J k W1 → W.heap.size < W1.heap.size → YieldAt Fence.wide 5 P l (encs k) W1 fun e W' => e = .returned (.bool true) ∧ J (k + 1) W' ∧ W1.heap.size ≤ W'.heap.size ∧ W'.heap[W.heap.size]? = W1.heap[W.heap.size]?) → J 0 W →
      CallsIn Fence.wide 6 P gf (#[.func (.yield l) #[] #[]] ++ lb) W fun e W' => (∃ v, e = .returned v) ∧ J N W')
    (hround : ∀ (l k : Nat) (W : World), k < N → I k W → w.heap.size + 2 < W.heap.size →
      assign.wpIn (Fence.wide.inRound l) 5 P (Exit.then (fun a₁ w₁ => (W.heap.size ≤ w₁.heap.size ∧ ∀ b, b < W.heap.size → w₁.heap[b]? = W.heap[b]?) ∧
        ∀ o, body.wpIn (Fence.wide.inRound l) 5 P (fun e _ w₃ => e = .normal ∧ I (k + 1) w₃ ∧ w₁.heap.size ≤ w₃.heap.size ∧ ∀ b, w.heap.size ≤ b → b ≤ w.heap.size + 2 → w₃.heap[b]? = (w₁.putObj (w.heap.size + 1) o).heap[b]?) a₁ (w₁.putObj (w.heap.size + 1) o)) (fun _ _ _ => False))
        { tmps := (ps.zip (encs k)).foldl (fun t (p, v) => t.setIfInBounds p v) a.tmps, defers := [] } W)
    (hdone : ∀ W, I N W → W.heap[w.heap.size]? = some (.deferred (some [])) → Q .normal { a with defers := { target := .collected w.heap.size, args := #[] } :: a.defers } W) :
    (Code.rangeFunc g ps assign body).wp P Q a w := by
  refine (wpIn_wide (n := 7)).1 (wpIn_rangeFunc ?_)
  intro fn hfn
  rw [show Fence.wide.round = none from rfl]
  obtain ⟨rec, hrec⟩ : ∃ rec : LoopState → Option Code → Loop, rec = fun st pe => { state := st, pending := pe, fn, tmps := a.tmps, params := ps, assign, body, defers := w.heap.size } := ⟨_, rfl⟩
  obtain ⟨W1, hW1⟩ : ∃ W1, (w.alloc (.deferred (some []))).alloc (.loop (rec .ready none)) = W1 := ⟨_, rfl⟩
  have hL1 : W1.heap[w.heap.size + 1]? = some (.loop (rec .ready none)) := by
    rw [← hW1]; have := World.alloc_heap_new (w.alloc (.deferred (some []))) (.loop (rec .ready none)); rwa [World.size_alloc] at this
  have hK1 : W1.heap[w.heap.size]? = some (.deferred (some [])) := by
    rw [← hW1]; exact (Below.heap_alloc _ _ _ (by simp)).trans (World.alloc_heap_new w _)
  have hI1 : I 0 W1 := by rw [← hW1]; exact hIb _ _ _ h0 (((Below.refl _ _).alloc (Nat.le_refl _) _).alloc (by simp) _)
  have hs1 : W1.heap.size = w.heap.size + 2 := by rw [← hW1]; simp
  refine ⟨w.heap.size + 1, [{ target := .collected w.heap.size, args := #[] }], W1, { target := .fn (.func gf) lb, args := #[.func (.yield (w.heap.size + 1)) #[] #[]] }, W1, gf,
    #[.func (.yield (w.heap.size + 1)) #[] #[]] ++ lb, W1, ?_, ?_, ?_, ?_, fun e => by simp [Fence.wide] at e, ?_⟩
  · rw [← hW1, hrec]; exact run_enterLoop_outer _ _ _ _ _
  · simp only [resolve, hg]
    simp [go_sem]
  · intro f' _; trivial
  · simp [invoke, go_sem, eg]
  · refine (hseq (w.heap.size + 1) (fun k W => I k W ∧ W.heap[w.heap.size + 1]? = some (.loop (rec .ready none)) ∧ W.heap[w.heap.size]? = some (.deferred (some []))) W1 hs1
      (fun k A B ⟨h, h1, h2⟩ hb => ⟨hIb _ _ _ h hb, (hb.block _ (Array.getElem?_eq_some_iff.1 h1).1).trans h1, (hb.block _ (Array.getElem?_eq_some_iff.1 h2).1).trans h2⟩)
      (fun k A i v ⟨h, h1, h2⟩ => by rw [hs1]; exact ⟨hIs _ _ _ _ h, (heap_setCell_other A ⟨w.heap.size + 2, i, none⟩ _ v (by simp)).trans h1, (heap_setCell_other A ⟨w.heap.size + 2, i, none⟩ _ v (by simp)).trans h2⟩)
      (fun _ _ h => h.1) ?_ ⟨hI1, hL1, hK1⟩).mono ?_
    · -- one round
      rintro k W hk ⟨hi, hl, hk'⟩ hlt2
      rw [hs1] at hlt2 ⊢
      have hlt : w.heap.size + 1 < W.heap.size := (Array.getElem?_eq_some_iff.1 hl).1
      have hy := run_yield (P := P) (args := encs k) hl (by rw [hrec]; exact hps k)
      rw [hrec] at hy
      refine ⟨fn, _, assign, body, hy, roundIn_of_wpIn hfn (wpIn_mono (hround (w.heap.size + 1) k W hk hi hlt2) ?_)⟩
      rintro e a1 w1 hq
      cases e with
      | normal =>
        obtain ⟨⟨hsz, hkp⟩, hb⟩ := hq
        have hl1 : w1.heap[w.heap.size + 1]? = some (.loop (rec .ready none)) := (hkp _ hlt).trans hl
        have hd1 : w1.heap[w.heap.size]? = some (.deferred (some [])) := (hkp _ (by omega)).trans hk'
        refine ⟨_, run_beginRound hl1 (by rw [hrec]), wpIn_mono (hb (.loop { rec .ready none with state := .busy })) ?_⟩
        rintro e a3 W3 ⟨rfl, hi3, hsz3, hkp3⟩
        have hl3 : W3.heap[w.heap.size + 1]? = some (.loop { rec .ready none with state := .busy }) := (hkp3 _ (by omega) (by omega)).trans (World.putObj_heap_same (by omega))
        have hd3 : W3.heap[w.heap.size]? = some (.deferred (some [])) := ((hkp3 _ (by omega) (by omega)).trans (World.putObj_heap_other (by omega))).trans hd1
        have hr := run_endRound (P := P) none hl3
        refine ⟨_, _, hr, rfl, ⟨hIp _ _ _ _ (by omega) hi3, ?_, (World.putObj_heap_other (by omega)).trans hd3⟩, by rw [World.putObj_size]; omega, ?_⟩
        · rw [World.putObj_heap_same (Array.getElem?_eq_some_iff.1 hl3).1, hrec]; rfl
        · rw [World.putObj_heap_other (by omega), hkp3 _ (by omega) (by omega), World.putObj_heap_other (by omega)]
          exact hkp _ hlt2
      | _ => exact hq.elim
    · rintro e W2 ⟨⟨v, rfl⟩, hi, hl, hk⟩
      refine ⟨none, _, by have := run_endLoop (P := P) hl (by rw [hrec]; simp); rw [hrec] at this; exact this, ?_⟩
      exact hdone _ (hIp _ _ _ _ (by omega) hi) ((World.putObj_heap_other (by omega)).trans hk)

end Go.Proofs.YtanpfodmmeagaaaDoor

namespace Go.Proofs.YtanpfodmmeagaaaDoor
open Go.RowKit Go.Shelf
attribute [local go_sem] Oper.semAt_some

/-- A counter as a value. -/
def numV (v : Nat) : Array Value := #[.int .u64 (hiN v : Nat), .int .u64 (loN v : Nat)]

set_option maxHeartbeats 800000 in
/-- 'pieces'. -/
theorem pieces_any (v : Nat) (A : Option Addr) (L c : Nat) (w : World) :
    Calls Tryd.prog 32 #[.agg #[.int .u64 (hiN v : Nat), .int .u64 (loN v : Nat)], .slice A L c] w fun e w' =>
      e = .returned (.func (.func 49) #[] #[.pointer (some ⟨w.heap.size, 0, none⟩), .pointer (some ⟨w.heap.size + 1, 0, none⟩)]) ∧ w' = (w.alloc (.cells #[.int .u64 (hiN v : Nat), .int .u64 (loN v : Nat)] 56)).alloc (.cells #[.slice A L c] 24) := by
  go_enter Tryd.func32, Tryd.ntmps32
  go_wp2
  go_ret
  exact ⟨rfl, rfl⟩

def piecesN (L : Nat) : Nat := (L + 15) / 16
def encsP (v b o L c : Nat) (k : Nat) : Array Value := #[.agg #[.int .u64 (hiN (v + k) : Nat), .int .u64 (loN (v + k) : Nat)], .slice (some ⟨b, o + 16 * k, none⟩) (min (16 * k + 16) L - 16 * k) (c - 16 * k)]

set_option maxRecDepth 20000 in
set_option maxHeartbeats 3200000 in
/-- The function that is ranged over: each piece, with its counter. -/
theorem pieces1_in (l B1 B2 v b o L c : Nat) (A0 : Option Addr) (hA0 : 0 < L → A0 = some ⟨b, o, none⟩) (hL : L ≤ 1048576) (hLc : L ≤ c) (J : Nat → World → Prop) (W : World)
    (hJb : ∀ k A B, J k A → Below A.heap.size A B → J k B) (hJs : ∀ k A i u, J k A → J k (A.setCell ⟨W.heap.size, i, none⟩ u))
    (hJ1 : ∀ k A, J k A → A.heap[B1]? = some (.cells #[.int .u64 (hiN v : Nat), .int .u64 (loN v : Nat)] 56 (0, 0))) (hJ2 : ∀ k A, J k A → A.heap[B2]? = some (.cells #[.slice A0 L c] 24 (0, 0)))
    (hY : ∀ k W1, k < piecesN L → J k W1 → W.heap.size < W1.heap.size → YieldAt Fence.wide 5 Tryd.prog l (encsP v b o L c k) W1 fun e W' => e = .returned (.bool true) ∧ J (k + 1) W' ∧ W1.heap.size ≤ W'.heap.size ∧ W'.heap[W.heap.size]? = W1.heap[W.heap.size]?)
    (h0 : J 0 W) :
    CallsIn Fence.wide 6 Tryd.prog 49 #[.func (.yield l) #[] #[], .pointer (some ⟨B1, 0, none⟩), .pointer (some ⟨B2, 0, none⟩)] W fun e W' => (∃ v, e = .returned v) ∧ J (piecesN L) W' := by
  have hz := (zero_of_info (P := Tryd.prog) (t := 56) (v := .agg #[.int .u64 0, .int .u64 0]) (n := 2) (by kernel_rfl)).1
  have hb1 := hJ1 0 W h0
  have hb10 := cell_of_row W B1 0 _ _ _ hb1
  have hb11 := cell_of_row W B1 1 _ _ _ hb1
  have HV := Lib.hid (show hiN v = hiN (v + 0) ∧ loN v = loN (v + 0) from ⟨rfl, rfl⟩)
  have hmo : Tryd.prog.follows .mixedOrders = true := by kernel_rfl
  refine callsIn_of_wp Tryd.func49 rfl trivial ?_ rfl
  simp only [Tryd.ntmps49, List.size_toArray, List.length_cons, List.length_nil, Nat.reduceAdd, Nat.reduceSub, Array.replicate_succ, Array.replicate_zero, List.push_toArray, List.append_toArray, List.nil_append, List.cons_append]
  gi_wp2
  have hJa := hJb 0 W _ h0 ((Below.refl _ W).alloc (Nat.le_refl _) (.cells #[.int .u64 (hiN v : Nat), .int .u64 (loN v : Nat)] 56))
  have hga := heap_alloc_new W (.cells #[.int .u64 (hiN v : Nat), .int .u64 (loN v : Nat)] 56)
  gi_loopw [5] (fun i wr => ∃ k : Nat, i = .int .i64 ((16 * k : Nat) : Int) ∧ k ≤ piecesN L ∧ Hid (wr.heap[W.heap.size]? = some (.cells #[.int .u64 (hiN (v + k) : Nat), .int .u64 (loN (v + k) : Nat)] 56 (0, 0))) ∧ J k wr) (fun i _ => L + 16 - (intOf i).toNat)
  case atStart => exact ⟨0, rfl, Nat.zero_le _, hga, hJa⟩
  case round =>
    obtain ⟨k, rfl, hk, hg, hJ⟩ := hrel
    have hN : piecesN L = (L + 15) / 16 := rfl
    have hb2 := hJ2 k wr hJ
    have hb20 := cell_of_row wr B2 0 _ _ _ hb2
    have hszw : W.heap.size < wr.heap.size := lt_heap hg
    clear hb1 hb10 hb11 hJa hga h0
    by_cases hlt : 16 * k < L
    · obtain rfl := hA0 (by omega)
      have hJd : J k wr.drew := hJb k wr _ hJ (Below.refl _ wr).drew
      obtain ⟨fn, tmps, assign, body, hy, hR⟩ := hY k wr.drew (by omega) hJd hszw
      have hga0 := cell_of_row wr W.heap.size 0 _ _ _ hg
      have hga1 := cell_of_row wr W.heap.size 1 _ _ _ hg
      have HN2 := Lib.hid (numNext_any (v + k))
      dsimp only [encsP] at hy
      have HG := hg.out
      by_cases h16 : 16 * k + 16 ≤ L
      · rw [show min (16 * k + 16) L - 16 * k = 16 by omega] at hy
        have h16' : 16 * (k : Int) + 16 ≤ (L : Int) := by omega
        gi_wp2
        gi_region_with_o (refine hR.mono ?_; rintro e W3 ⟨rfl, hJ3, hs3, hg3⟩)
        all_goals
          have hg4 : W3.heap[W.heap.size]? = some (.cells #[.int .u64 (hiN (v + k) : Nat), .int .u64 (loN (v + k) : Nat)] 56 (0, 0)) := hg3.trans HG
          have hc40 := cell_of_row W3 W.heap.size 0 _ _ _ hg4
          have hc41 := cell_of_row W3 W.heap.size 1 _ _ _ hg4
          gi_wp2_with (refine ⟨trivial, ?_⟩; gi_at_call 50; refine (callsIn_wide.2 (HN2.out W3)).mono ?_; rintro e w4 ⟨rfl, hb4⟩; have hg5 := (hb4.block _ (lt_heap hg4)).trans hg4; have hc50 := cell_of_row w4 W.heap.size 0 _ _ _ hg5; have hc51 := cell_of_row w4 W.heap.size 1 _ _ _ hg5; have hf50 := frozen_of_row w4 W.heap.size 0 _ _ hg5; have hf51 := frozen_of_row w4 W.heap.size 1 _ _ hg5)
          go_roundw
          case rel => exact ⟨k + 1, by go_num, by omega, heap_setCell_same _ W.heap.size 1 _ _ _ _ (heap_setCell_same _ W.heap.size 0 _ _ _ _ hg5), hJs _ _ _ _ (hJs _ _ _ _ (hJb _ _ _ hJ3 hb4))⟩
          case measure => simp [intOf]; omega
      · rw [show min (16 * k + 16) L - 16 * k = L - 16 * k by omega] at hy
        have h16' : (L : Int) < 16 * (k : Int) + 16 := by omega
        gi_wp2
        gi_region_with_o (refine hR.mono ?_; rintro e W3 ⟨rfl, hJ3, hs3, hg3⟩)
        all_goals
          have hg4 : W3.heap[W.heap.size]? = some (.cells #[.int .u64 (hiN (v + k) : Nat), .int .u64 (loN (v + k) : Nat)] 56 (0, 0)) := hg3.trans HG
          have hc40 := cell_of_row W3 W.heap.size 0 _ _ _ hg4
          have hc41 := cell_of_row W3 W.heap.size 1 _ _ _ hg4
          gi_wp2_with (refine ⟨trivial, ?_⟩; gi_at_call 50; refine (callsIn_wide.2 (HN2.out W3)).mono ?_; rintro e w4 ⟨rfl, hb4⟩; have hg5 := (hb4.block _ (lt_heap hg4)).trans hg4; have hc50 := cell_of_row w4 W.heap.size 0 _ _ _ hg5; have hc51 := cell_of_row w4 W.heap.size 1 _ _ _ hg5; have hf50 := frozen_of_row w4 W.heap.size 0 _ _ hg5; have hf51 := frozen_of_row w4 W.heap.size 1 _ _ hg5)
          go_roundw
          case rel => exact ⟨k + 1, by go_num, by omega, heap_setCell_same _ W.heap.size 1 _ _ _ _ (heap_setCell_same _ W.heap.size 0 _ _ _ _ hg5), hJs _ _ _ _ (hJs _ _ _ _ (hJb _ _ _ hJ3 hb4))⟩
          case measure => simp [intOf]; omega
    · have hkk : k = piecesN L := by omega
      subst hkk
      gi_wp2
      go_end0
      exact ⟨⟨_, rfl⟩, hJ⟩

end Go.Proofs.YtanpfodmmeagaaaDoor
