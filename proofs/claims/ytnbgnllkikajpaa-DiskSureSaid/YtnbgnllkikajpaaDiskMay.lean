/-
  A disk of one's own beside a row of eight rows of texts of one's own.
-/
import Derived.Test.YtnbgnllkikajpaaDiskSure
import Derived.Test.YtnbgnllkikajpaaSpan
namespace Go.Proofs.Ytnbgnllkikajpaa
open Go.RowKit

def txtV (t : List Nat) : Value := .string (strOfNums (up t))
def updV {α : Type} (V : Nat → α) (n : Nat) (x : α) : Nat → α := fun j => if j = n then x else V j
theorem updV_same {α : Type} (V : Nat → α) (n : Nat) (x : α) : updV V n x n = x := if_pos rfl
theorem updV_other {α : Type} (V : Nat → α) {n j : Nat} (x : α) (h : j ≠ n) : updV V n x j = V j := if_neg h
def rowV (V : Nat → Value) : Array Value := ((List.range 8).map V).toArray
theorem rowV_at (V : Nat → Value) {j : Nat} (h : j < 8) : (rowV V)[j]? = some (V j) := by simp [rowV, h]
theorem rowV_set (V : Nat → Value) {n : Nat} (x : Value) : (rowV V).setIfInBounds n x = rowV (updV V n x) := by
  unfold rowV
  rw [List.setIfInBounds_toArray]
  congr 1
  refine List.ext_getElem (by simp) fun i h1 h2 => ?_
  rw [List.getElem_set]
  simp only [List.getElem_map, List.getElem_range]
  by_cases e : n = i
  · subst e; rw [if_pos rfl, updV_same]
  · rw [if_neg e, updV_other _ _ (fun q => e q.symm)]

structure MayR (Rep : World → Nat → (Nat → Prop) → Dk → Prop) (w : World) (p : Nat) (s : Dk) (gm k : Nat) (V : Nat → Value) (L : Nat → List Value) (W : World) : Prop where
  below : Below w.heap.size w W
  row : W.heap[gm]? = some (.cells (rowV V) 41 (0, 0))
  nil : ∀ j, k ≤ j → V j = .slice none 0 0
  span : ∀ j, j < k → Span W w.heap.size (V j) (L j)
  apart : ∀ i j, i < k → j < k → i ≠ j → (V i).ownBlock ≠ (V j).ownBlock
  ne : ∀ j, j < k → (V j).ownBlock ≠ some gm
  ge : w.heap.size ≤ gm
  rep : ∃ F, Rep W p F s ∧ (∀ b, F b → w.heap.size ≤ b) ∧ ¬ F gm ∧ ∀ j, j < k → Free F (V j)
section
variable {w : World} {Rep : World → Nat → (Nat → Prop) → Dk → Prop} {p gm k : Nat} {s : Dk} {V : Nat → Value} {L : Nat → List Value} {W : World}
theorem MayR.lt (h : MayR Rep w p s gm k V L W) : gm < W.heap.size := (Array.getElem?_eq_some_iff.1 h.row).1
theorem MayR.cell (h : MayR Rep w p s gm k V L W) {j : Nat} (hj : j < 8) : W.cell? ⟨gm, j, none⟩ = some (V j) := by
  rw [cell_of_row _ _ _ _ _ _ h.row, rowV_at V hj]
theorem MayR.thaw (h : MayR Rep w p s gm k V L W) (j : Nat) : W.frozen? ⟨gm, j, none⟩ = false := frozen_of_row _ _ _ _ _ h.row
theorem MayR.own (h : MayR Rep w p s gm k V L W) : OwnD Rep w W p s := by
  obtain ⟨F, h1, h2, _⟩ := h.rep
  exact ⟨F, h1, h2, h.below⟩
theorem MayR.later (HS : DiskSpec w Rep) {W' : World} (h : MayR Rep w p s gm k V L W) (hb : Below W.heap.size W W') : MayR Rep w p s gm k V L W' := by
  obtain ⟨F, h1, h2, h3, h4⟩ := h.rep
  exact ⟨chain h.below hb, (hb.block gm h.lt).trans h.row, h.nil, fun j hj => (h.span j hj).below hb, h.apart, h.ne, h.ge, F, HS.later h1 hb, h2, h3, h4⟩
/-- The disk was called. -/
theorem MayR.turn {W' : World} {s' : Dk} {F F' : Nat → Prop} (h : MayR Rep w p s gm k V L W) (h2 : ∀ b, F b → w.heap.size ≤ b) (h3 : ¬ F gm) (h4 : ∀ j, j < k → Free F (V j)) (hr : Rep W' p F' s') (hm : More F F' W.heap.size) (ha : Away F W W') : MayR Rep w p s' gm k V L W' := by
  refine ⟨ha.below h2 h.below h.below.size, (ha.block gm h.lt h3).trans h.row, h.nil, fun j hj => (h.span j hj).keep ha.size fun g hg => ?_, h.apart, h.ne, h.ge, F', hr, fun b q => (hm b q).elim (h2 b) (fun q => Nat.le_trans h.below.size q), fun q => ?_, fun j hj q hq hF => ?_⟩
  · obtain ⟨g2, e, _, hlt⟩ := (h.span j hj).lt
    rw [e] at hg
    injection hg with hg
    subst hg
    exact ha.block g2 hlt (h4 j hj g2 e)
  · have := h.lt
    exact (hm gm q).elim h3 (fun q => by omega)
  · obtain ⟨g2, e, _, hlt⟩ := (h.span j hj).lt
    rw [e] at hq
    injection hq with hq
    subst hq
    exact (hm g2 hF).elim (h4 j hj g2 e) (fun q => by omega)
/-- One of the rows is another one now. -/
theorem MayR.set (HS : DiskSpec w Rep) {W1 : World} {row : Option Nat} {n k' : Nat} {v' : Value} {ys : List Value} (h : MayR Rep w p s gm k V L W) (hk : k' = k ∨ k' = k + 1 ∧ n = k) (hn : n < k') (hg : W.grownBy W1 row) (hrow : row = none ∨ n < k ∧ row = (V n).ownBlock)
    (hsp : Span W1 w.heap.size v' ys) (hbl : (n < k ∧ v'.ownBlock = (V n).ownBlock) ∨ ∃ q, v'.ownBlock = some q ∧ W.heap.size ≤ q) : MayR Rep w p s gm k' (updV V n v') (updV L n ys) (W1.setCell ⟨gm, n, none⟩ v') := by
  have hkk : ∀ j, j < k' → j ≠ n → j < k := fun j hj hne => by rcases hk with e | ⟨e, e2⟩ <;> omega
  have hkl : ∀ j, k' ≤ j → j ≠ n ∧ k ≤ j := fun j hj => by rcases hk with e | ⟨e, e2⟩ <;> omega
  obtain ⟨F, h1, h2, h3, h4⟩ := h.rep
  have hgm : row ≠ some gm := by
    rcases hrow with e | ⟨hk, e⟩
    · rw [e]; simp
    · rw [e]; exact h.ne n hk
  have hrl : ∀ q, row = some q → w.heap.size ≤ q := fun q hq => by
    rcases hrow with e | ⟨hk, e⟩
    · rw [e] at hq; cases hq
    · obtain ⟨g2, e2, hle, _⟩ := (h.span n hk).lt
      rw [e, e2] at hq
      injection hq with hq
      omega
  have hW1 : W1.heap[gm]? = some (.cells (rowV V) 41 (0, 0)) := (hg.block gm h.lt (fun e => hgm e.symm)).trans h.row
  have hsz : (W1.setCell ⟨gm, n, none⟩ v').heap.size = W1.heap.size := setCell1_size _ _ _
  have hlt : ∀ j, j < k → ∃ q, (V j).ownBlock = some q ∧ q < W.heap.size := fun j hj => by
    obtain ⟨g2, e2, _, h3⟩ := (h.span j hj).lt
    exact ⟨g2, e2, h3⟩
  have hvq : ∃ q, v'.ownBlock = some q ∧ q ≠ gm ∧ ¬ F q := by
    rcases hbl with ⟨q1, q2⟩ | ⟨q, q1, q2⟩
    · obtain ⟨g2, e2, _⟩ := hlt n q1
      exact ⟨g2, q2.trans e2, fun e => h.ne n q1 (by rw [e2, e]), h4 n q1 g2 e2⟩
    · exact ⟨q, q1, fun e => by have := h.lt; omega, fun e => by have := HS.lt W p F s h1 q e; omega⟩
  refine ⟨(h.below.grown hg h.below.size hrl).setCell (p := ⟨gm, n, none⟩) h.ge _, by rw [setc_same _ _ _ _ _ _ hW1, rowV_set], fun j hj => ?_, fun j hj => ?_, fun i j hi hj hij => ?_, fun j hj => ?_, h.ge, F, HS.keep W _ p F s h1 fun b hb => ?_, h2, h3, fun j hj => ?_⟩
  · rw [updV_other _ _ (hkl j hj).1]; exact h.nil j (hkl j hj).2
  · by_cases e : j = n
    · subst e
      rw [updV_same, updV_same]
      refine hsp.keep (Nat.le_of_eq hsz.symm) fun q hq => setc_other W1 gm q _ _ fun e => ?_
      obtain ⟨q2, e2, hne, _⟩ := hvq
      rw [e2] at hq
      injection hq with hq
      omega
    · rw [updV_other _ _ e, updV_other _ _ e]
      have hjk := hkk j hj e
      refine (h.span j hjk).keep (by rw [hsz]; exact hg.size) fun q hq => ?_
      obtain ⟨q2, e2, hl⟩ := hlt j hjk
      rw [setc_other W1 gm q _ _ fun e => h.ne j hjk (by rw [hq, e])]
      refine hg.block q (by rw [e2] at hq; injection hq with hq; omega) fun er => ?_
      rcases hrow with e4 | ⟨hk4, e4⟩
      · rw [e4] at er; cases er
      · exact h.apart j n hjk hk4 e (by rw [hq, er, e4])
  · have key : ∀ m, m < k → m ≠ n → v'.ownBlock ≠ (V m).ownBlock := fun m hm hne e => by
      rcases hbl with ⟨q1, q2⟩ | ⟨q, q1, q2⟩
      · exact h.apart n m q1 hm (fun e => hne e.symm) (q2.symm.trans e)
      · obtain ⟨q3, e3, hl⟩ := hlt m hm
        rw [q1, e3] at e
        injection e with e
        omega
    by_cases e1 : i = n
    · subst e1
      rw [updV_same, updV_other _ _ (fun e => hij e.symm)]
      exact key j (hkk j hj (fun e => hij e.symm)) (fun e => hij e.symm)
    · by_cases e2 : j = n
      · subst e2
        rw [updV_same, updV_other _ _ e1]
        exact fun e => key i (hkk i hi e1) e1 e.symm
      · rw [updV_other _ _ e1, updV_other _ _ e2]
        exact h.apart i j (hkk i hi e1) (hkk j hj e2) hij
  · by_cases e : j = n
    · subst e
      rw [updV_same]
      obtain ⟨q2, e2, hne, _⟩ := hvq
      rw [e2]
      exact fun e => hne (by injection e)
    · rw [updV_other _ _ e]; exact h.ne j (hkk j hj e)
  · have hbg : gm ≠ b := fun e => h3 (e ▸ hb)
    rw [setc_other W1 gm b _ _ hbg]
    refine hg.block b (HS.lt W p F s h1 b hb) fun er => ?_
    rcases hrow with e4 | ⟨hk4, e4⟩
    · rw [e4] at er; cases er
    · exact h4 n hk4 b (by rw [← e4, ← er]) hb
  · by_cases e : j = n
    · subst e
      rw [updV_same]
      obtain ⟨q2, e2, _, hnF⟩ := hvq
      intro q hq hF
      rw [e2] at hq
      injection hq with hq
      exact hnF (hq ▸ hF)
    · rw [updV_other _ _ e]; exact h4 j (hkk j hj e)
end

end Go.Proofs.Ytnbgnllkikajpaa
