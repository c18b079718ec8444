/-
  Words for objects: only what lies in some blocks may have changed; what may lie in new memory besides; rows of one's own beside.
-/
import Derived.Test.YtnbgnllkikajpaaWords
import Derived.Laws.Rows
namespace Go.Proofs.Ytnbgnllkikajpaa
open Go.RowKit

/-- Only what lies in F may have changed. -/
structure Away (F : Nat → Prop) (a w : World) : Prop where
  os : w.os = a.os
  tape : w.tape = a.tape
  output : w.output = a.output
  size : a.heap.size ≤ w.heap.size
  block : ∀ k, k < a.heap.size → ¬ F k → w.heap[k]? = a.heap[k]?
theorem Away.refl (F : Nat → Prop) (w : World) : Away F w w := ⟨rfl, rfl, rfl, Nat.le_refl _, fun _ _ _ => rfl⟩
theorem Away.of_below {F : Nat → Prop} {w w' : World} (h : Below w.heap.size w w') : Away F w w' := ⟨h.os, h.tape, h.output, h.size, fun k hk _ => h.block k hk⟩
/-- Where all that may have changed is one's own. -/
theorem Away.below {F : Nat → Prop} {B : Nat} {w0 a w : World} (h : Away F a w) (hF : ∀ k, F k → B ≤ k) (hb : Below B w0 a) (hB : B ≤ a.heap.size) : Below B w0 w :=
  ⟨h.os.trans hb.os, h.tape.trans hb.tape, h.output.trans hb.output, Nat.le_trans hb.size h.size, fun k hk => (h.block k (by omega) (fun q => by have := hF k q; omega)).trans (hb.block k hk)⟩
theorem Away.cell {F : Nat → Prop} {a w : World} (h : Away F a w) {b o : Nat} (hl : b < a.heap.size) (hn : ¬ F b) : w.cell? ⟨b, o, none⟩ = a.cell? ⟨b, o, none⟩ := World.cell?_of_block (h.block b hl hn)
theorem Ints.away {F : Nat → Prop} {a w : World} {B : Nat} {k : IntKind} {A : Option Addr} {l : List Int} (hI : Ints a B k A l) (h : Away F a w) (hB : B ≤ a.heap.size) (hn : 0 < l.length → ∀ b o, A = some ⟨b, o, none⟩ → ¬ F b) : Ints w B k A l := fun i hi => by
  obtain ⟨b, o, e, hb, hc⟩ := hI i hi
  exact ⟨b, o, e, hb, (h.cell (o := o + i) (by omega) (hn (by omega) b o e)).trans hc⟩

def I64c (n : Int) : Prop := -9223372036854775808 ≤ n ∧ n ≤ 9223372036854775807
/-- What may lie in new memory besides. -/
def More (F F' : Nat → Prop) (n : Nat) : Prop := ∀ b, F' b → F b ∨ n ≤ b

theorem Away.set {F : Nat → Prop} {a w : World} (h : Away F a w) {g : Nat} (hg : F g) (o : Nat) (v : Value) : Away F a (w.setCell ⟨g, o, none⟩ v) :=
  ⟨h.os, h.tape, h.output, Nat.le_trans h.size (by simp [World.setCell]), fun k hk hn => by
    have hne : g ≠ k := fun e => hn (e ▸ hg)
    have h2 : (w.setCell ⟨g, o, none⟩ v).heap[k]? = w.heap[k]? := by
      show (w.heap.modify g _)[k]? = _
      rw [Array.getElem?_modify, if_neg hne]
    rw [h2]; exact h.block k hk hn⟩
theorem setc_other (w : World) (g h i : Nat) (v : Value) (hne : g ≠ h) : (w.setCell ⟨g, i, none⟩ v).heap[h]? = w.heap[h]? := by
  show (w.heap.modify g _)[h]? = _
  rw [Array.getElem?_modify, if_neg hne]
theorem setc_same (w : World) (g i : Nat) (v : Value) (C : Array Value) (t : TypeId) (h : w.heap[g]? = some (.cells C t (0, 0))) : (w.setCell ⟨g, i, none⟩ v).heap[g]? = some (.cells (C.setIfInBounds i v) t (0, 0)) := by
  have hlt := (Array.getElem?_eq_some_iff.1 h).1
  obtain ⟨_, hk⟩ := Array.getElem?_eq_some_iff.1 h
  show (w.heap.modify g _)[g]? = _
  rw [Array.getElem?_eq_getElem (by rw [Array.size_modify]; exact hlt), Array.getElem_modify_self, hk]
  rfl
theorem own_heap {w w' : World} {base e n g c : Nat} {xs : List Value} (h : w.ownsRow base e 1 (.slice (some ⟨g, 0, none⟩) n c) n xs) (he : w'.heap[g]? = w.heap[g]?) : w'.ownsRow base e 1 (.slice (some ⟨g, 0, none⟩) n c) n xs := by
  refine ⟨h.1, ?_⟩
  rcases h.2 with hn | ⟨g2, cap, cur, hv, hbg, hg, rest⟩
  · exact .inl hn
  · have e2 : g = g2 := by
      injection hv with q1 _ _
      injection q1 with q1
      injection q1 with q1 _
    subst e2
    exact .inr ⟨g, cap, cur, hv, hbg, he.trans hg, rest⟩
theorem away_drew {F : Nat → Prop} {a w : World} (h : Away F a w) (n : Nat) : Away F a (w.drewN n) := ⟨h.os, h.tape, h.output, h.size, h.block⟩
theorem away_drew1 {F : Nat → Prop} {a w : World} (h : Away F a w) : Away F a w.drew := ⟨h.os, h.tape, h.output, h.size, h.block⟩
def Free (F : Nat → Prop) (v : Value) : Prop := ∀ q, v.ownBlock = some q → ¬ F q
theorem own_away {F : Nat → Prop} {a b : World} {base e size n : Nat} {v : Value} {xs : List Value} (h : a.ownsRow base e size v n xs) (ha : Away F a b) (hf : Free F v) : b.ownsRow base e size v n xs := by
  refine ⟨h.1, ?_⟩
  rcases h.2 with hn | ⟨g, cap, cur, hv, hbg, hg, rest⟩
  · exact .inl hn
  · refine .inr ⟨g, cap, cur, hv, hbg, (ha.block g (Array.getElem?_eq_some_iff.1 hg).1 (hf g ?_)).trans hg, rest⟩
    rw [hv]; rfl
theorem free_more {F F' : Nat → Prop} {a : World} {base e size n : Nat} {v : Value} {xs : List Value} (h : a.ownsRow base e size v n xs) (hf : Free F v) (hm : More F F' a.heap.size) : Free F' v := fun q hq hF => by
  have h1 := (h.lt q hq).2
  rcases hm q hF with h2 | h2
  · exact hf q hq h2
  · omega

end Go.Proofs.Ytnbgnllkikajpaa
