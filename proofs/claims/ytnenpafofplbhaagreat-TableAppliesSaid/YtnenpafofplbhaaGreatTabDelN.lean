/-
  Plain: a thing taken out of a list in order; 'clear' of one thing of a row of one's own, a whole thing stored into one: at a plain region's list.
-/
import Derived.Test.YtnenpafofplbhaaGreatTabSortN
namespace Go.Proofs.YtnenpafofplbhaaGreat
open Go.RowKit

theorem filter_erase {α : Type} (k : α → Int) {id : Int} : ∀ {l : List α} {i : Nat} (hi : i < l.length), (l.Pairwise fun a b => k a < k b) → k l[i] = id → (l.filter fun x => decide (k x ≠ id)) = l.eraseIdx i
  | x :: l, 0, hi, h, he => by
    obtain ⟨h1, h2⟩ := List.pairwise_cons.1 h
    have he' : k x = id := he
    rw [List.filter_cons_of_neg (by simp [he']), List.eraseIdx_cons_zero]
    exact List.filter_eq_self.2 fun y hy => by have := h1 y hy; exact decide_eq_true (by omega)
  | x :: l, i + 1, hi, h, he => by
    obtain ⟨h1, h2⟩ := List.pairwise_cons.1 h
    have hi2 : i < l.length := by simpa using hi
    have he' : k l[i] = id := by simpa using he
    have hx := h1 l[i] (List.getElem_mem hi2)
    have hd : decide (k x ≠ id) = true := decide_eq_true (by omega)
    rw [List.filter_cons_of_pos (p := fun x => decide (k x ≠ id)) hd, List.eraseIdx_cons_succ, filter_erase k hi2 h2 he']
/-- A list of which the thing at k is taken out, as far as j. -/
def delTo {α : Type} (l : List α) (k j : Nat) : List α := (l.eraseIdx k).take (j - 1) ++ l.drop (j - 1)
theorem delTo_len {α : Type} {l : List α} {k j : Nat} (hk : k < l.length) (hj : j ≤ l.length) (h1 : 1 ≤ j) : (delTo l k j).length = l.length := by
  unfold delTo
  rw [List.length_append, List.length_take, List.length_eraseIdx_of_lt hk, List.length_drop]; omega
theorem delTo_start {α : Type} {l : List α} {k : Nat} : delTo l k (k + 1) = l := by
  unfold delTo
  rw [Nat.add_sub_cancel]
  have e : (l.eraseIdx k).take k = l.take k := by
    refine List.ext_getElem? fun i => ?_
    rw [List.getElem?_take, List.getElem?_take]
    by_cases h : i < k
    · rw [if_pos h, if_pos h, List.getElem?_eraseIdx_of_lt h]
    · rw [if_neg h, if_neg h]
  rw [e, List.take_append_drop]
theorem delTo_at {α : Type} {l : List α} {k j : Nat} (hk : k < l.length) (hj : j < l.length) (h1 : 1 ≤ j) : (delTo l k j)[j]? = some l[j] := by
  unfold delTo
  have hl : ((l.eraseIdx k).take (j - 1)).length = j - 1 := by rw [List.length_take, List.length_eraseIdx_of_lt hk]; omega
  rw [List.getElem?_append_right (by omega), hl, List.getElem?_drop, show j - 1 + (j - (j - 1)) = j by omega, List.getElem?_eq_getElem hj]
theorem delTo_next {α : Type} {l : List α} {k j : Nat} (hk : k < j) (hj : j < l.length) : (delTo l k j).set (j - 1) l[j] = delTo l k (j + 1) := by
  have hkl : k < l.length := by omega
  unfold delTo
  have hl : ((l.eraseIdx k).take (j - 1)).length = j - 1 := by rw [List.length_take, List.length_eraseIdx_of_lt hkl]; omega
  rw [List.set_append_right (h := by omega), hl, Nat.sub_self, Nat.add_sub_cancel, List.drop_eq_getElem_cons (i := j - 1) (by omega), List.set_cons_zero, show j - 1 + 1 = j by omega]
  have hel : j - 1 < (l.eraseIdx k).length := by rw [List.length_eraseIdx_of_lt hkl]; omega
  have e : (l.eraseIdx k).take j = (l.eraseIdx k).take (j - 1) ++ [l[j]] := by
    have h2 := List.take_succ_eq_append_getElem hel
    rw [show j - 1 + 1 = j by omega] at h2
    rw [h2]
    congr 2
    have h3 := List.getElem?_eraseIdx_of_ge (l := l) (i := k) (j := j - 1) (by omega)
    rw [show j - 1 + 1 = j by omega, List.getElem?_eq_getElem hel, List.getElem?_eq_getElem hj] at h3
    injection h3
  rw [e]; simp
theorem delTo_end {α : Type} {l : List α} {k : Nat} (hk : k < l.length) : (delTo l k l.length).take (l.length - 1) = l.eraseIdx k := by
  unfold delTo
  have hl : (l.eraseIdx k).length = l.length - 1 := List.length_eraseIdx_of_lt hk
  rw [List.take_append_of_le_length (by rw [List.length_take, hl]; omega), List.take_take, Nat.min_self, List.take_of_length_le (by omega)]

/-- A whole thing is stored into a row of one's own, at a plain region's list. -/
theorem wpList_put {P : Program} {ops : Array Oper} {rest : List Oper} {o : Oper} {a : Act} {w : World} {Q : Exit → Act → World → Prop} (hgd : o.guard = none) (ty : TypeId) (x y : Operand) (ho : o.op = .store ty x y)
    {α : Type} {E : α → List Value} {e base t n g c k : Nat} {A : Option Addr} {l : List α} (hE : ∀ x, (E x).length = e) (h1 : ∀ x, ∀ u ∈ E x, u.oneCell' = true) (h : w.ownsRow base t e (.slice A n c) n (flat E l)) (hA : A = some ⟨g, 0, none⟩) (hn : n = l.length) (hk : k < l.length)
    (off : Nat) (hoff : off = k * e) (z : α) (hx : a.eval x = .pointer (some ⟨g, off, none⟩)) (cs : Array Value) (hcs : cs = (E z).toArray) (hy : a.eval y = .agg cs) (hi : (P.info? ty).map (·.size) = some e)
    (hK : ∀ W : World, W.ownsRow base t e (.slice A n c) n (flat E (l.set k z)) → w.grownBy W (some g) → wpList P ops Q rest (a.put o.dst undef) W) : wpList P ops Q (o :: rest) a w := by
  subst hoff hcs
  have hs : ((E z).toArray).size = e := by rw [List.size_toArray, hE]
  have hth : w.there g (k * e) ((E z).toArray).size := fun j hj => by
    rw [hs] at hj
    obtain ⟨g2, hA2, _, _, _, hc, hf⟩ := own_at hE h hn hk
    have : g2 = g := by rw [hA] at hA2; injection hA2 with q; injection q with q; exact q.symm
    subst this
    refine ⟨?_, hf _⟩
    rw [hc j _ (List.getElem?_eq_getElem (by rw [hE]; exact hj))]; rfl
  refine wpList_store_mid hgd ty x y ho g (k * e) _ hx hy hth (by rw [hs]; exact hi) (all_oneCell_toArray (h1 z)) (hK _ ?_ ?_)
  · exact own_put hE h hA hn hk z
  · exact setCells_grown w g (k * e) (E z)
/-- 'clear' of the last thing of a row of one's own. -/
theorem wpList_clear {P : Program} {ops : Array Oper} {rest : List Oper} {o : Oper} {a : Act} {w : World} {Q : Exit → Act → World → Prop} (hgd : o.guard = none) (s : Operand) (ty et : TypeId)
    (ho : o.op = .call { callee := .builtin .clear, args := #[s], argTypes := #[ty] }) (hu : P.underlying ty = some (.slice et)) (zv : Value) (hz : ∀ w, (zeroValue et).run P w = .ok zv w)
    {α : Type} {E : α → List Value} {e base t n g c k : Nat} {A : Option Addr} {l : List α} (hE : ∀ x, (E x).length = e) (h1 : ∀ x, ∀ u ∈ E x, u.oneCell' = true) (h : w.ownsRow base t e (.slice A n c) n (flat E l)) (hA : A = some ⟨g, 0, none⟩) (hn : n = l.length) (hk : k < l.length)
    (off : Nat) (hoff : off = k * e) (c' : Nat) (z : α) (hs : a.eval s = .slice (some ⟨g, off, none⟩) 1 c') (hzc : (Builtin.zeroCells zv.cells 1).toList = E z)
    (hK : ∀ W : World, W.ownsRow base t e (.slice A n c) n (flat E (l.set k z)) → w.grownBy W (some g) → wpList P ops Q rest (a.put o.dst (.tuple #[])) W) : wpList P ops Q (o :: rest) a w := by
  subst hoff
  refine wpList_plain hgd fun K hKK => ?_
  have hth : ∀ j, j < (E z).length → (w.cell? ⟨g, k * e + j, none⟩).isSome = true ∧ w.frozen? ⟨g, k * e + j, none⟩ = false := fun j hj => by
    rw [hE] at hj
    obtain ⟨g2, hA2, _, _, _, hc, hf⟩ := own_at hE h hn hk
    have : g2 = g := by rw [hA] at hA2; injection hA2 with q; injection q with q; exact q.symm
    subst this
    refine ⟨?_, hf _⟩
    rw [hc j _ (List.getElem?_eq_getElem (by rw [hE]; exact hj))]; rfl
  have hst := run_storeCells_cells (P := P) g (k * e) (E z) 0 w (fun j hj => (hth j hj).1) (fun j hj => (hth j hj).2) (h1 z)
  have hrun : (Builtin.clear_ #[ty] o.type #[.slice (some ⟨g, k * e, none⟩) 1 c']).run P w = .ok (.tuple #[]) (w.setCells g (k * e) (E z)) := by
    simp [Builtin.clear_, run_underlying hu, hz, hzc, hst]
  unfold Oper.wp execOp
  simp only [ho, resolve, invoke, builtin, Sem.run_bind, Sem.run_pure, Result.andThen_ok, List.map_toArray, List.map_cons, List.map_nil, hs, hrun]
  exact hKK _ _ (hK _ (own_put hE h hA hn hk z) (setCells_grown w g (k * e) (E z)))

end Go.Proofs.YtnenpafofplbhaaGreat
