/-
  A slice of one's own that may begin in the midst of its block, of any values of one cell: what it holds, its room; a cut of it; append of one value onto it.
-/
import Derived.Test.YtnbgnllkikajpaaAway
import Derived.Test.YtnbgnllkikajpaaArrs
import Derived.ArgAppend
import Derived.Laws.IdiomCopy
import Derived.Deep.MidRow
import Derived.Maps.AppendAt
namespace Go.Proofs.Ytnbgnllkikajpaa
open Go.RowKit

/-- The slice v holds the values xs, in a block since base; all its room can be written. -/
def Span (w : World) (base : Nat) (v : Value) (xs : List Value) : Prop :=
  ∃ g o cap, v = .slice (some ⟨g, o, none⟩) xs.length cap ∧ base ≤ g ∧ g < w.heap.size ∧ xs.length ≤ cap ∧ cap ≤ maxLen ∧
    (∀ j, j < cap → (w.cell? ⟨g, o + j, none⟩).isSome = true ∧ w.frozen? ⟨g, o + j, none⟩ = false) ∧ ∀ j u, xs[j]? = some u → w.cell? ⟨g, o + j, none⟩ = some u

section
variable {w w' : World} {base : Nat} {v : Value} {xs : List Value}
theorem Span.lt (h : Span w base v xs) : ∃ g, v.ownBlock = some g ∧ base ≤ g ∧ g < w.heap.size := by
  obtain ⟨g, o, cap, rfl, h1, h2, _⟩ := h
  exact ⟨g, rfl, h1, h2⟩
theorem frozen_of_block {a b : World} {g : Nat} (h : b.heap[g]? = a.heap[g]?) (o : Nat) : b.frozen? ⟨g, o, none⟩ = a.frozen? ⟨g, o, none⟩ := by
  unfold World.frozen?; rw [h]
theorem Span.keep (h : Span w base v xs) (hs : w.heap.size ≤ w'.heap.size) (hk : ∀ g, v.ownBlock = some g → w'.heap[g]? = w.heap[g]?) : Span w' base v xs := by
  obtain ⟨g, o, cap, rfl, h1, h2, h3, h4, h5, h6⟩ := h
  have hg := hk g rfl
  exact ⟨g, o, cap, rfl, h1, Nat.lt_of_lt_of_le h2 hs, h3, h4, fun j hj => by rw [World.cell?_of_block hg, frozen_of_block hg]; exact h5 j hj, fun j u hu => by rw [World.cell?_of_block hg]; exact h6 j u hu⟩
theorem Span.below (h : Span w base v xs) (hb : Below w.heap.size w w') : Span w' base v xs := by
  obtain ⟨g, e, _, h2⟩ := h.lt
  exact h.keep hb.size fun q hq => hb.block q (by rw [e] at hq; injection hq with hq; omega)
theorem Span.form (h : Span w base v xs) : ∃ g o cap, v = .slice (some ⟨g, o, none⟩) xs.length cap ∧ xs.length ≤ cap := by
  obtain ⟨g, o, cap, e, _, _, h3, _⟩ := h
  exact ⟨g, o, cap, e, h3⟩
theorem Span.cell {g o n cap : Nat} (h : Span w base (.slice (some ⟨g, o, none⟩) n cap) xs) {j : Nat} {u : Value} (hu : xs[j]? = some u) : w.cell? ⟨g, o + j, none⟩ = some u := by
  obtain ⟨g', o', cap', e, _, _, _, _, _, h6⟩ := h
  injection e with e _ _
  injection e with e
  injection e with e1 e2
  subst e1 e2
  exact h6 j u hu
theorem Span.len {g o n cap : Nat} (h : Span w base (.slice (some ⟨g, o, none⟩) n cap) xs) : n = xs.length ∧ n ≤ cap ∧ cap ≤ maxLen := by
  obtain ⟨g', o', cap', e, _, _, h3, h4, _⟩ := h
  injection e with _ e1 e2
  subst e1 e2
  exact ⟨rfl, h3, h4⟩
/-- 's[k:]'. -/
theorem Span.cut {g o n cap k : Nat} (h : Span w base (.slice (some ⟨g, o, none⟩) n cap) xs) (hk : k ≤ n) : Span w base (.slice (some ⟨g, o + k, none⟩) (n - k) (cap - k)) (xs.drop k) := by
  obtain ⟨g', o', cap', e, h1, h2, h3, h4, h5, h6⟩ := h
  injection e with e e1 e2
  injection e with e
  injection e with e3 e4
  subst e1 e2 e3 e4
  refine ⟨g, o + k, cap - k, by rw [List.length_drop], h1, h2, by rw [List.length_drop]; omega, by omega, fun j hj => ?_, fun j u hu => ?_⟩
  · rw [Nat.add_assoc]; exact h5 (k + j) (by omega)
  · rw [Nat.add_assoc]; exact h6 (k + j) u (by rw [← hu, List.getElem?_drop])
theorem Span.of_own {e n : Nat} (h : w.ownsRow base e 1 v n xs) (h0 : 0 < n) : Span w base v xs := by
  have hl : xs.length = n := by have := h.1; omega
  rcases h.2 with ⟨rfl, hn⟩ | ⟨g, cap, cur, rfl, hb, hg, hle, hm, hs, ht⟩
  · omega
  · rw [Nat.mul_one] at hs ht
    refine ⟨g, 0, cap, by rw [hl], hb, (Array.getElem?_eq_some_iff.1 hg).1, by omega, hm, fun j hj => ⟨?_, by rw [Nat.zero_add]; exact frozen_of_row w g j cur e hg⟩, fun j u hu => ?_⟩
    · rw [Nat.zero_add, cell_of_row w g j cur e _ hg]
      simp [hs, hj]
    · have hj : j < n := by
        rcases Nat.lt_or_ge j n with q | q
        · exact q
        · rw [List.getElem?_eq_none (by omega)] at hu; cases hu
      rw [Nat.zero_add, cell_of_row w g j cur e _ hg, ← Array.getElem?_toList]
      have hq : cur.toList[j]? = (cur.toList.take n)[j]? := by rw [List.getElem?_take, if_pos hj]
      rw [hq, ht, hu]
theorem Span.since {b0 : Nat} (h : Span w base v xs) (hb : b0 ≤ base) : Span w b0 v xs := by
  obtain ⟨g, o, cap, e, h1, h2⟩ := h
  exact ⟨g, o, cap, e, Nat.le_trans hb h1, h2⟩
/-- A literal of one value. -/
theorem Span.lit (w : World) (u : Value) (t : TypeId) (hb : base ≤ w.heap.size) : Span (w.alloc (.cells #[u] t)) base (.slice (some ⟨w.heap.size, 0, none⟩) 1 1) [u] := by
  have hg := heap_alloc_new w (.cells #[u] t)
  refine ⟨w.heap.size, 0, 1, rfl, hb, by simp, Nat.le_refl _, by decide, fun j hj => ?_, fun j v hv => ?_⟩
  · obtain rfl : j = 0 := by omega
    exact ⟨by rw [cell_of_row _ _ _ _ _ _ hg]; rfl, frozen_of_row _ _ _ _ _ hg⟩
  · match j, hv with
    | 0, hv => rw [cell_of_row _ _ _ _ _ _ hg]; simpa using hv
end

theorem setCell1_size (w : World) (p : Addr) (v : Value) : (w.setCell p v).heap.size = w.heap.size := by simp [World.setCell]
theorem run_append_span {P : Program} (w : World) (t ty : TypeId) (e : TypeId) (i : TypeInfo) (z : Value) (bytes : Nat) (ht : P.underlying t = some (.slice e)) (hi : P.info? e = some i) (hz : i.zero = some z)
    (hsize : i.size = 1) (hby : i.bytes = bytes) (hzs : z.cells.size = 1) (base : Nat) (v : Value) (xs : List Value) (u : Value) (c : Nat) (ad : Addr)
    (h : Span w base v xs) (hu : w.cell? (ad.add 0) = some u) (h1 : u.oneCell' = true) (h63 : xs.length + 1 ≤ maxLen) (hbytes : (xs.length + 1) * bytes ≤ 140737488355328) (hbase : base ≤ w.heap.size) :
    ∃ v' w', (Builtin.append_ #[t, t] ty #[v, .slice (some ad) 1 c]).run P w = .ok v' w' ∧ Span w' base v' (xs ++ [u]) ∧ w.grownBy w' v.ownBlock ∧ (v'.ownBlock = v.ownBlock ∨ ∃ q, v'.ownBlock = some q ∧ w.heap.size ≤ q) := by
  obtain ⟨g, o, cap, rfl, q1, q2, q3, q4, q5, q6⟩ := h
  have hnews : ∀ j x, [u][j]? = some x → w.cell? (ad.add j) = some x := by
    intro j x hx
    match j, hx with
    | 0, hx => rw [hu]; simpa using hx
  have hone : ∀ x ∈ [u], x.oneCell' = true := fun x hx => by rw [List.mem_singleton.1 hx]; exact h1
  rcases Nat.lt_or_ge cap (xs.length + 1) with hfull | hfit
  · obtain ⟨v', w', hrun, hown, hg⟩ := run_append_arg_grows (P := P) w t ty e i z 1 bytes ht hi hz hsize hby hzs (by decide) ⟨g, o, none⟩ xs.length cap xs (by simp)
      (fun j x hx => by rw [Addr.add_mid]; exact q6 j x hx) ad 1 c [u] rfl hnews hfull h63 hbytes
    obtain ⟨q, hq, hq1, _⟩ := (Span.of_own hown (by omega)).lt
    exact ⟨v', w', hrun, (Span.of_own hown (by omega)).since hbase, ⟨hg.os, hg.tape, hg.output, hg.size, fun k hk _ => hg.block k hk (by simp)⟩, .inr ⟨q, hq, hq1⟩⟩
  · have hrun := run_append_room_cells (P := P) w t ty e i ht hi g o xs.length cap ad 1 c [u] (by simp [hsize]) hnews hone hfit
      (fun j hj => by rw [hsize, Nat.mul_one, Nat.add_assoc]; exact (q5 _ (by simp at hj; omega)).1) (fun j hj => by rw [hsize, Nat.mul_one, Nat.add_assoc]; exact (q5 _ (by simp at hj; omega)).2)
    rw [hsize, Nat.mul_one] at hrun
    have hset : w.setCells g (o + xs.length) [u] = w.setCell ⟨g, o + xs.length, none⟩ u := rfl
    rw [hset] at hrun
    refine ⟨_, _, hrun, ⟨g, o, cap, by rw [List.length_append]; rfl, q1, by rw [setCell1_size]; exact q2, by rw [List.length_append]; exact hfit, q4, fun j hj => ⟨?_, ?_⟩, fun j x hx => ?_⟩, ?_, .inl rfl⟩
    · exact World.isSome_setCells g [u] _ w _ (q5 j hj).1
    · rw [World.frozen?_setCell]; exact (q5 j hj).2
    · rcases Nat.lt_or_ge j xs.length with hj | hj
      · rw [World.cell?_setCell_other _ _ _ _ (fun e => by injection e with _ e _; omega)]
        exact q6 j x (by rw [← hx, List.getElem?_append_left hj])
      · have hj2 : j = xs.length := by
          rcases Nat.lt_or_ge xs.length j with g2 | g2
          · rw [List.getElem?_eq_none (by simp; omega)] at hx; cases hx
          · omega
        subst hj2
        rw [List.getElem?_append_right (Nat.le_refl _), Nat.sub_self] at hx
        have hx' : u = x := by simpa using hx
        rw [← hx']
        exact World.cell?_setCell_same' w _ u (q5 _ (by omega)).1
    · exact ⟨rfl, rfl, rfl, by rw [setCell1_size]; exact Nat.le_refl _, fun k _ hne => setc_other w g k _ u (fun e => hne (by rw [e]; rfl))⟩

theorem wpList_append_span {P : Program} (w : World) {ops : Array Oper} {rest : List Oper} {o : Oper} {a : Act} {Q : Exit → Act → World → Prop} (hw : Region.wanted o (yielded ops a.tmps) = true) (s x : Operand) (t : TypeId)
    (ho : o.op = .call { callee := .builtin .append, args := #[s, x], argTypes := #[t, t] })
    (base : Nat) (e : TypeId) (i : TypeInfo) (z : Value) (bytes : Nat) (ht : P.underlying t = some (.slice e)) (hi : P.info? e = some i) (hz : i.zero = some z)
    (hsize : i.size = 1) (hby : i.bytes = bytes) (hzs : z.cells.size = 1) (v : Value) (xs : List Value) (u : Value) (c : Nat) (ad : Addr) (hs : a.eval s = v) (hx : a.eval x = .slice (some ad) 1 c)
    (hsp : Span w base v xs) (hu : w.cell? (ad.add 0) = some u) (h1 : u.oneCell' = true) (h63 : xs.length + 1 ≤ maxLen) (hbytes : (xs.length + 1) * bytes ≤ 140737488355328) (hbase : base ≤ w.heap.size)
    (h : ∀ v' w', Span w' base v' (xs ++ [u]) → w.grownBy w' v.ownBlock → (v'.ownBlock = v.ownBlock ∨ ∃ q, v'.ownBlock = some q ∧ w.heap.size ≤ q) → wpList P ops Q rest (a.put o.dst v') w') :
    wpList P ops Q (o :: rest) a w := by
  refine wpList_when hw fun K hK => ?_
  obtain ⟨v', w', hrun, h2, h3, h4⟩ := run_append_span (P := P) w t o.type e i z bytes ht hi hz hsize hby hzs base v xs u c ad hsp hu h1 h63 hbytes hbase
  unfold Oper.wp execOp
  simp only [ho, resolve, invoke, builtin, Sem.run_bind, Sem.run_pure, Result.andThen_ok, List.map_toArray, List.map_cons, List.map_nil, hs, hx, hrun]
  exact hK _ _ (h v' w' h2 h3 h4)
theorem step_append_span {P : Program} (w : World) {ops : Array Oper} {o : Oper} {a : Act} {K : Act → World → Prop} {Q : Exit → Act → World → Prop} {E : Prop} (hw : Region.wanted o (yielded ops a.tmps) = true) (s x : Operand) (t : TypeId)
    (ho : o.op = .call { callee := .builtin .append, args := #[s, x], argTypes := #[t, t] })
    (base : Nat) (e : TypeId) (i : TypeInfo) (z : Value) (bytes : Nat) (ht : P.underlying t = some (.slice e)) (hi : P.info? e = some i) (hz : i.zero = some z)
    (hsize : i.size = 1) (hby : i.bytes = bytes) (hzs : z.cells.size = 1) (v : Value) (xs : List Value) (u : Value) (c : Nat) (ad : Addr) (hs : a.eval s = v) (hx : a.eval x = .slice (some ad) 1 c)
    (hsp : Span w base v xs) (hu : w.cell? (ad.add 0) = some u) (h1 : u.oneCell' = true) (h63 : xs.length + 1 ≤ maxLen) (hbytes : (xs.length + 1) * bytes ≤ 140737488355328) (hbase : base ≤ w.heap.size)
    (h : ∀ v' w', Span w' base v' (xs ++ [u]) → w.grownBy w' v.ownBlock → (v'.ownBlock = v.ownBlock ∨ ∃ q, v'.ownBlock = some q ∧ w.heap.size ≤ q) → K (a.put o.dst v') w') :
    if Region.wanted o (yielded ops a.tmps) = true then Oper.wp P o a w K Q else E := by
  rw [if_pos hw]
  obtain ⟨v', w', hrun, h2, h3, h4⟩ := run_append_span (P := P) w t o.type e i z bytes ht hi hz hsize hby hzs base v xs u c ad hsp hu h1 h63 hbytes hbase
  unfold Oper.wp execOp
  simp only [ho, resolve, invoke, builtin, Sem.run_bind, Sem.run_pure, Result.andThen_ok, List.map_toArray, List.map_cons, List.map_nil, hs, hx, hrun]
  exact h v' w' h2 h3 h4

end Go.Proofs.Ytnbgnllkikajpaa
