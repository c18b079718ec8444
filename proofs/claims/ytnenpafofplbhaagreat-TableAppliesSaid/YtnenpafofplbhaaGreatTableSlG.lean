/-
  Rows whose slice may have been cut to a smaller capacity (s[:i:i]): what lies in them, how they grow. A table of one's own, in a box (the document's own functions work so). Three boxes, what lies in them, told at once.
-/
import Derived.Test.YtnenpafofplbhaaGreatTableC16
import Derived.Test.YtnenpafofplbhaaGreatTableC11
import Derived.Test.YtnenpafofplbhaaGreatTableDr
import Derived.Test.YtnenpafofplbhaaGreatTableSound
import Derived.Test.YtnenpafofplbhaaGreatTableRefV
import Derived.Test.YtnenpafofplbhaaGreatTableC17
namespace Go.Proofs.YtnenpafofplbhaaGreat
open Go.RowKit

/-- The slice (A, n, c) shows the row's first n; its capacity may be less than the block's room. -/
def SlRow (w : World) (lo : Nat) (e : TypeId) (size : Nat) (A : Option Addr) (n c : Nat) (xs : List Value) : Prop := n ≤ c ∧ ∃ d, c ≤ d ∧ w.ownsRow lo e size (.slice A n d) n xs
theorem SlRow.of {w : World} {lo : Nat} {e : TypeId} {size : Nat} {A : Option Addr} {n c : Nat} {xs : List Value} (h : w.ownsRow lo e size (.slice A n c) n xs) : SlRow w lo e size A n c xs := ⟨row_le h, c, Nat.le_refl _, h⟩
theorem sl_le {w : World} {lo : Nat} {e : TypeId} {size : Nat} {A : Option Addr} {n c : Nat} {xs : List Value} (h : SlRow w lo e size A n c xs) : n ≤ c := h.1
theorem sl_lt {w : World} {lo : Nat} {e : TypeId} {size : Nat} {A : Option Addr} {n c : Nat} {xs : List Value} (h : SlRow w lo e size A n c xs) : ∀ b, ob A = some b → lo ≤ b ∧ b < w.heap.size := by
  obtain ⟨_, d, _, h⟩ := h
  exact row_lt h
theorem sl_grown {w w' : World} {lo : Nat} {e : TypeId} {size : Nat} {A : Option Addr} {n c : Nat} {xs : List Value} {row : Option Nat} (h : SlRow w lo e size A n c xs) (hg : w.grownBy w' row) (hne : ∀ b, ob A = some b → row ≠ some b) : SlRow w' lo e size A n c xs := by
  obtain ⟨h1, d, h2, h⟩ := h
  exact ⟨h1, d, h2, own_grown h hg fun b hb => hne b (by rw [← ob_slice]; exact hb)⟩
theorem sl_keep {w w' : World} {lo : Nat} {e : TypeId} {size : Nat} {A : Option Addr} {n c : Nat} {xs : List Value} (h : SlRow w lo e size A n c xs) (hb : Below w.heap.size w w') : SlRow w' lo e size A n c xs := by
  obtain ⟨h1, d, h2, h⟩ := h
  exact ⟨h1, d, h2, own_keep h hb⟩
theorem sl_field {α : Type} {E : α → List Value} {e : Nat} {w : World} {base t n g c k j : Nat} {A : Option Addr} {l : List α} {v : Value} (hE : ∀ x, (E x).length = e) (h : SlRow w base t e A n c (flat E l)) (hA : A = some ⟨g, 0, none⟩) (hn : n = l.length) (hk : k < l.length) (hj : j < e) (y : α)
    (hy : E y = (E l[k]).set j v) : SlRow (w.setCell ⟨g, k * e + j, none⟩ v) base t e A n c (flat E (l.set k y)) := by
  obtain ⟨h1, d, h2, h⟩ := h
  exact ⟨h1, d, h2, own_field hE h hA hn hk hj y hy⟩
theorem sl_at {α : Type} {E : α → List Value} {e : Nat} {w : World} {base t n c k : Nat} {A : Option Addr} {l : List α} (hE : ∀ x, (E x).length = e) (h : SlRow w base t e A n c (flat E l)) (hn : n = l.length) (hk : k < l.length) :
    ∃ g, A = some ⟨g, 0, none⟩ ∧ base ≤ g ∧ g < w.heap.size ∧ n ≤ c ∧ (∀ j v, (E l[k])[j]? = some v → w.cell? ⟨g, k * e + j, none⟩ = some v) ∧ ∀ i, w.frozen? ⟨g, i, none⟩ = false := by
  obtain ⟨h1, d, h2, h⟩ := h
  obtain ⟨g, q1, q2, q3, _, q5, q6⟩ := own_at hE h hn hk
  exact ⟨g, q1, q2, q3, h1, q5, q6⟩
/-- The slice is cut: s[:m:m]. -/
theorem sl_cut {α : Type} {E : α → List Value} {e : Nat} {w : World} {base t n c m : Nat} {A : Option Addr} {l : List α} (hE : ∀ x, (E x).length = e) (h : SlRow w base t e A n c (flat E l)) (hn : n = l.length) (hm : m ≤ n) : SlRow w base t e A m m (flat E (l.take m)) := by
  obtain ⟨h1, d, h2, h⟩ := h
  exact ⟨Nat.le_refl _, d, by omega, own_take hE h hn hm⟩

section
variable {P : Program} (w : World)
/-- append onto such a slice. -/
theorem run_append_sl (t ty : TypeId) (base : Nat) (e : TypeId) (i : TypeInfo) (z : Value) (size bytes : Nat) (ht : P.underlying t = some (.slice e)) (hi : P.info? e = some i) (hz : i.zero = some z)
    (hsize : i.size = size) (hby : i.bytes = bytes) (hzs : z.cells.size = size) (hsz : 0 < size)
    (A : Option Addr) (n c : Nat) (xs : List Value) (h : SlRow w base e size A n c xs)
    (ad : Addr) (m c2 : Nat) (news : List Value) (hl : news.length = m * size) (hnews : ∀ j u, news[j]? = some u → w.cell? (ad.add j) = some u) (h1 : ∀ u ∈ news, u.oneCell' = true)
    (h63 : n + m ≤ maxLen) (hbytes : (n + m) * bytes ≤ 140737488355328) (hbase : base ≤ w.heap.size) :
    ∃ A' c' w', (Builtin.append_ #[t, t] ty #[.slice A n c, .slice (some ad) m c2]).run P w = .ok (.slice A' (n + m) c') w' ∧ SlRow w' base e size A' (n + m) c' (xs ++ news) ∧ w.grownBy w' (ob A) ∧ (ob A' = ob A ∨ ob A' = some w.heap.size) := by
  obtain ⟨hnc, d, hcd, hown⟩ := h
  have hall := run_append_own_at (P := P) w base t ty e i z size bytes ht hi hz hsize hby hzs hsz _ n xs hown ad m c2 news hl hnews h1 h63 hbytes hbase
  obtain ⟨v', w', hr, h2, h3, _, h5⟩ := hall
  rcases hown.2 with ⟨hv, h0⟩ | ⟨g, cap, cur, hv, hbg, hg, hle, hmax, hcs, htake⟩
  · injection hv with e1 e2 e3
    have hc : c = d := by omega
    subst hc
    obtain ⟨A', c', rfl⟩ := own_A h2
    rw [ob_slice] at h3 h5
    rw [ob_slice] at h5
    exact ⟨A', c', w', hr, SlRow.of h2, h3, h5⟩
  · injection hv with e1 e2 e3
    subst e1 e3
    by_cases hroom : n + m ≤ c
    · have hfit : n * i.size + news.length ≤ cur.size := by rw [hl, hcs, hsize, ← Nat.add_mul]; exact Nat.mul_le_mul_right _ (by omega)
      have r1 := run_append_room (P := P) w t ty e i ht hi g n d cur hg ad m c2 news (by rw [hsize]; exact hl) hnews h1 (by omega) hfit
      have r2 := run_append_room (P := P) w t ty e i ht hi g n c cur hg ad m c2 news (by rw [hsize]; exact hl) hnews h1 hroom hfit
      rw [r1] at hr
      injection hr with hr1 hr2
      subst hr1 hr2
      exact ⟨_, _, _, r2, ⟨hroom, d, hcd, h2⟩, h3, .inl rfl⟩
    · have holds : ∀ j u, xs[j]? = some u → w.cell? ((⟨g, 0, none⟩ : Addr).add j) = some u := hown.cells (g := g) rfl
      have r := run_append_grow (P := P) w t ty e i z ht hi hz ⟨g, 0, none⟩ n c xs (by rw [hsize]; exact hown.1) holds ad m c2 news (by rw [hsize]; exact hl) hnews (by omega) (by simp only [maxLen] at h63; omega) (growslice_fits (by omega) (by rw [hby]; exact hbytes))
      have hge := grownCap_ge w (n + m) c e
      have hcm : grownCap w (n + m) c e ≤ maxLen := grownCap_le_maxLen w (n + m) c e h63
      have hlen : (xs ++ news).length = (n + m) * size := by rw [List.length_append, hown.1, hl, Nat.add_mul]
      refine ⟨_, _, _, r, SlRow.of ⟨hlen, .inr ⟨w.heap.size, _, _, rfl, hbase, heap_alloc_new w.drew _, hge, hcm, ?_, ?_⟩⟩, ⟨rfl, rfl, rfl, by simp, fun k hk _ => heap_alloc_old w.drew _ hk⟩, .inr rfl⟩
      · simp only [Array.size_append, List.size_toArray, size_zeroCells, hzs, hown.1, hl, ← Nat.add_mul]
        congr 1
        omega
      · simp only [Array.toList_append, List.append_assoc]
        rw [← List.append_assoc, ← hlen]
        exact List.take_left
theorem wp_append_sl {o : Oper} {a : Act} {K : Act → World → Prop} {Q : Exit → Act → World → Prop} (s x : Operand) (t : TypeId)
    (ho : o.op = .call { callee := .builtin .append, args := #[s, x], argTypes := #[t, t] })
    (base : Nat) (e : TypeId) (i : TypeInfo) (z : Value) (size bytes : Nat) (ht : P.underlying t = some (.slice e)) (hi : P.info? e = some i) (hz : i.zero = some z)
    (hsize : i.size = size) (hby : i.bytes = bytes) (hzs : z.cells.size = size) (hsz : 0 < size)
    (A : Option Addr) (n c : Nat) (xs : List Value) (hs : a.eval s = .slice A n c) (h : SlRow w base e size A n c xs)
    (ad : Addr) (m c2 : Nat) (news : List Value) (hx : a.eval x = .slice (some ad) m c2) (hl : news.length = m * size) (hnews : ∀ j u, news[j]? = some u → w.cell? (ad.add j) = some u) (h1 : ∀ u ∈ news, u.oneCell' = true)
    (h63 : n + m ≤ maxLen) (hbytes : (n + m) * bytes ≤ 140737488355328) (hbase : base ≤ w.heap.size)
    (hK : ∀ A' c' w', SlRow w' base e size A' (n + m) c' (xs ++ news) → w.grownBy w' (ob A) → (ob A' = ob A ∨ ob A' = some w.heap.size) → K (a.put o.dst (.slice A' (n + m) c')) w') : o.wp P a w K Q := by
  obtain ⟨A', c', w', hr, h2, h3, h4⟩ := run_append_sl (P := P) w t o.type base e i z size bytes ht hi hz hsize hby hzs hsz A n c xs h ad m c2 news hl hnews h1 h63 hbytes hbase
  unfold Oper.wp execOp
  simp only [ho, resolve, invoke, builtin, Sem.run_bind, Sem.run_pure, Result.andThen_ok, List.map_toArray, List.map_cons, List.map_nil, hs, hx, hr]
  exact hK A' c' w' h2 h3 h4
theorem wpList_append_sl {ops : Array Oper} {rest : List Oper} {o : Oper} {a : Act} {Q : Exit → Act → World → Prop} (hgd : o.guard = none) (s x : Operand) (t : TypeId)
    (ho : o.op = .call { callee := .builtin .append, args := #[s, x], argTypes := #[t, t] })
    (base : Nat) (e : TypeId) (i : TypeInfo) (z : Value) (size bytes : Nat) (ht : P.underlying t = some (.slice e)) (hi : P.info? e = some i) (hz : i.zero = some z)
    (hsize : i.size = size) (hby : i.bytes = bytes) (hzs : z.cells.size = size) (hsz : 0 < size)
    (A : Option Addr) (n c : Nat) (xs : List Value) (hs : a.eval s = .slice A n c) (h : SlRow w base e size A n c xs)
    (ad : Addr) (m c2 : Nat) (news : List Value) (hx : a.eval x = .slice (some ad) m c2) (hl : news.length = m * size) (hnews : ∀ j u, news[j]? = some u → w.cell? (ad.add j) = some u) (h1 : ∀ u ∈ news, u.oneCell' = true)
    (h63 : n + m ≤ maxLen) (hbytes : (n + m) * bytes ≤ 140737488355328) (hbase : base ≤ w.heap.size)
    (hK : ∀ A' c' w', SlRow w' base e size A' (n + m) c' (xs ++ news) → w.grownBy w' (ob A) → (ob A' = ob A ∨ ob A' = some w.heap.size) → wpList P ops Q rest (a.put o.dst (.slice A' (n + m) c')) w') : wpList P ops Q (o :: rest) a w :=
  wpList_plain hgd fun _ hK2 => wp_append_sl w s x t ho base e i z size bytes ht hi hz hsize hby hzs hsz A n c xs hs h ad m c2 news hx hl hnews h1 h63 hbytes hbase fun A' c' w' h2 h3 h4 => hK2 _ _ (hK A' c' w' h2 h3 h4)
theorem step_append_sl {ops : Array Oper} {o : Oper} {a : Act} {K : Act → World → Prop} {Q : Exit → Act → World → Prop} {E : Prop} (hgd : o.guard = none) (s x : Operand) (t : TypeId)
    (ho : o.op = .call { callee := .builtin .append, args := #[s, x], argTypes := #[t, t] })
    (base : Nat) (e : TypeId) (i : TypeInfo) (z : Value) (size bytes : Nat) (ht : P.underlying t = some (.slice e)) (hi : P.info? e = some i) (hz : i.zero = some z)
    (hsize : i.size = size) (hby : i.bytes = bytes) (hzs : z.cells.size = size) (hsz : 0 < size)
    (A : Option Addr) (n c : Nat) (xs : List Value) (hs : a.eval s = .slice A n c) (h : SlRow w base e size A n c xs)
    (ad : Addr) (m c2 : Nat) (news : List Value) (hx : a.eval x = .slice (some ad) m c2) (hl : news.length = m * size) (hnews : ∀ j u, news[j]? = some u → w.cell? (ad.add j) = some u) (h1 : ∀ u ∈ news, u.oneCell' = true)
    (h63 : n + m ≤ maxLen) (hbytes : (n + m) * bytes ≤ 140737488355328) (hbase : base ≤ w.heap.size)
    (hK : ∀ A' c' w', SlRow w' base e size A' (n + m) c' (xs ++ news) → w.grownBy w' (ob A) → (ob A' = ob A ∨ ob A' = some w.heap.size) → K (a.put o.dst (.slice A' (n + m) c')) w') :
    if Region.wanted o (yielded ops a.tmps) = true then Oper.wp P o a w K Q else E := by
  rw [if_pos (by simp [Region.wanted, hgd])]
  exact wp_append_sl w s x t ho base e i z size bytes ht hi hz hsize hby hzs hsz A n c xs hs h ad m c2 news hx hl hnews h1 h63 hbytes hbase hK
end

end Go.Proofs.YtnenpafofplbhaaGreat

namespace Go.Proofs.YtnenpafofplbhaaGreat
open Go.RowKit

/-- A table's rows lie in memory from lo on, each in its own block; a slice may be cut short. -/
structure RowsSl (lo : Nat) (w : World) (V : TabW) (t : Tab) : Prop where
  ts : SlRow w lo 49 6 V.A1 t.ts.length V.c1 (flat tenC t.ts)
  vs : SlRow w lo 51 4 V.A2 t.vs.length V.c2 (flat volC t.vs)
  os : SlRow w lo 3 1 V.A3 t.os.length V.c3 (flat intC t.os)
  a12 : ∀ b, ob V.A1 = some b → ob V.A2 ≠ some b
  a13 : ∀ b, ob V.A1 = some b → ob V.A3 ≠ some b
  a23 : ∀ b, ob V.A2 = some b → ob V.A3 ≠ some b
theorem RowsSl.of {lo : Nat} {w : World} {V : TabW} {t : Tab} (h : RowsOwn lo w V t) : RowsSl lo w V t := ⟨.of h.ts, .of h.vs, .of h.os, h.a12, h.a13, h.a23⟩
theorem RowsSl.tab {lo : Nat} {w : World} {V : TabW} {t : Tab} (h : RowsSl lo w V t) : TabAt w w.heap.size V t := by
  obtain ⟨q1, d1, _, r1⟩ := h.ts
  obtain ⟨q2, d2, _, r2⟩ := h.vs
  obtain ⟨q3, d3, _, r3⟩ := h.os
  exact ⟨tens_of_row r1, vols_of_row r2, ints_of_flat r3, q1, q2, q3⟩
theorem RowsSl.grown {lo : Nat} {w w' : World} {V : TabW} {t : Tab} {row : Option Nat} (h : RowsSl lo w V t) (hg : w.grownBy w' row) (h1 : ∀ b, ob V.A1 = some b → row ≠ some b) (h2 : ∀ b, ob V.A2 = some b → row ≠ some b) (h3 : ∀ b, ob V.A3 = some b → row ≠ some b) : RowsSl lo w' V t :=
  ⟨sl_grown h.ts hg h1, sl_grown h.vs hg h2, sl_grown h.os hg h3, h.a12, h.a13, h.a23⟩
theorem RowsSl.below {lo : Nat} {w w' : World} {V : TabW} {t : Tab} (h : RowsSl lo w V t) (hb : Below w.heap.size w w') : RowsSl lo w' V t :=
  ⟨sl_keep h.ts hb, sl_keep h.vs hb, sl_keep h.os hb, h.a12, h.a13, h.a23⟩
theorem RowsSl.from_ {lo : Nat} {w : World} {V : TabW} {t : Tab} (h : RowsSl lo w V t) : TabFrom lo V := by
  obtain ⟨q1, d1, _, r1⟩ := h.ts
  obtain ⟨q2, d2, _, r2⟩ := h.vs
  obtain ⟨q3, d3, _, r3⟩ := h.os
  exact (RowsOwn.from_ (V := ⟨V.A1, d1, V.A2, d2, V.A3, d3⟩) ⟨r1, r2, r3, h.a12, h.a13, h.a23⟩)
/-- A table of one's own, its box in block p. -/
structure BxIn (lo : Nat) (w : World) (p : Nat) (V : TabW) (t : Tab) : Prop where
  box : w.heap[p]? = some (.cells (tabV V t) 26 (0, 0))
  hp : lo ≤ p
  rows : RowsSl lo w V t
  p1 : ∀ b, ob V.A1 = some b → p ≠ b
  p2 : ∀ b, ob V.A2 = some b → p ≠ b
  p3 : ∀ b, ob V.A3 = some b → p ≠ b
section
variable {lo p : Nat} {w w' : World} {V : TabW} {t : Tab}
theorem BxIn.lt (h : BxIn lo w p V t) : p < w.heap.size := (Array.getElem?_eq_some_iff.1 h.box).1
theorem BxIn.lo_le (h : BxIn lo w p V t) : lo ≤ w.heap.size := Nat.le_trans h.hp (Nat.le_of_lt h.lt)
theorem BxIn.cells (h : BxIn lo w p V t) : w.cell? ⟨p, 0, none⟩ = some (.slice V.A1 t.ts.length V.c1) ∧ w.cell? ⟨p, 1, none⟩ = some (.slice V.A2 t.vs.length V.c2) ∧ w.cell? ⟨p, 2, none⟩ = some (.slice V.A3 t.os.length V.c3) := by
  have h := h.box
  unfold tabV at h
  exact ⟨by rw [cell_of_row _ _ _ _ _ _ h]; rfl, by rw [cell_of_row _ _ _ _ _ _ h]; rfl, by rw [cell_of_row _ _ _ _ _ _ h]; rfl⟩
theorem BxIn.thaw (h : BxIn lo w p V t) (i : Nat) : w.frozen? ⟨p, i, none⟩ = false := frozen_of_row _ _ _ _ _ h.box
theorem BxIn.tab (h : BxIn lo w p V t) : TabAt w w.heap.size V t := h.rows.tab
theorem BxIn.below (h : BxIn lo w p V t) (hb : Below w.heap.size w w') : BxIn lo w' p V t := ⟨(hb.block _ h.lt).trans h.box, h.hp, h.rows.below hb, h.p1, h.p2, h.p3⟩
/-- The tenants' row turns; it may lie in new memory, and the box names it. -/
theorem BxIn.turnT {W : World} {ts' : List Ten} {A' : Option Addr} {c' : Nat} (h : BxIn lo w p V t) (hrow : SlRow w' lo 49 6 A' ts'.length c' (flat tenC ts')) (hg : w.grownBy w' (ob V.A1)) (hA : ob A' = ob V.A1 ∨ ob A' = none ∨ ∃ b, ob A' = some b ∧ w.heap.size ≤ b)
    (hW : W.heap[p]? = some (.cells #[.slice A' ts'.length c', .slice V.A2 t.vs.length V.c2, .slice V.A3 t.os.length V.c3] 26 (0, 0))) (hgW : w'.grownBy W (some p)) : BxIn lo W p { V with A1 := A', c1 := c' } { t with ts := ts' } := by
  have hne : ∀ {A : Option Addr}, (∀ b, ob V.A1 = some b → ob A ≠ some b) → (∀ b, ob A = some b → b < w.heap.size) → ∀ b, ob A' = some b → ob A ≠ some b := fun {A} q1 q2 b hb hb2 => by
    rcases hA with e | e | ⟨b2, e, hl⟩
    · exact q1 b (e ▸ hb) hb2
    · rw [e] at hb; cases hb
    · rw [e] at hb
      injection hb with hb
      have := q2 b hb2
      omega
  have hp1 : ∀ b, ob A' = some b → p ≠ b := fun b hb hpb => by
    rcases hA with e | e | ⟨b2, e, hl⟩
    · exact h.p1 b (e ▸ hb) hpb
    · rw [e] at hb; cases hb
    · rw [e] at hb
      injection hb with hb
      have := h.lt
      omega
  have hv := sl_grown h.rows.vs hg (fun b hb q => h.rows.a12 b q (by exact hb))
  have ho := sl_grown h.rows.os hg (fun b hb q => h.rows.a13 b q (by exact hb))
  refine ⟨hW, h.hp, ⟨sl_grown hrow hgW fun b hb q => ?_, sl_grown hv hgW fun b hb q => ?_, sl_grown ho hgW fun b hb q => ?_, hne h.rows.a12 fun b hb => (sl_lt h.rows.vs b hb).2, hne h.rows.a13 fun b hb => (sl_lt h.rows.os b hb).2, h.rows.a23⟩, hp1, h.p2, h.p3⟩
  · injection q with q; exact hp1 b (by exact hb) q
  · injection q with q; exact h.p2 b (by exact hb) q
  · injection q with q; exact h.p3 b (by exact hb) q
/-- The volumes' row turns. -/
theorem BxIn.turnV {W : World} {vs' : List Vol} {A' : Option Addr} {c' : Nat} (h : BxIn lo w p V t) (hrow : SlRow w' lo 51 4 A' vs'.length c' (flat volC vs')) (hg : w.grownBy w' (ob V.A2)) (hA : ob A' = ob V.A2 ∨ ob A' = none ∨ ∃ b, ob A' = some b ∧ w.heap.size ≤ b)
    (hW : W.heap[p]? = some (.cells #[.slice V.A1 t.ts.length V.c1, .slice A' vs'.length c', .slice V.A3 t.os.length V.c3] 26 (0, 0))) (hgW : w'.grownBy W (some p)) : BxIn lo W p { V with A2 := A', c2 := c' } { t with vs := vs' } := by
  have hp1 : ∀ b, ob A' = some b → p ≠ b := fun b hb hpb => by
    rcases hA with e | e | ⟨b2, e, hl⟩
    · exact h.p2 b (e ▸ hb) hpb
    · rw [e] at hb; cases hb
    · rw [e] at hb
      injection hb with hb
      have := h.lt
      omega
  have hv := sl_grown h.rows.ts hg (fun b hb q => h.rows.a12 b (by exact hb) q)
  have ho := sl_grown h.rows.os hg (fun b hb q => h.rows.a23 b q (by exact hb))
  refine ⟨hW, h.hp, ⟨sl_grown hv hgW fun b hb q => ?_, sl_grown hrow hgW fun b hb q => ?_, sl_grown ho hgW fun b hb q => ?_, fun b hb hb2 => ?_, h.rows.a13, fun b hb hb2 => ?_⟩, h.p1, hp1, h.p3⟩
  · injection q with q; exact h.p1 b (by exact hb) q
  · injection q with q; exact hp1 b (by exact hb) q
  · injection q with q; exact h.p3 b (by exact hb) q
  · rcases hA with e | e | ⟨b2, e, hl⟩
    · exact h.rows.a12 b hb (e ▸ hb2)
    · rw [e] at hb2; cases hb2
    · rw [e] at hb2
      injection hb2 with hb2
      have := (sl_lt h.rows.ts b hb).2
      omega
  · rcases hA with e | e | ⟨b2, e, hl⟩
    · exact h.rows.a23 b (e ▸ hb) hb2
    · rw [e] at hb; cases hb
    · rw [e] at hb
      injection hb with hb
      have := (sl_lt h.rows.os b hb2).2
      omega
/-- Within its row a tenant turns. -/
theorem BxIn.inT {ts' : List Ten} {g : Nat} (h : BxIn lo w p V t) (hA : V.A1 = some ⟨g, 0, none⟩) (hl : ts'.length = t.ts.length) (hrow : SlRow w' lo 49 6 V.A1 t.ts.length V.c1 (flat tenC ts')) (hg : w.grownBy w' (some g)) : BxIn lo w' p V { t with ts := ts' } := by
  have hob : ob V.A1 = some g := by rw [hA]; rfl
  have hpg := h.p1 g hob
  refine ⟨?_, h.hp, ⟨by rw [hl]; exact hrow, sl_grown h.rows.vs hg (fun b hb q => h.rows.a12 g hob (by rw [q]; exact hb)), sl_grown h.rows.os hg (fun b hb q => h.rows.a13 g hob (by rw [q]; exact hb)), h.rows.a12, h.rows.a13, h.rows.a23⟩, h.p1, h.p2, h.p3⟩
  have e : tabV V { t with ts := ts' } = tabV V t := by unfold tabV; rw [hl]
  rw [e, hg.block p h.lt (fun q => hpg (by injection q))]
  exact h.box
theorem BxIn.inV {vs' : List Vol} {g : Nat} (h : BxIn lo w p V t) (hA : V.A2 = some ⟨g, 0, none⟩) (hl : vs'.length = t.vs.length) (hrow : SlRow w' lo 51 4 V.A2 t.vs.length V.c2 (flat volC vs')) (hg : w.grownBy w' (some g)) : BxIn lo w' p V { t with vs := vs' } := by
  have hob : ob V.A2 = some g := by rw [hA]; rfl
  have hpg := h.p2 g hob
  refine ⟨?_, h.hp, ⟨sl_grown h.rows.ts hg (fun b hb q => h.rows.a12 b (by exact hb) (by rw [hob, q])), by rw [hl]; exact hrow, sl_grown h.rows.os hg (fun b hb q => h.rows.a23 g hob (by rw [q]; exact hb)), h.rows.a12, h.rows.a13, h.rows.a23⟩, h.p1, h.p2, h.p3⟩
  have e : tabV V { t with vs := vs' } = tabV V t := by unfold tabV; rw [hl]
  rw [e, hg.block p h.lt (fun q => hpg (by injection q))]
  exact h.box
theorem BxIn.inO {os' : List Int} {g : Nat} (h : BxIn lo w p V t) (hA : V.A3 = some ⟨g, 0, none⟩) (hl : os'.length = t.os.length) (hrow : SlRow w' lo 3 1 V.A3 t.os.length V.c3 (flat intC os')) (hg : w.grownBy w' (some g)) : BxIn lo w' p V { t with os := os' } := by
  have hob : ob V.A3 = some g := by rw [hA]; rfl
  have hpg := h.p3 g hob
  refine ⟨?_, h.hp, ⟨sl_grown h.rows.ts hg (fun b hb q => h.rows.a13 b (by exact hb) (by rw [hob, q])), sl_grown h.rows.vs hg (fun b hb q => h.rows.a23 b (by exact hb) (by rw [hob, q])), by rw [hl]; exact hrow, h.rows.a12, h.rows.a13, h.rows.a23⟩, h.p1, h.p2, h.p3⟩
  have e : tabV V { t with os := os' } = tabV V t := by unfold tabV; rw [hl]
  rw [e, hg.block p h.lt (fun q => hpg (by injection q))]
  exact h.box
end
section
variable {lo p : Nat} {w : World} {V : TabW} {t : Tab}
/-- One cell of a tenant is written. -/
theorem BxIn.setT (h : BxIn lo w p V t) {g k j : Nat} (hA : V.A1 = some ⟨g, 0, none⟩) (hk : k < t.ts.length) (hj : j < 6) (v : Value) (y : Ten) (hy : tenC y = (tenC t.ts[k]).set j v) :
    BxIn lo (w.setCell ⟨g, k * 6 + j, none⟩ v) p V { t with ts := t.ts.set k y } ∧ Below lo w (w.setCell ⟨g, k * 6 + j, none⟩ v) := by
  have hg : w.grownBy (w.setCell ⟨g, k * 6 + j, none⟩ v) (some g) := setCells_grown w g (k * 6 + j) [v]
  have hgl := (sl_lt h.rows.ts g (by rw [hA]; rfl)).1
  exact ⟨h.inT hA (by simp) (sl_field tenC_len h.rows.ts hA rfl hk hj y hy) hg, grown_below (Below.refl _ _) hg h.lo_le hgl⟩
theorem BxIn.setV (h : BxIn lo w p V t) {g k j : Nat} (hA : V.A2 = some ⟨g, 0, none⟩) (hk : k < t.vs.length) (hj : j < 4) (v : Value) (y : Vol) (hy : volC y = (volC t.vs[k]).set j v) :
    BxIn lo (w.setCell ⟨g, k * 4 + j, none⟩ v) p V { t with vs := t.vs.set k y } ∧ Below lo w (w.setCell ⟨g, k * 4 + j, none⟩ v) := by
  have hg : w.grownBy (w.setCell ⟨g, k * 4 + j, none⟩ v) (some g) := setCells_grown w g (k * 4 + j) [v]
  have hgl := (sl_lt h.rows.vs g (by rw [hA]; rfl)).1
  exact ⟨h.inV hA (by simp) (sl_field volC_len h.rows.vs hA rfl hk hj y hy) hg, grown_below (Below.refl _ _) hg h.lo_le hgl⟩
/-- An owner is written. -/
theorem BxIn.setO (h : BxIn lo w p V t) {g k : Nat} (hA : V.A3 = some ⟨g, 0, none⟩) (hk : k < t.os.length) (n : Int) :
    BxIn lo (w.setCell ⟨g, k, none⟩ (.int .i64 n)) p V { t with os := t.os.set k n } ∧ Below lo w (w.setCell ⟨g, k, none⟩ (.int .i64 n)) := by
  have hg : w.grownBy (w.setCell ⟨g, k, none⟩ (.int .i64 n)) (some g) := setCells_grown w g k [.int .i64 n]
  have hgl := (sl_lt h.rows.os g (by rw [hA]; rfl)).1
  have hf := sl_field (j := 0) (v := .int .i64 n) intC_len h.rows.os hA rfl hk (by decide) n rfl
  rw [Nat.mul_one, Nat.add_zero] at hf
  exact ⟨h.inO hA (by simp) hf hg, grown_below (Below.refl _ _) hg h.lo_le hgl⟩
/-- An owner lies there. -/
theorem BxIn.foundO (h : BxIn lo w p V t) {k : Nat} (hk : k < t.os.length) : ∃ g, V.A3 = some ⟨g, 0, none⟩ ∧ lo ≤ g ∧ g < w.heap.size ∧ ∀ X, Below w.heap.size w X → X.cell? ⟨g, k, none⟩ = some (.int .i64 t.os[k]) ∧ X.frozen? ⟨g, k, none⟩ = false := by
  obtain ⟨g, hA, hg, hgl, _, _, _⟩ := sl_at intC_len h.rows.os rfl hk
  refine ⟨g, hA, hg, hgl, fun X hb => ?_⟩
  obtain ⟨g2, hA2, _, _, _, hc, hf⟩ := sl_at intC_len (h.below hb).rows.os rfl hk
  have : g2 = g := by rw [hA] at hA2; injection hA2 with q; injection q with q; exact q.symm
  subst this
  have := hc 0 _ rfl
  rw [Nat.mul_one, Nat.add_zero] at this
  exact ⟨this, hf _⟩
end

section
variable {lo p : Nat} {w w' : World} {V : TabW} {t : Tab}
/-- A table that came in is laid in a box. -/
theorem BxIn.new (h : RowsSl lo w V t) (hl : lo ≤ w.heap.size) : BxIn lo (w.alloc (.cells (tabV V t) 26)) w.heap.size V t := by
  have hb0 : Below w.heap.size w (w.alloc (.cells (tabV V t) 26)) := (Below.refl _ _).alloc (Nat.le_refl _) _
  refine ⟨heap_alloc_new w _, hl, h.below hb0, fun b hb e => ?_, fun b hb e => ?_, fun b hb e => ?_⟩
  · have := (sl_lt h.ts b hb).2; omega
  · have := (sl_lt h.vs b hb).2; omega
  · have := (sl_lt h.os b hb).2; omega
/-- What lies of a tenant. -/
theorem BxIn.tenAt (h : BxIn lo w p V t) {k : Nat} (hk : k < t.ts.length) : ∃ g, V.A1 = some ⟨g, 0, none⟩ ∧ lo ≤ g ∧ g < w.heap.size ∧
    ∀ X, Below w.heap.size w X → (X.cell? ⟨g, k * 6, none⟩ = some (.int .i64 t.ts[k].id) ∧ X.cell? ⟨g, k * 6 + 1, none⟩ = some (.int .i64 t.ts[k].quota) ∧ X.cell? ⟨g, k * 6 + 2, none⟩ = some (.int .i64 t.ts[k].rate) ∧ X.cell? ⟨g, k * 6 + 3, none⟩ = some (.int .i64 t.ts[k].burst) ∧ X.cell? ⟨g, k * 6 + 4, none⟩ = some (.string t.ts[k].key) ∧ X.cell? ⟨g, k * 6 + 5, none⟩ = some (.bool t.ts[k].dying)) ∧ ∀ i, X.frozen? ⟨g, i, none⟩ = false := by
  obtain ⟨g, hA, hg, hgl, _, _, _⟩ := sl_at tenC_len h.rows.ts rfl hk
  refine ⟨g, hA, hg, hgl, fun X hb => ?_⟩
  obtain ⟨g2, hA2, _, _, _, hc, hf⟩ := sl_at tenC_len (h.below hb).rows.ts rfl hk
  have : g2 = g := by rw [hA] at hA2; injection hA2 with q; injection q with q; exact q.symm
  subst this
  exact ⟨⟨hc 0 _ rfl, hc 1 _ rfl, hc 2 _ rfl, hc 3 _ rfl, hc 4 _ rfl, hc 5 _ rfl⟩, hf⟩
/-- What lies of a volume. -/
theorem BxIn.volAt (h : BxIn lo w p V t) {k : Nat} (hk : k < t.vs.length) : ∃ g, V.A2 = some ⟨g, 0, none⟩ ∧ lo ≤ g ∧ g < w.heap.size ∧
    ∀ X, Below w.heap.size w X → (X.cell? ⟨g, k * 4, none⟩ = some (.int .i64 t.vs[k].id) ∧ X.cell? ⟨g, k * 4 + 1, none⟩ = some (.int .i64 t.vs[k].ten) ∧ X.cell? ⟨g, k * 4 + 2, none⟩ = some (.int .i64 t.vs[k].blocks) ∧ X.cell? ⟨g, k * 4 + 3, none⟩ = some (.int .i64 t.vs[k].base)) ∧ ∀ i, X.frozen? ⟨g, i, none⟩ = false := by
  obtain ⟨g, hA, hg, hgl, _, _, _⟩ := sl_at volC_len h.rows.vs rfl hk
  refine ⟨g, hA, hg, hgl, fun X hb => ?_⟩
  obtain ⟨g2, hA2, _, _, _, hc, hf⟩ := sl_at volC_len (h.below hb).rows.vs rfl hk
  have : g2 = g := by rw [hA] at hA2; injection hA2 with q; injection q with q; exact q.symm
  subst this
  exact ⟨⟨hc 0 _ rfl, hc 1 _ rfl, hc 2 _ rfl, hc 3 _ rfl⟩, hf⟩
end
def zeroT : Array Value := #[.slice none 0 0, .slice none 0 0, .slice none 0 0]
/-- Block b is one of the rows'. -/
abbrev inRows (V : TabW) (b : Nat) : Prop := ob V.A1 = some b ∨ ob V.A2 = some b ∨ ob V.A3 = some b
/-- All but the rows is as it was. -/
def KeptV (V : TabW) (w w' : World) : Prop := ∀ b, b < w.heap.size → ¬ inRows V b → w'.heap[b]? = w.heap[b]?
/-- The rows lie where the elder rows lay, or in new memory. -/
def FreshV (V : TabW) (w : World) (V' : TabW) : Prop := ∀ b, inRows V' b → inRows V b ∨ w.heap.size ≤ b
/-- Three boxes, as the document's changes have them: the table's, the change's, the answer's. -/
structure Bx3 (lo : Nat) (w : World) (V0 : TabW) (r : Rc) (V : TabW) (t : Tab) (X : World) : Prop where
  bx : BxIn lo X w.heap.size V t
  chg : X.heap[w.heap.size + 1]? = some (.cells (rcV r) 40 (0, 0))
  res : X.heap[w.heap.size + 1 + 1]? = some (.cells #[.slice none 0 0, .slice none 0 0, .slice none 0 0] 26 (0, 0))
  far : ∀ b, ob V.A1 = some b ∨ ob V.A2 = some b ∨ ob V.A3 = some b → b ≠ w.heap.size + 1 ∧ b ≠ w.heap.size + 1 + 1
  below : Below lo w X
  kept : KeptV V0 w X
  fresh : FreshV V0 w V
section
variable {lo : Nat} {w X Y : World} {V V0 : TabW} {t : Tab} {r : Rc}
theorem Bx3.start (h : RowsSl lo w V t) (hl : lo ≤ w.heap.size) (r : Rc) : Bx3 lo w V r V t (((w.alloc (.cells (tabV V t) 26)).alloc (.cells (rcV r) 40)).alloc (.cells #[.slice none 0 0, .slice none 0 0, .slice none 0 0] 26)) := by
  have hb0 : Below w.heap.size w (w.alloc (.cells (tabV V t) 26)) := (Below.refl _ _).alloc (Nat.le_refl _) _
  have hs0 : (w.alloc (.cells (tabV V t) 26)).heap.size = w.heap.size + 1 := by simp
  have hs1 : ((w.alloc (.cells (tabV V t) 26)).alloc (.cells (rcV r) 40)).heap.size = w.heap.size + 1 + 1 := by simp
  have hb1 : Below (w.alloc (.cells (tabV V t) 26)).heap.size (w.alloc (.cells (tabV V t) 26)) (((w.alloc (.cells (tabV V t) 26)).alloc (.cells (rcV r) 40)).alloc (.cells #[.slice none 0 0, .slice none 0 0, .slice none 0 0] 26)) :=
    chain ((Below.refl _ _).alloc (Nat.le_refl _) _) ((Below.refl _ _).alloc (Nat.le_refl _) _)
  refine ⟨(BxIn.new h hl).below hb1, ?_, ?_, fun b hb => ?_, (chain hb0 hb1).mono hl, fun b hb _ => (chain hb0 hb1).block b hb, fun b hb => .inl hb⟩
  · have q := heap_alloc_new (w.alloc (.cells (tabV V t) 26)) (.cells (rcV r) 40)
    rw [hs0] at q
    exact (Below.heap_alloc _ _ _ (by rw [hs1]; omega)).trans q
  · have q := heap_alloc_new ((w.alloc (.cells (tabV V t) 26)).alloc (.cells (rcV r) 40)) (.cells #[.slice none 0 0, .slice none 0 0, .slice none 0 0] 26)
    rwa [hs1] at q
  · have : b < w.heap.size := by
      rcases hb with hb | hb | hb
      · exact (sl_lt h.ts b hb).2
      · exact (sl_lt h.vs b hb).2
      · exact (sl_lt h.os b hb).2
    omega
theorem Bx3.lo_le (h : Bx3 lo w V0 r V t X) : lo ≤ X.heap.size := h.bx.lo_le
theorem Bx3.lo_p (h : Bx3 lo w V0 r V t X) : lo ≤ w.heap.size := h.bx.hp
theorem Bx3.later (h : Bx3 lo w V0 r V t X) (hb : Below X.heap.size X Y) : Bx3 lo w V0 r V t Y :=
  have hb' := hb
  ⟨h.bx.below hb, (hb.block _ (Array.getElem?_eq_some_iff.1 h.chg).1).trans h.chg, (hb.block _ (Array.getElem?_eq_some_iff.1 h.res).1).trans h.res, h.far, h.below.trans (hb.mono h.lo_le), fun b hb hn => (hb'.block b (Nat.lt_of_lt_of_le hb h.below.size)).trans (h.kept b hb hn), h.fresh⟩
/-- Within a row of its own something turns. -/
theorem Bx3.turned {t' : Tab} {g : Nat} (h : Bx3 lo w V0 r V t X) (hbx : BxIn lo Y w.heap.size V t') (hg : X.grownBy Y (some g)) (hb : Below lo X Y) (hm : ob V.A1 = some g ∨ ob V.A2 = some g ∨ ob V.A3 = some g) : Bx3 lo w V0 r V t' Y := by
  obtain ⟨n1, n2⟩ := h.far g hm
  exact ⟨hbx, (hg.block _ (Array.getElem?_eq_some_iff.1 h.chg).1 (fun e => by injection e with e; exact n1 e.symm)).trans h.chg, (hg.block _ (Array.getElem?_eq_some_iff.1 h.res).1 (fun e => by injection e with e; exact n2 e.symm)).trans h.res, h.far, h.below.trans (hb.mono (Nat.le_refl _)), fun b hb2 hn => (hg.block b (Nat.lt_of_lt_of_le hb2 h.below.size) (fun e => by injection e with e; subst e; rcases h.fresh b hm with q | q; exact hn q; omega)).trans (h.kept b hb2 hn), h.fresh⟩
theorem Bx3.setT (h : Bx3 lo w V0 r V t X) {g k j : Nat} (hA : V.A1 = some ⟨g, 0, none⟩) (hk : k < t.ts.length) (hj : j < 6) (v : Value) (y : Ten) (hy : tenC y = (tenC t.ts[k]).set j v) : Bx3 lo w V0 r V { t with ts := t.ts.set k y } (X.setCell ⟨g, k * 6 + j, none⟩ v) := by
  obtain ⟨q1, q2⟩ := h.bx.setT hA hk hj v y hy
  exact h.turned q1 (setCells_grown X g (k * 6 + j) [v]) q2 (.inl (by rw [hA]; rfl))
theorem Bx3.setV (h : Bx3 lo w V0 r V t X) {g k j : Nat} (hA : V.A2 = some ⟨g, 0, none⟩) (hk : k < t.vs.length) (hj : j < 4) (v : Value) (y : Vol) (hy : volC y = (volC t.vs[k]).set j v) : Bx3 lo w V0 r V { t with vs := t.vs.set k y } (X.setCell ⟨g, k * 4 + j, none⟩ v) := by
  obtain ⟨q1, q2⟩ := h.bx.setV hA hk hj v y hy
  exact h.turned q1 (setCells_grown X g (k * 4 + j) [v]) q2 (.inr (.inl (by rw [hA]; rfl)))
theorem Bx3.setO (h : Bx3 lo w V0 r V t X) {g k : Nat} (hA : V.A3 = some ⟨g, 0, none⟩) (hk : k < t.os.length) (n : Int) : Bx3 lo w V0 r V { t with os := t.os.set k n } (X.setCell ⟨g, k, none⟩ (.int .i64 n)) := by
  obtain ⟨q1, q2⟩ := h.bx.setO hA hk n
  exact h.turned q1 (setCells_grown X g k [.int .i64 n]) q2 (.inr (.inr (by rw [hA]; rfl)))
theorem Bx3.cells (h : Bx3 lo w V0 r V t X) : X.cell? ⟨w.heap.size, 0, none⟩ = some (.slice V.A1 t.ts.length V.c1) ∧ X.cell? ⟨w.heap.size, 1, none⟩ = some (.slice V.A2 t.vs.length V.c2) ∧ X.cell? ⟨w.heap.size, 2, none⟩ = some (.slice V.A3 t.os.length V.c3) := h.bx.cells
theorem Bx3.recs (h : Bx3 lo w V0 r V t X) : X.cell? ⟨w.heap.size + 1, 0, none⟩ = some (.int .i64 r.k) ∧ X.cell? ⟨w.heap.size + 1, 1, none⟩ = some (.int .i64 r.a) ∧ X.cell? ⟨w.heap.size + 1, 2, none⟩ = some (.int .i64 r.b) ∧ X.cell? ⟨w.heap.size + 1, 3, none⟩ = some (.int .i64 r.c) ∧ X.cell? ⟨w.heap.size + 1, 4, none⟩ = some (.int .i64 r.d) ∧ X.cell? ⟨w.heap.size + 1, 5, none⟩ = some (.string r.key) := by
  have q := h.chg
  unfold rcV at q
  exact ⟨by rw [cell_of_row _ _ _ _ _ _ q]; rfl, by rw [cell_of_row _ _ _ _ _ _ q]; rfl, by rw [cell_of_row _ _ _ _ _ _ q]; rfl, by rw [cell_of_row _ _ _ _ _ _ q]; rfl, by rw [cell_of_row _ _ _ _ _ _ q]; rfl, by rw [cell_of_row _ _ _ _ _ _ q]; rfl⟩
theorem Bx3.ress (h : Bx3 lo w V0 r V t X) : (X.cell? ⟨w.heap.size + 1 + 1, 0, none⟩ = some (.slice none 0 0) ∧ X.cell? ⟨w.heap.size + 1 + 1, 1, none⟩ = some (.slice none 0 0) ∧ X.cell? ⟨w.heap.size + 1 + 1, 2, none⟩ = some (.slice none 0 0)) ∧ X.frozen? ⟨w.heap.size + 1 + 1, 0, none⟩ = false ∧ X.frozen? ⟨w.heap.size + 1 + 1, 1, none⟩ = false ∧ X.frozen? ⟨w.heap.size + 1 + 1, 2, none⟩ = false :=
  ⟨cellsL3 h.res, frozen_of_row _ _ 0 _ _ h.res, frozen_of_row _ _ 1 _ _ h.res, frozen_of_row _ _ 2 _ _ h.res⟩
/-- What one of the document's changes answers. -/
def OneAns (lo : Nat) (w : World) (V0 : TabW) (R : Int × Tab) (e : Ending) (w' : World) : Prop := ∃ V', e = .returned (.tuple #[.agg (tabV V' R.2), .int .i64 R.1]) ∧ RowsSl lo w' V' R.2 ∧ Below lo w w' ∧ KeptV V0 w w' ∧ FreshV V0 w V'
/-- The answer is stored. -/
theorem Bx3.ret (h : Bx3 lo w V0 r V t X) : (((X.setCell ⟨w.heap.size + 1 + 1, 0, none⟩ (.slice V.A1 t.ts.length V.c1)).setCell ⟨w.heap.size + 1 + 1, 1, none⟩ (.slice V.A2 t.vs.length V.c2)).setCell ⟨w.heap.size + 1 + 1, 2, none⟩ (.slice V.A3 t.os.length V.c3)).heap[w.heap.size + 1 + 1]? = some (.cells #[.slice V.A1 t.ts.length V.c1, .slice V.A2 t.vs.length V.c2, .slice V.A3 t.os.length V.c3] 26 (0, 0)) ∧
    RowsSl lo (((X.setCell ⟨w.heap.size + 1 + 1, 0, none⟩ (.slice V.A1 t.ts.length V.c1)).setCell ⟨w.heap.size + 1 + 1, 1, none⟩ (.slice V.A2 t.vs.length V.c2)).setCell ⟨w.heap.size + 1 + 1, 2, none⟩ (.slice V.A3 t.os.length V.c3)) V t ∧
    Below lo w (((X.setCell ⟨w.heap.size + 1 + 1, 0, none⟩ (.slice V.A1 t.ts.length V.c1)).setCell ⟨w.heap.size + 1 + 1, 1, none⟩ (.slice V.A2 t.vs.length V.c2)).setCell ⟨w.heap.size + 1 + 1, 2, none⟩ (.slice V.A3 t.os.length V.c3)) ∧ KeptV V0 w (((X.setCell ⟨w.heap.size + 1 + 1, 0, none⟩ (.slice V.A1 t.ts.length V.c1)).setCell ⟨w.heap.size + 1 + 1, 1, none⟩ (.slice V.A2 t.vs.length V.c2)).setCell ⟨w.heap.size + 1 + 1, 2, none⟩ (.slice V.A3 t.os.length V.c3)) ∧ FreshV V0 w V := by
  obtain ⟨q1, q2⟩ := set3 (.slice V.A1 t.ts.length V.c1) (.slice V.A2 t.vs.length V.c2) (.slice V.A3 t.os.length V.c3) h.res
  refine ⟨q1, h.bx.rows.grown q2 (fun b hb e => ?_) (fun b hb e => ?_) (fun b hb e => ?_), grown_below h.below q2 h.lo_le (by have := h.lo_p; omega), fun b hb hn => (q2.block b (Nat.lt_of_lt_of_le hb h.below.size) (fun e => by injection e with e; omega)).trans (h.kept b hb hn), h.fresh⟩
  · injection e with e; exact (h.far b (.inl hb)).2 e.symm
  · injection e with e; exact (h.far b (.inr (.inl hb))).2 e.symm
  · injection e with e; exact (h.far b (.inr (.inr hb))).2 e.symm
end

end Go.Proofs.YtnenpafofplbhaaGreat

namespace Go.Proofs.YtnenpafofplbhaaGreat
open Go.RowKit

/-- What lies in the three boxes. -/
abbrev AllAt (w X : World) (A1 : Option Addr) (N1 c1 : Nat) (A2 : Option Addr) (N2 c2 : Nat) (A3 : Option Addr) (N3 c3 : Nat) (rk ra rb rc rd : Int) (key : ByteArray) : Prop :=
  X.cell? ⟨w.heap.size, 0, none⟩ = some (.slice A1 N1 c1) ∧ X.cell? ⟨w.heap.size, 1, none⟩ = some (.slice A2 N2 c2) ∧ X.cell? ⟨w.heap.size, 2, none⟩ = some (.slice A3 N3 c3) ∧
  X.cell? ⟨w.heap.size + 1, 0, none⟩ = some (.int .i64 rk) ∧ X.cell? ⟨w.heap.size + 1, 1, none⟩ = some (.int .i64 ra) ∧ X.cell? ⟨w.heap.size + 1, 2, none⟩ = some (.int .i64 rb) ∧ X.cell? ⟨w.heap.size + 1, 3, none⟩ = some (.int .i64 rc) ∧ X.cell? ⟨w.heap.size + 1, 4, none⟩ = some (.int .i64 rd) ∧ X.cell? ⟨w.heap.size + 1, 5, none⟩ = some (.string key) ∧
  X.cell? ⟨w.heap.size + 1 + 1, 0, none⟩ = some (.slice none 0 0) ∧ X.cell? ⟨w.heap.size + 1 + 1, 1, none⟩ = some (.slice none 0 0) ∧ X.cell? ⟨w.heap.size + 1 + 1, 2, none⟩ = some (.slice none 0 0) ∧
  X.frozen? ⟨w.heap.size + 1 + 1, 0, none⟩ = false ∧ X.frozen? ⟨w.heap.size + 1 + 1, 1, none⟩ = false ∧ X.frozen? ⟨w.heap.size + 1 + 1, 2, none⟩ = false ∧
  X.frozen? ⟨w.heap.size, 0, none⟩ = false ∧ X.frozen? ⟨w.heap.size, 1, none⟩ = false
/-- The answer is stored: what is so then. -/
abbrev FinAt (lo : Nat) (w : World) (V0 : TabW) (X : World) (A1 : Option Addr) (N1 c1 : Nat) (A2 : Option Addr) (N2 c2 : Nat) (A3 : Option Addr) (N3 c3 : Nat) (T : Tab) : Prop :=
  (((X.setCell ⟨w.heap.size + 1 + 1, 0, none⟩ (.slice A1 N1 c1)).setCell ⟨w.heap.size + 1 + 1, 1, none⟩ (.slice A2 N2 c2)).setCell ⟨w.heap.size + 1 + 1, 2, none⟩ (.slice A3 N3 c3)).heap[w.heap.size + 1 + 1]? = some (.cells #[.slice A1 N1 c1, .slice A2 N2 c2, .slice A3 N3 c3] 26 (0, 0)) ∧
    ∀ c e, e = .returned (.tuple #[.agg #[.slice A1 N1 c1, .slice A2 N2 c2, .slice A3 N3 c3], .int .i64 c]) → OneAns lo w V0 (c, T) e (((X.setCell ⟨w.heap.size + 1 + 1, 0, none⟩ (.slice A1 N1 c1)).setCell ⟨w.heap.size + 1 + 1, 1, none⟩ (.slice A2 N2 c2)).setCell ⟨w.heap.size + 1 + 1, 2, none⟩ (.slice A3 N3 c3))
section
variable {lo : Nat} {w X : World} {A1 A2 A3 : Option Addr} {c1 c2 c3 N1 N2 N3 : Nat} {rk ra rb rc rd : Int} {key : ByteArray} {t : Tab} {V0 : TabW}
theorem Bx3.all (h : Bx3 lo w V0 ⟨rk, ra, rb, rc, rd, key⟩ ⟨A1, c1, A2, c2, A3, c3⟩ t X) (e1 : t.ts.length = N1) (e2 : t.vs.length = N2) (e3 : t.os.length = N3) : AllAt w X A1 N1 c1 A2 N2 c2 A3 N3 c3 rk ra rb rc rd key := by
  subst e1 e2 e3
  obtain ⟨y0, y1, y2⟩ := h.cells; obtain ⟨r0, r1, r2, r3, r4, r5⟩ := h.recs; obtain ⟨⟨s0, s1, s2⟩, f0, f1, f2⟩ := h.ress
  exact ⟨y0, y1, y2, r0, r1, r2, r3, r4, r5, s0, s1, s2, f0, f1, f2, h.bx.thaw 0, h.bx.thaw 1⟩
theorem Bx3.fin (h : Bx3 lo w V0 ⟨rk, ra, rb, rc, rd, key⟩ ⟨A1, c1, A2, c2, A3, c3⟩ t X) (e1 : t.ts.length = N1) (e2 : t.vs.length = N2) (e3 : t.os.length = N3) : FinAt lo w V0 X A1 N1 c1 A2 N2 c2 A3 N3 c3 t := by
  subst e1 e2 e3
  obtain ⟨q1, q2, q3, q4, q5⟩ := h.ret
  exact ⟨q1, fun c e he => ⟨⟨A1, c1, A2, c2, A3, c3⟩, he, q2, q3, q4, q5⟩⟩
/-- The volumes' row has grown or turned: the box gets the new slice. -/
theorem Bx3.turnV {V : TabW} {r : Rc} {w' : World} {vs' : List Vol} {A' : Option Addr} {c' : Nat} (h : Bx3 lo w V0 r V t X) (hrow : SlRow w' lo 51 4 A' vs'.length c' (flat volC vs')) (hg : X.grownBy w' (ob V.A2)) (hA : ob A' = ob V.A2 ∨ ob A' = some X.heap.size) :
    Bx3 lo w V0 r { V with A2 := A', c2 := c' } { t with vs := vs' } (w'.setCell ⟨w.heap.size, 1, none⟩ (.slice A' vs'.length c')) := by
  have hlt := (Array.getElem?_eq_some_iff.1 h.res).1
  have hlt1 := (Array.getElem?_eq_some_iff.1 h.chg).1
  have hp := h.bx.lt
  have hbox := (hg.block w.heap.size hp (fun q => h.bx.p2 _ q.symm rfl)).trans h.bx.box
  obtain ⟨k1, k2⟩ := box_cell1 (.slice A' vs'.length c') hbox
  refine ⟨h.bx.turnV hrow hg (hA.imp id fun q => .inr ⟨_, q, Nat.le_refl _⟩) k1 k2, ?_, ?_, ?_, ?_, ?_, ?_⟩
  · have e1 := (k2.block (w.heap.size + 1) (Nat.lt_of_lt_of_le hlt1 hg.size) (fun q => by injection q with q; omega))
    exact e1.trans ((hg.block _ hlt1 (fun q => (h.far _ (.inr (.inl q.symm))).1 rfl)).trans h.chg)
  · have e1 := (k2.block (w.heap.size + 1 + 1) (Nat.lt_of_lt_of_le hlt hg.size) (fun q => by injection q with q; omega))
    exact e1.trans ((hg.block _ hlt (fun q => (h.far _ (.inr (.inl q.symm))).2 rfl)).trans h.res)
  · intro b hb
    rcases hb with hb | hb | hb
    · exact h.far b (.inl hb)
    · rcases hA with q | q
      · exact h.far b (.inr (.inl (q ▸ hb)))
      · have : b = X.heap.size := by
          have e := hb.symm.trans q
          injection e
        omega
    · exact h.far b (.inr (.inr hb))
  · have q2 := h.below.grown hg h.lo_le fun b hb => (sl_lt h.bx.rows.vs b hb).1
    exact grown_below q2 k2 (Nat.le_trans h.lo_le hg.size) h.lo_p
  · intro b hb hn
    have hbX := Nat.lt_of_lt_of_le hb h.below.size
    have e1 := k2.block b (Nat.lt_of_lt_of_le hbX hg.size) (fun q => by injection q with q; omega)
    refine e1.trans ((hg.block b hbX (fun q => ?_)).trans (h.kept b hb hn))
    rcases h.fresh b (.inr (.inl q.symm)) with q2 | q2
    · exact hn q2
    · omega
  · intro b hb
    rcases hb with hb | hb | hb
    · exact h.fresh b (.inl hb)
    · rcases hA with q | q
      · exact h.fresh b (.inr (.inl (q ▸ hb)))
      · exact .inr (by have e := hb.symm.trans q; injection e with e; have := h.below.size; omega)
    · exact h.fresh b (.inr (.inr hb))
/-- The tenants' row has grown or turned. -/
theorem Bx3.turnT {V : TabW} {r : Rc} {w' : World} {ts' : List Ten} {A' : Option Addr} {c' : Nat} (h : Bx3 lo w V0 r V t X) (hrow : SlRow w' lo 49 6 A' ts'.length c' (flat tenC ts')) (hg : X.grownBy w' (ob V.A1)) (hA : ob A' = ob V.A1 ∨ ob A' = some X.heap.size) :
    Bx3 lo w V0 r { V with A1 := A', c1 := c' } { t with ts := ts' } (w'.setCell ⟨w.heap.size, 0, none⟩ (.slice A' ts'.length c')) := by
  have hlt := (Array.getElem?_eq_some_iff.1 h.res).1
  have hlt1 := (Array.getElem?_eq_some_iff.1 h.chg).1
  have hp := h.bx.lt
  have hbox := (hg.block w.heap.size hp (fun q => h.bx.p1 _ q.symm rfl)).trans h.bx.box
  obtain ⟨k1, k2⟩ := box_cell0 (.slice A' ts'.length c') hbox
  refine ⟨h.bx.turnT hrow hg (hA.imp id fun q => .inr ⟨_, q, Nat.le_refl _⟩) k1 k2, ?_, ?_, ?_, ?_, ?_, ?_⟩
  · have e1 := (k2.block (w.heap.size + 1) (Nat.lt_of_lt_of_le hlt1 hg.size) (fun q => by injection q with q; omega))
    exact e1.trans ((hg.block _ hlt1 (fun q => (h.far _ (.inl q.symm)).1 rfl)).trans h.chg)
  · have e1 := (k2.block (w.heap.size + 1 + 1) (Nat.lt_of_lt_of_le hlt hg.size) (fun q => by injection q with q; omega))
    exact e1.trans ((hg.block _ hlt (fun q => (h.far _ (.inl q.symm)).2 rfl)).trans h.res)
  · intro b hb
    rcases hb with hb | hb | hb
    · rcases hA with q | q
      · exact h.far b (.inl (q ▸ hb))
      · have : b = X.heap.size := by
          have e := hb.symm.trans q
          injection e
        omega
    · exact h.far b (.inr (.inl hb))
    · exact h.far b (.inr (.inr hb))
  · have q2 := h.below.grown hg h.lo_le fun b hb => (sl_lt h.bx.rows.ts b hb).1
    exact grown_below q2 k2 (Nat.le_trans h.lo_le hg.size) h.lo_p
  · intro b hb hn
    have hbX := Nat.lt_of_lt_of_le hb h.below.size
    have e1 := k2.block b (Nat.lt_of_lt_of_le hbX hg.size) (fun q => by injection q with q; omega)
    refine e1.trans ((hg.block b hbX (fun q => ?_)).trans (h.kept b hb hn))
    rcases h.fresh b (.inl q.symm) with q2 | q2
    · exact hn q2
    · omega
  · intro b hb
    rcases hb with hb | hb | hb
    · rcases hA with q | q
      · exact h.fresh b (.inl (q ▸ hb))
      · exact .inr (by have e := hb.symm.trans q; injection e with e; have := h.below.size; omega)
    · exact h.fresh b (.inr (.inl hb))
    · exact h.fresh b (.inr (.inr hb))
/-- While a row grows, the box stays. -/
theorem Bx3.midV {V : TabW} {r : Rc} {w' : World} (h : Bx3 lo w V0 r V t X) (hg : X.grownBy w' (ob V.A2)) : w'.cell? ⟨w.heap.size, 1, none⟩ = some (.slice V.A2 t.vs.length V.c2) ∧ w'.frozen? ⟨w.heap.size, 1, none⟩ = false := by
  have hbox := (hg.block w.heap.size h.bx.lt (fun q => h.bx.p2 _ q.symm rfl)).trans h.bx.box
  unfold tabV at hbox
  exact ⟨by rw [cell_of_row _ _ _ _ _ _ hbox]; rfl, frozen_of_row _ _ 1 _ _ hbox⟩
theorem Bx3.midT {V : TabW} {r : Rc} {w' : World} (h : Bx3 lo w V0 r V t X) (hg : X.grownBy w' (ob V.A1)) : w'.cell? ⟨w.heap.size, 0, none⟩ = some (.slice V.A1 t.ts.length V.c1) ∧ w'.frozen? ⟨w.heap.size, 0, none⟩ = false := by
  have hbox := (hg.block w.heap.size h.bx.lt (fun q => h.bx.p1 _ q.symm rfl)).trans h.bx.box
  unfold tabV at hbox
  exact ⟨by rw [cell_of_row _ _ _ _ _ _ hbox]; rfl, frozen_of_row _ _ 0 _ _ hbox⟩
/-- Where s[j + 1:] begins. -/
theorem cut_ad (g c j s : Nat) : ∃ ad : Addr, (if c = j + 1 then some (⟨g, 0, none⟩ : Addr) else some ⟨g, (j + 1) * s, none⟩) = some ad ∧ (c ≠ j + 1 → ad = ⟨g, (j + 1) * s, none⟩) := by
  by_cases h : c = j + 1
  · exact ⟨⟨g, 0, none⟩, if_pos h, fun q => absurd h q⟩
  · exact ⟨_, if_neg h, fun _ => rfl⟩
theorem vols_rest {X : World} {B g c j : Nat} {vs : List Vol} {ad : Addr} (h : VolsAt X B (some ⟨g, 0, none⟩) vs) (hc : vs.length ≤ c) (had : c ≠ j + 1 → ad = ⟨g, (j + 1) * 4, none⟩) : ∀ i u, (flat volC (vs.drop (j + 1)))[i]? = some u → X.cell? (ad.add i) = some u := by
  by_cases hcj : c = j + 1
  · intro i u hu
    rw [List.drop_eq_nil_of_le (by omega)] at hu
    cases hu
  · rw [had hcj]
    refine vols_news (B := B) fun k hk => ?_
    have hk2 : j + 1 + k < vs.length := by rw [List.length_drop] at hk; omega
    obtain ⟨b, off, e, hl, q0, q1, q2, q3⟩ := h (j + 1 + k) hk2
    injection e with e
    injection e with e1 e2 e3
    subst e1 e2
    have hm : ∀ n, (j + 1) * 4 + k * 4 + n = 0 + (j + 1 + k) * 4 + n := fun n => by omega
    have hm0 : (j + 1) * 4 + k * 4 = 0 + (j + 1 + k) * 4 := by omega
    refine ⟨g, (j + 1) * 4, rfl, hl, ?_⟩
    simp only [List.getElem_drop]
    rw [hm0]
    exact ⟨q0, q1, q2, q3⟩
theorem tens_rest {X : World} {B g c j : Nat} {ts : List Ten} {ad : Addr} (h : TensAt X B (some ⟨g, 0, none⟩) ts) (hc : ts.length ≤ c) (had : c ≠ j + 1 → ad = ⟨g, (j + 1) * 6, none⟩) : ∀ i u, (flat tenC (ts.drop (j + 1)))[i]? = some u → X.cell? (ad.add i) = some u := by
  by_cases hcj : c = j + 1
  · intro i u hu
    rw [List.drop_eq_nil_of_le (by omega)] at hu
    cases hu
  · rw [had hcj]
    refine tens_news (B := B) fun k hk => ?_
    have hk2 : j + 1 + k < ts.length := by rw [List.length_drop] at hk; omega
    obtain ⟨b, off, e, hl, q0, q1, q2, q3, q4, q5⟩ := h (j + 1 + k) hk2
    injection e with e
    injection e with e1 e2 e3
    subst e1 e2
    have hm0 : (j + 1) * 6 + k * 6 = 0 + (j + 1 + k) * 6 := by omega
    refine ⟨g, (j + 1) * 6, rfl, hl, ?_⟩
    simp only [List.getElem_drop]
    rw [hm0]
    exact ⟨q0, q1, q2, q3, q4, q5⟩
theorem erase_flat {α : Type} {E : α → List Value} (l : List α) (j : Nat) : flat E (l.take j) ++ flat E (l.drop (j + 1)) = flat E (l.eraseIdx j) := by
  rw [List.eraseIdx_eq_take_drop_succ, flat_append]
/-- The three boxes laid; W0 is the world then. -/
theorem bx3_start (hV : V0 = ⟨A1, c1, A2, c2, A3, c3⟩) (h : RowsSl lo w ⟨A1, c1, A2, c2, A3, c3⟩ t) (hl : lo ≤ w.heap.size) (rk ra rb rc rd : Int) (key : ByteArray) : ∃ W0, W0 = (((w.alloc (.cells #[.slice A1 t.ts.length c1, .slice A2 t.vs.length c2, .slice A3 t.os.length c3] 26)).alloc (.cells #[.int .i64 rk, .int .i64 ra, .int .i64 rb, .int .i64 rc, .int .i64 rd, .string key] 40)).alloc (.cells #[.slice none 0 0, .slice none 0 0, .slice none 0 0] 26)) ∧
    Bx3 lo w V0 ⟨rk, ra, rb, rc, rd, key⟩ ⟨A1, c1, A2, c2, A3, c3⟩ t W0 := by subst hV; exact ⟨_, rfl, Bx3.start h hl ⟨rk, ra, rb, rc, rd, key⟩⟩
end

end Go.Proofs.YtnenpafofplbhaaGreat
