/-
  A table of one's own in memory: its rows lie in blocks of one's own; a draft: those, and the box that names them.
-/
import Derived.Test.YtbnhkplhmanmoaaGreatEncRowG
import Derived.Test.YtbnhkplhmanmoaaGreatTableSpecG
import Derived.Test.YtbnhkplhmanmoaaGreatWordsG
namespace Go.Proofs.YtbnhkplhmanmoaaGreat
open Go.RowKit

def tenC (x : Ten) : List Value := [.int .i64 x.id, .int .i64 x.quota, .int .i64 x.rate, .int .i64 x.burst, .string x.key, .bool x.dying]
def volC (x : Vol) : List Value := [.int .i64 x.id, .int .i64 x.ten, .int .i64 x.blocks, .int .i64 x.base]
def intC (n : Int) : List Value := [.int .i64 n]
theorem tenC_len : ∀ x, (tenC x).length = 6 := fun _ => rfl
theorem volC_len : ∀ x, (volC x).length = 4 := fun _ => rfl
theorem intC_len : ∀ x, (intC x).length = 1 := fun _ => rfl
theorem tenC_one (x : Ten) : ∀ u ∈ tenC x, u.oneCell' = true := fun u hu => by
  simp only [tenC, List.mem_cons, List.not_mem_nil, or_false] at hu
  rcases hu with rfl | rfl | rfl | rfl | rfl | rfl <;> rfl
theorem volC_one (x : Vol) : ∀ u ∈ volC x, u.oneCell' = true := fun u hu => by
  simp only [volC, List.mem_cons, List.not_mem_nil, or_false] at hu
  rcases hu with rfl | rfl | rfl | rfl <;> rfl
theorem intC_one (x : Int) : ∀ u ∈ intC x, u.oneCell' = true := fun u hu => by
  simp only [intC, List.mem_cons, List.not_mem_nil, or_false] at hu
  rcases hu with rfl; rfl
theorem flat_one {α : Type} {E : α → List Value} (h : ∀ x, ∀ u ∈ E x, u.oneCell' = true) (l : List α) : ∀ u ∈ flat E l, u.oneCell' = true := fun u hu => by
  obtain ⟨x, _, hx⟩ := List.mem_flatMap.1 hu
  exact h x u hx
def ob (A : Option Addr) : Option Nat := A.map (·.block)
theorem ob_slice (A : Option Addr) (n c : Nat) : (Value.slice A n c).ownBlock = ob A := by cases A <;> rfl

/-- The rows of a table, of one's own from lo on. -/
structure RowsOwn (lo : Nat) (w : World) (V : TabW) (t : Tab) : Prop where
  ts : w.ownsRow lo 52 6 (.slice V.A1 t.ts.length V.c1) t.ts.length (flat tenC t.ts)
  vs : w.ownsRow lo 82 4 (.slice V.A2 t.vs.length V.c2) t.vs.length (flat volC t.vs)
  os : w.ownsRow lo 3 1 (.slice V.A3 t.os.length V.c3) t.os.length (flat intC t.os)
  a12 : ∀ b, ob V.A1 = some b → ob V.A2 ≠ some b
  a13 : ∀ b, ob V.A1 = some b → ob V.A3 ≠ some b
  a23 : ∀ b, ob V.A2 = some b → ob V.A3 ≠ some b
section
variable {lo : Nat} {w w' : World} {V : TabW} {t : Tab}
theorem row_le {lo e size n c : Nat} {A : Option Addr} {xs : List Value} (h : w.ownsRow lo e size (.slice A n c) n xs) : n ≤ c := by
  rcases h.2 with ⟨hv, hn⟩ | ⟨g, cap, cur, hv, _, _, hle, _⟩
  · injection hv with _ _ h3; omega
  · injection hv with _ _ h3; omega
theorem row_lt {lo e size n c : Nat} {A : Option Addr} {xs : List Value} (h : w.ownsRow lo e size (.slice A n c) n xs) : ∀ b, ob A = some b → lo ≤ b ∧ b < w.heap.size := fun b hb => h.lt b (by rw [ob_slice]; exact hb)
theorem tens_of_row {lo c : Nat} {A : Option Addr} {ts : List Ten} (h : w.ownsRow lo 52 6 (.slice A ts.length c) ts.length (flat tenC ts)) : TensAt w w.heap.size A ts := fun k hk => by
  obtain ⟨g, hA, _, hl, _, hc, _⟩ := own_at tenC_len h rfl hk
  refine ⟨g, 0, hA, hl, ?_⟩
  rw [Nat.zero_add]
  exact ⟨hc 0 _ rfl, hc 1 _ rfl, hc 2 _ rfl, hc 3 _ rfl, hc 4 _ rfl, hc 5 _ rfl⟩
theorem vols_of_row {lo c : Nat} {A : Option Addr} {vs : List Vol} (h : w.ownsRow lo 82 4 (.slice A vs.length c) vs.length (flat volC vs)) : VolsAt w w.heap.size A vs := fun k hk => by
  obtain ⟨g, hA, _, hl, _, hc, _⟩ := own_at volC_len h rfl hk
  refine ⟨g, 0, hA, hl, ?_⟩
  rw [Nat.zero_add]
  exact ⟨hc 0 _ rfl, hc 1 _ rfl, hc 2 _ rfl, hc 3 _ rfl⟩
theorem ints_of_flat {lo c : Nat} {A : Option Addr} {os : List Int} (h : w.ownsRow lo 3 1 (.slice A os.length c) os.length (flat intC os)) : Ints w w.heap.size .i64 A os := fun k hk => by
  obtain ⟨g, hA, _, hl, _, hc, _⟩ := own_at intC_len h rfl hk
  refine ⟨g, 0, hA, hl, ?_⟩
  have := hc 0 _ rfl
  rw [Nat.mul_one, Nat.add_zero] at this
  rw [Nat.zero_add, this]
  simp [hk]
theorem RowsOwn.tab (h : RowsOwn lo w V t) : TabAt w w.heap.size V t := ⟨tens_of_row h.ts, vols_of_row h.vs, ints_of_flat h.os, row_le h.ts, row_le h.vs, row_le h.os⟩
theorem RowsOwn.from_ (h : RowsOwn lo w V t) : TabFrom lo V := fun a ha => by
  rcases ha with ha | ha | ha
  · exact (row_lt h.ts a.block (by rw [ha]; rfl)).1
  · exact (row_lt h.vs a.block (by rw [ha]; rfl)).1
  · exact (row_lt h.os a.block (by rw [ha]; rfl)).1
/-- A block that is none of them is written, or new memory made. -/
theorem RowsOwn.grown {row : Option Nat} (h : RowsOwn lo w V t) (hg : w.grownBy w' row) (h1 : ∀ b, ob V.A1 = some b → row ≠ some b) (h2 : ∀ b, ob V.A2 = some b → row ≠ some b) (h3 : ∀ b, ob V.A3 = some b → row ≠ some b) : RowsOwn lo w' V t :=
  ⟨own_grown h.ts hg (fun b hb => h1 b (by rw [← ob_slice]; exact hb)), own_grown h.vs hg (fun b hb => h2 b (by rw [← ob_slice]; exact hb)), own_grown h.os hg (fun b hb => h3 b (by rw [← ob_slice]; exact hb)), h.a12, h.a13, h.a23⟩
theorem RowsOwn.below (h : RowsOwn lo w V t) (hb : Below w.heap.size w w') : RowsOwn lo w' V t :=
  h.grown (grown_of_below hb none) (fun _ _ q => by cases q) (fun _ _ q => by cases q) (fun _ _ q => by cases q)
end
/-- A draft in block p. -/
structure DrIn (lo : Nat) (w : World) (p : Nat) (V : TabW) (t : Tab) : Prop where
  box : w.heap[p]? = some (.cells (tabV V t) 93 (0, 0))
  hp : lo ≤ p
  rows : RowsOwn lo w V t
  p1 : ∀ b, ob V.A1 = some b → p ≠ b
  p2 : ∀ b, ob V.A2 = some b → p ≠ b
  p3 : ∀ b, ob V.A3 = some b → p ≠ b
section
variable {lo p : Nat} {w w' : World} {V : TabW} {t : Tab}
theorem DrIn.lt (h : DrIn lo w p V t) : p < w.heap.size := (Array.getElem?_eq_some_iff.1 h.box).1
theorem DrIn.lo_le (h : DrIn lo w p V t) : lo ≤ w.heap.size := Nat.le_trans h.hp (Nat.le_of_lt h.lt)
theorem DrIn.cells (h : DrIn lo w p V t) : w.cell? ⟨p, 0, none⟩ = some (.slice V.A1 t.ts.length V.c1) ∧ w.cell? ⟨p, 1, none⟩ = some (.slice V.A2 t.vs.length V.c2) ∧ w.cell? ⟨p, 2, none⟩ = some (.slice V.A3 t.os.length V.c3) := by
  have h := h.box
  unfold tabV at h
  exact ⟨by rw [cell_of_row _ _ _ _ _ _ h]; rfl, by rw [cell_of_row _ _ _ _ _ _ h]; rfl, by rw [cell_of_row _ _ _ _ _ _ h]; rfl⟩
theorem DrIn.thaw (h : DrIn lo w p V t) (i : Nat) : w.frozen? ⟨p, i, none⟩ = false := frozen_of_row _ _ _ _ _ h.box
theorem DrIn.tab (h : DrIn lo w p V t) : TabAt w w.heap.size V t := h.rows.tab
theorem DrIn.below (h : DrIn lo w p V t) (hb : Below w.heap.size w w') : DrIn lo w' p V t := ⟨(hb.block _ h.lt).trans h.box, h.hp, h.rows.below hb, h.p1, h.p2, h.p3⟩
/-- The tenants' row turns; it may lie in new memory, and the box names it. -/
theorem DrIn.turnT {W : World} {ts' : List Ten} {A' : Option Addr} {c' : Nat} (h : DrIn lo w p V t) (hrow : w'.ownsRow lo 52 6 (.slice A' ts'.length c') ts'.length (flat tenC ts')) (hg : w.grownBy w' (ob V.A1)) (hA : ob A' = ob V.A1 ∨ ob A' = none ∨ ∃ b, ob A' = some b ∧ w.heap.size ≤ b)
    (hW : W.heap[p]? = some (.cells #[.slice A' ts'.length c', .slice V.A2 t.vs.length V.c2, .slice V.A3 t.os.length V.c3] 93 (0, 0))) (hgW : w'.grownBy W (some p)) : DrIn lo W p { V with A1 := A', c1 := c' } { t with ts := ts' } := by
  have hne : ∀ {A : Option Addr}, (∀ b, ob V.A1 = some b → ob A ≠ some b) → (∀ b, ob A = some b → b < w.heap.size) → ∀ b, ob A' = some b → ob A ≠ some b := fun {A} q1 q2 b hb hb2 => by
    rcases hA with e | e | ⟨b2, e, hl⟩
    · exact q1 b (e ▸ hb) hb2
    · rw [e] at hb; cases hb
    · rw [e] at hb
      injection hb with hb
      have := q2 b hb2
      omega
  have hp1 : ∀ b, ob A' = some b → p ≠ b := fun b hb hpb => by
    rcases hA with e | e | ⟨b2, e, hl⟩
    · exact h.p1 b (e ▸ hb) hpb
    · rw [e] at hb; cases hb
    · rw [e] at hb
      injection hb with hb
      have := h.lt
      omega
  have hv := own_grown h.rows.vs hg (fun b hb q => h.rows.a12 b q (by rw [← ob_slice]; exact hb))
  have ho := own_grown h.rows.os hg (fun b hb q => h.rows.a13 b q (by rw [← ob_slice]; exact hb))
  refine ⟨hW, h.hp, ⟨own_grown hrow hgW fun b hb q => ?_, own_grown hv hgW fun b hb q => ?_, own_grown ho hgW fun b hb q => ?_, hne h.rows.a12 fun b hb => (row_lt h.rows.vs b hb).2, hne h.rows.a13 fun b hb => (row_lt h.rows.os b hb).2, h.rows.a23⟩, hp1, h.p2, h.p3⟩
  · injection q with q; exact hp1 b (by rw [← ob_slice]; exact hb) q
  · injection q with q; exact h.p2 b (by rw [← ob_slice]; exact hb) q
  · injection q with q; exact h.p3 b (by rw [← ob_slice]; exact hb) q
/-- The volumes' row turns. -/
theorem DrIn.turnV {W : World} {vs' : List Vol} {A' : Option Addr} {c' : Nat} (h : DrIn lo w p V t) (hrow : w'.ownsRow lo 82 4 (.slice A' vs'.length c') vs'.length (flat volC vs')) (hg : w.grownBy w' (ob V.A2)) (hA : ob A' = ob V.A2 ∨ ob A' = none ∨ ∃ b, ob A' = some b ∧ w.heap.size ≤ b)
    (hW : W.heap[p]? = some (.cells #[.slice V.A1 t.ts.length V.c1, .slice A' vs'.length c', .slice V.A3 t.os.length V.c3] 93 (0, 0))) (hgW : w'.grownBy W (some p)) : DrIn lo W p { V with A2 := A', c2 := c' } { t with vs := vs' } := by
  have hp1 : ∀ b, ob A' = some b → p ≠ b := fun b hb hpb => by
    rcases hA with e | e | ⟨b2, e, hl⟩
    · exact h.p2 b (e ▸ hb) hpb
    · rw [e] at hb; cases hb
    · rw [e] at hb
      injection hb with hb
      have := h.lt
      omega
  have hv := own_grown h.rows.ts hg (fun b hb q => h.rows.a12 b (by rw [← ob_slice]; exact hb) q)
  have ho := own_grown h.rows.os hg (fun b hb q => h.rows.a23 b q (by rw [← ob_slice]; exact hb))
  refine ⟨hW, h.hp, ⟨own_grown hv hgW fun b hb q => ?_, own_grown hrow hgW fun b hb q => ?_, own_grown ho hgW fun b hb q => ?_, fun b hb hb2 => ?_, h.rows.a13, fun b hb hb2 => ?_⟩, h.p1, hp1, h.p3⟩
  · injection q with q; exact h.p1 b (by rw [← ob_slice]; exact hb) q
  · injection q with q; exact hp1 b (by rw [← ob_slice]; exact hb) q
  · injection q with q; exact h.p3 b (by rw [← ob_slice]; exact hb) q
  · rcases hA with e | e | ⟨b2, e, hl⟩
    · exact h.rows.a12 b hb (e ▸ hb2)
    · rw [e] at hb2; cases hb2
    · rw [e] at hb2
      injection hb2 with hb2
      have := (row_lt h.rows.ts b hb).2
      omega
  · rcases hA with e | e | ⟨b2, e, hl⟩
    · exact h.rows.a23 b (e ▸ hb) hb2
    · rw [e] at hb; cases hb
    · rw [e] at hb
      injection hb with hb
      have := (row_lt h.rows.os b hb2).2
      omega
/-- Within its row a tenant turns. -/
theorem DrIn.inT {ts' : List Ten} {g : Nat} (h : DrIn lo w p V t) (hA : V.A1 = some ⟨g, 0, none⟩) (hl : ts'.length = t.ts.length) (hrow : w'.ownsRow lo 52 6 (.slice V.A1 t.ts.length V.c1) t.ts.length (flat tenC ts')) (hg : w.grownBy w' (some g)) : DrIn lo w' p V { t with ts := ts' } := by
  have hob : ob V.A1 = some g := by rw [hA]; rfl
  have hpg := h.p1 g hob
  refine ⟨?_, h.hp, ⟨by rw [hl]; exact hrow, own_grown h.rows.vs hg (fun b hb q => h.rows.a12 g hob (by rw [q, ← ob_slice]; exact hb)), own_grown h.rows.os hg (fun b hb q => h.rows.a13 g hob (by rw [q, ← ob_slice]; exact hb)), h.rows.a12, h.rows.a13, h.rows.a23⟩, h.p1, h.p2, h.p3⟩
  have e : tabV V { t with ts := ts' } = tabV V t := by unfold tabV; rw [hl]
  rw [e, hg.block p h.lt (fun q => hpg (by injection q))]
  exact h.box
theorem DrIn.inV {vs' : List Vol} {g : Nat} (h : DrIn lo w p V t) (hA : V.A2 = some ⟨g, 0, none⟩) (hl : vs'.length = t.vs.length) (hrow : w'.ownsRow lo 82 4 (.slice V.A2 t.vs.length V.c2) t.vs.length (flat volC vs')) (hg : w.grownBy w' (some g)) : DrIn lo w' p V { t with vs := vs' } := by
  have hob : ob V.A2 = some g := by rw [hA]; rfl
  have hpg := h.p2 g hob
  refine ⟨?_, h.hp, ⟨own_grown h.rows.ts hg (fun b hb q => h.rows.a12 b (by rw [← ob_slice]; exact hb) (by rw [hob, q])), by rw [hl]; exact hrow, own_grown h.rows.os hg (fun b hb q => h.rows.a23 g hob (by rw [q, ← ob_slice]; exact hb)), h.rows.a12, h.rows.a13, h.rows.a23⟩, h.p1, h.p2, h.p3⟩
  have e : tabV V { t with vs := vs' } = tabV V t := by unfold tabV; rw [hl]
  rw [e, hg.block p h.lt (fun q => hpg (by injection q))]
  exact h.box
theorem DrIn.inO {os' : List Int} {g : Nat} (h : DrIn lo w p V t) (hA : V.A3 = some ⟨g, 0, none⟩) (hl : os'.length = t.os.length) (hrow : w'.ownsRow lo 3 1 (.slice V.A3 t.os.length V.c3) t.os.length (flat intC os')) (hg : w.grownBy w' (some g)) : DrIn lo w' p V { t with os := os' } := by
  have hob : ob V.A3 = some g := by rw [hA]; rfl
  have hpg := h.p3 g hob
  refine ⟨?_, h.hp, ⟨own_grown h.rows.ts hg (fun b hb q => h.rows.a13 b (by rw [← ob_slice]; exact hb) (by rw [hob, q])), own_grown h.rows.vs hg (fun b hb q => h.rows.a23 b (by rw [← ob_slice]; exact hb) (by rw [hob, q])), by rw [hl]; exact hrow, h.rows.a12, h.rows.a13, h.rows.a23⟩, h.p1, h.p2, h.p3⟩
  have e : tabV V { t with os := os' } = tabV V t := by unfold tabV; rw [hl]
  rw [e, hg.block p h.lt (fun q => hpg (by injection q))]
  exact h.box
end
/-- A thing of tenants, cell by cell. -/
theorem tens_news {w : World} {B : Nat} {ad : Addr} {ts : List Ten} (h : TensAt w B (some ad) ts) : ∀ j u, (flat tenC ts)[j]? = some u → w.cell? (ad.add j) = some u := fun j u hu => by
  have hj : j < ts.length * 6 := by rw [← flat_len tenC_len]; exact (List.getElem?_eq_some_iff.1 hu).1
  obtain ⟨k, i, hk, hi, rfl, hf⟩ := flat_cells tenC_len ts hj
  rw [hf] at hu
  obtain ⟨b, off, e, _, c0, c1, c2, c3, c4, c5⟩ := h k hk
  injection e with e
  subst e
  rw [Addr.add_mid, ← Nat.add_assoc]
  rcases (show i = 0 ∨ i = 1 ∨ i = 2 ∨ i = 3 ∨ i = 4 ∨ i = 5 by omega) with rfl | rfl | rfl | rfl | rfl | rfl
  · exact c0.trans hu
  · exact c1.trans hu
  · exact c2.trans hu
  · exact c3.trans hu
  · exact c4.trans hu
  · exact c5.trans hu
theorem vols_news {w : World} {B : Nat} {ad : Addr} {vs : List Vol} (h : VolsAt w B (some ad) vs) : ∀ j u, (flat volC vs)[j]? = some u → w.cell? (ad.add j) = some u := fun j u hu => by
  have hj : j < vs.length * 4 := by rw [← flat_len volC_len]; exact (List.getElem?_eq_some_iff.1 hu).1
  obtain ⟨k, i, hk, hi, rfl, hf⟩ := flat_cells volC_len vs hj
  rw [hf] at hu
  obtain ⟨b, off, e, _, c0, c1, c2, c3⟩ := h k hk
  injection e with e
  subst e
  rw [Addr.add_mid, ← Nat.add_assoc]
  rcases (show i = 0 ∨ i = 1 ∨ i = 2 ∨ i = 3 by omega) with rfl | rfl | rfl | rfl
  · exact c0.trans hu
  · exact c1.trans hu
  · exact c2.trans hu
  · exact c3.trans hu
theorem ints_news {w : World} {B : Nat} {ad : Addr} {os : List Int} (h : Ints w B .i64 (some ad) os) : ∀ j u, (flat intC os)[j]? = some u → w.cell? (ad.add j) = some u := fun j u hu => by
  have hj : j < os.length * 1 := by rw [← flat_len intC_len]; exact (List.getElem?_eq_some_iff.1 hu).1
  obtain ⟨k, i, hk, hi, rfl, hf⟩ := flat_cells intC_len os hj
  rw [hf] at hu
  obtain ⟨b, off, e, _, c0⟩ := h k hk
  injection e with e
  subst e
  have : i = 0 := by omega
  subst this
  rw [Addr.add_mid, Nat.mul_one, Nat.add_zero, c0, ← hu]
  simp [intC, hk]

end Go.Proofs.YtbnhkplhmanmoaaGreat
