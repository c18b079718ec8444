/-
  Words for tables in memory: rows of tenants, of volumes, a table by value.
-/
import Derived.Test.YtbmgiekiildaaaaTableNums
import Derived.Test.YtbmgiekiildaaaaChecked
namespace Go.Proofs.Ytbmgiekiildaaaa
open Go.RowKit

/-- A slice of tenants. -/
def TensAt (w : World) (B : Nat) (A : Option Addr) (ts : List Ten) : Prop :=
  ∀ k, (h : k < ts.length) → ∃ b off, A = some ⟨b, off, none⟩ ∧ b < B ∧ w.cell? ⟨b, off + k * 6, none⟩ = some (.int .i64 ts[k].id) ∧ w.cell? ⟨b, off + k * 6 + 1, none⟩ = some (.int .i64 ts[k].quota) ∧ w.cell? ⟨b, off + k * 6 + 2, none⟩ = some (.int .i64 ts[k].rate) ∧
    w.cell? ⟨b, off + k * 6 + 3, none⟩ = some (.int .i64 ts[k].burst) ∧ w.cell? ⟨b, off + k * 6 + 4, none⟩ = some (.string ts[k].key) ∧ w.cell? ⟨b, off + k * 6 + 5, none⟩ = some (.bool ts[k].dying)
/-- A slice of volumes. -/
def VolsAt (w : World) (B : Nat) (A : Option Addr) (vs : List Vol) : Prop :=
  ∀ k, (h : k < vs.length) → ∃ b off, A = some ⟨b, off, none⟩ ∧ b < B ∧ w.cell? ⟨b, off + k * 4, none⟩ = some (.int .i64 vs[k].id) ∧ w.cell? ⟨b, off + k * 4 + 1, none⟩ = some (.int .i64 vs[k].ten) ∧ w.cell? ⟨b, off + k * 4 + 2, none⟩ = some (.int .i64 vs[k].blocks) ∧ w.cell? ⟨b, off + k * 4 + 3, none⟩ = some (.int .i64 vs[k].base)
section
variable {w w' : World} {B B' : Nat} {A : Option Addr} {ts : List Ten} {vs : List Vol}
theorem TensAt.below (h : TensAt w B A ts) (hb : Below B w w') : TensAt w' B A ts := fun k hk => by
  obtain ⟨b, off, e, hl, c0, c1, c2, c3, c4, c5⟩ := h k hk
  exact ⟨b, off, e, hl, (hb.cell (p := ⟨b, _, none⟩) hl).trans c0, (hb.cell (p := ⟨b, _, none⟩) hl).trans c1, (hb.cell (p := ⟨b, _, none⟩) hl).trans c2, (hb.cell (p := ⟨b, _, none⟩) hl).trans c3, (hb.cell (p := ⟨b, _, none⟩) hl).trans c4, (hb.cell (p := ⟨b, _, none⟩) hl).trans c5⟩
theorem TensAt.more (h : TensAt w B A ts) (hB : B ≤ B') : TensAt w B' A ts := fun k hk => by
  obtain ⟨b, off, e, hl, h'⟩ := h k hk
  exact ⟨b, off, e, by omega, h'⟩
theorem TensAt.nil (w : World) (B : Nat) (A : Option Addr) : TensAt w B A [] := fun _ h => absurd h (Nat.not_lt_zero _)
theorem VolsAt.below (h : VolsAt w B A vs) (hb : Below B w w') : VolsAt w' B A vs := fun k hk => by
  obtain ⟨b, off, e, hl, c0, c1, c2, c3⟩ := h k hk
  exact ⟨b, off, e, hl, (hb.cell (p := ⟨b, _, none⟩) hl).trans c0, (hb.cell (p := ⟨b, _, none⟩) hl).trans c1, (hb.cell (p := ⟨b, _, none⟩) hl).trans c2, (hb.cell (p := ⟨b, _, none⟩) hl).trans c3⟩
theorem VolsAt.more (h : VolsAt w B A vs) (hB : B ≤ B') : VolsAt w B' A vs := fun k hk => by
  obtain ⟨b, off, e, hl, h'⟩ := h k hk
  exact ⟨b, off, e, by omega, h'⟩
theorem VolsAt.nil (w : World) (B : Nat) (A : Option Addr) : VolsAt w B A [] := fun _ h => absurd h (Nat.not_lt_zero _)
end
/-- Where a table's parts lie. -/
structure TabW where
  A1 : Option Addr
  c1 : Nat
  A2 : Option Addr
  c2 : Nat
  A3 : Option Addr
  c3 : Nat
/-- A table by value. -/
def tabV (V : TabW) (t : Tab) : Array Value := #[.slice V.A1 t.ts.length V.c1, .slice V.A2 t.vs.length V.c2, .slice V.A3 t.os.length V.c3]
structure Ten.ok (x : Ten) : Prop where
  id : I64n x.id
  quota : I64n x.quota
  rate : I64n x.rate
  burst : I64n x.burst
  key : x.key.size ≤ 9223372036854775807
structure Vol.ok (x : Vol) : Prop where
  id : I64n x.id
  ten : I64n x.ten
  blocks : I64n x.blocks
  base : I64n x.base
/-- A table that may be any: its numbers are numbers of 64 bits. -/
structure Tab.ok (t : Tab) : Prop where
  ts : ∀ x ∈ t.ts, x.ok
  vs : ∀ x ∈ t.vs, x.ok
  os : ∀ x ∈ t.os, I64n x
  nt : t.ts.length ≤ 9223372036854775807
  nv : t.vs.length ≤ 9223372036854775807
  no : t.os.length ≤ 9223372036854775807
structure TabAt (w : World) (B : Nat) (V : TabW) (t : Tab) : Prop where
  ts : TensAt w B V.A1 t.ts
  vs : VolsAt w B V.A2 t.vs
  os : Ints w B .i64 V.A3 t.os
  l1 : t.ts.length ≤ V.c1
  l2 : t.vs.length ≤ V.c2
  l3 : t.os.length ≤ V.c3
theorem TabAt.below {w w' : World} {B : Nat} {V : TabW} {t : Tab} (h : TabAt w B V t) (hb : Below B w w') : TabAt w' B V t := ⟨h.ts.below hb, h.vs.below hb, h.os.below hb, h.l1, h.l2, h.l3⟩
theorem TabAt.more {w : World} {B B' : Nat} {V : TabW} {t : Tab} (h : TabAt w B V t) (hB : B ≤ B') : TabAt w B' V t := ⟨h.ts.more hB, h.vs.more hB, h.os.more hB, h.l1, h.l2, h.l3⟩

/-- Where a tenant is, as an index; -1: nowhere. -/
def tenI (ts : List Ten) (id : Int) : Int := if ts.findIdx (fun x => decide (x.id = id)) < ts.length then (ts.findIdx fun x => decide (x.id = id) : Nat) else -1
def volI (vs : List Vol) (id : Int) : Int := if vs.findIdx (fun x => decide (x.id = id)) < vs.length then (vs.findIdx fun x => decide (x.id = id) : Nat) else -1
theorem findIdx_at {α : Type} {p : α → Bool} {l : List α} {k : Nat} (hk : k < l.length) (hp : p l[k] = true) (hlt : ∀ j, (h : j < k) → p (l[j]'(by omega)) = false) : l.findIdx p = k := by
  rw [List.findIdx_eq hk]
  exact ⟨hp, fun j hj => hlt j hj⟩
theorem findIdx_no {α : Type} {p : α → Bool} {l : List α} (h : ∀ j, (h : j < l.length) → p l[j] = false) : ¬ l.findIdx p < l.length := fun hlt => by
  have h1 := List.findIdx_getElem (w := hlt)
  rw [h _ hlt] at h1
  cases h1
theorem tenI_at {ts : List Ten} {id : Int} {k : Nat} (hk : k < ts.length) (he : ts[k].id = id) (hlt : ∀ j, (h : j < ts.length) → j < k → ts[j].id ≠ id) : tenI ts id = k := by
  have e := findIdx_at (p := fun x : Ten => decide (x.id = id)) hk (decide_eq_true he) fun j hj => decide_eq_false (hlt j (by omega) hj)
  unfold tenI
  rw [e, if_pos hk]
theorem tenI_no {ts : List Ten} {id : Int} (h : ∀ j, (h : j < ts.length) → ts[j].id ≠ id) : tenI ts id = -1 := by
  have e := findIdx_no (p := fun x : Ten => decide (x.id = id)) (l := ts) fun j hj => decide_eq_false (h j hj)
  unfold tenI
  rw [if_neg e]
theorem volI_at {ts : List Vol} {id : Int} {k : Nat} (hk : k < ts.length) (he : ts[k].id = id) (hlt : ∀ j, (h : j < ts.length) → j < k → ts[j].id ≠ id) : volI ts id = k := by
  have e := findIdx_at (p := fun x : Vol => decide (x.id = id)) hk (decide_eq_true he) fun j hj => decide_eq_false (hlt j (by omega) hj)
  unfold volI
  rw [e, if_pos hk]
theorem volI_no {ts : List Vol} {id : Int} (h : ∀ j, (h : j < ts.length) → ts[j].id ≠ id) : volI ts id = -1 := by
  have e := findIdx_no (p := fun x : Vol => decide (x.id = id)) (l := ts) fun j hj => decide_eq_false (h j hj)
  unfold volI
  rw [if_neg e]

end Go.Proofs.Ytbmgiekiildaaaa
