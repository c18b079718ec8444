/-
  Records: plainly, by value, and rows of them in memory.
-/
import Derived.Test.YtbmgiekiildaaaaWords
namespace Go.Proofs.Ytbmgiekiildaaaa
open Go.RowKit

structure Rc where
  k : Int
  a : Int
  b : Int
  c : Int
  d : Int
  key : ByteArray
theorem rc_ext (x y : Rc) : (x.k = y.k ∧ x.a = y.a ∧ x.b = y.b ∧ x.c = y.c ∧ x.d = y.d ∧ x.key = y.key) ↔ x = y := by
  constructor
  · obtain ⟨_, _, _, _, _, _⟩ := x
    obtain ⟨_, _, _, _, _, _⟩ := y
    rintro ⟨h1, h2, h3, h4, h5, h6⟩
    simp only at h1 h2 h3 h4 h5 h6
    subst h1 h2 h3 h4 h5 h6; rfl
  · rintro rfl; exact ⟨rfl, rfl, rfl, rfl, rfl, rfl⟩
instance : DecidableEq Rc := fun x y => decidable_of_iff _ (rc_ext x y)
def rcV (r : Rc) : Array Value := #[.int .i64 r.k, .int .i64 r.a, .int .i64 r.b, .int .i64 r.c, .int .i64 r.d, .string r.key]
def I64n (n : Int) : Prop := -9223372036854775808 ≤ n ∧ n ≤ 9223372036854775807
structure Rc.ok (r : Rc) : Prop where
  k : I64n r.k
  a : I64n r.a
  b : I64n r.b
  c : I64n r.c
  d : I64n r.d
  key : r.key.size ≤ 9223372036854775807
/-- A slice of records. -/
def RecsAt (w : World) (B : Nat) (A : Option Addr) (rs : List Rc) : Prop :=
  ∀ k, (h : k < rs.length) → ∃ b off, A = some ⟨b, off, none⟩ ∧ b < B ∧ w.cell? ⟨b, off + 6 * k, none⟩ = some (.int .i64 rs[k].k) ∧ w.cell? ⟨b, off + 6 * k + 1, none⟩ = some (.int .i64 rs[k].a) ∧ w.cell? ⟨b, off + 6 * k + 2, none⟩ = some (.int .i64 rs[k].b) ∧
    w.cell? ⟨b, off + 6 * k + 3, none⟩ = some (.int .i64 rs[k].c) ∧ w.cell? ⟨b, off + 6 * k + 4, none⟩ = some (.int .i64 rs[k].d) ∧ w.cell? ⟨b, off + 6 * k + 5, none⟩ = some (.string rs[k].key)
theorem RecsAt.below {w w' : World} {B : Nat} {A : Option Addr} {rs : List Rc} (h : RecsAt w B A rs) (hb : Below B w w') : RecsAt w' B A rs := fun k hk => by
  obtain ⟨b, off, e, hl, c0, c1, c2, c3, c4, c5⟩ := h k hk
  exact ⟨b, off, e, hl, (hb.cell (p := ⟨b, _, none⟩) hl).trans c0, (hb.cell (p := ⟨b, _, none⟩) hl).trans c1, (hb.cell (p := ⟨b, _, none⟩) hl).trans c2, (hb.cell (p := ⟨b, _, none⟩) hl).trans c3, (hb.cell (p := ⟨b, _, none⟩) hl).trans c4, (hb.cell (p := ⟨b, _, none⟩) hl).trans c5⟩
theorem RecsAt.more {w : World} {B B' : Nat} {A : Option Addr} {rs : List Rc} (h : RecsAt w B A rs) (hB : B ≤ B') : RecsAt w B' A rs := fun k hk => by
  obtain ⟨b, off, e, hl, h'⟩ := h k hk
  exact ⟨b, off, e, by omega, h'⟩
theorem RecsAt.nil (w : World) (B : Nat) (A : Option Addr) : RecsAt w B A [] := fun _ h => absurd h (Nat.not_lt_zero _)

end Go.Proofs.Ytbmgiekiildaaaa
