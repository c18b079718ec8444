/-
  Words for lines in memory: rows of texts, of records, of transactions; what is asked of the layer line, as properties of its calls.
-/
import Derived.Test.YtbfchclfonicmaaLineNums
import Derived.Test.YtbfchclfonicmaaChecked
namespace Go.Proofs.Ytbfchclfonicmaa
open Go.RowKit

def lnV (l : Ln) : Array Value := #[.int .i64 l.g, .int .i64 l.s, .bool l.last, .int .i64 l.r.k, .int .i64 l.r.a, .int .i64 l.r.b, .int .i64 l.r.c, .int .i64 l.r.d, .string l.r.key]
structure Ln.ok (l : Ln) : Prop where
  g : I64n l.g
  s : I64n l.s
  r : l.r.ok
/-- A text, as a slice. -/
structure Sec where
  A : Option Addr
  c : Nat
  b : List Int
structure Sec.ok (w : World) (B : Nat) (p : Sec) : Prop where
  ints : Ints w B .u8 p.A p.b
  byte : ∀ z ∈ p.b, 0 ≤ z ∧ z ≤ 255
  le : p.b.length ≤ p.c
  len : p.b.length ≤ 9223372036854775807
/-- A slice of texts. -/
def Secs (w : World) (B : Nat) (A : Option Addr) (ps : List Sec) : Prop :=
  ∀ i, (h : i < ps.length) → ∃ b off, A = some ⟨b, off, none⟩ ∧ b < B ∧ w.cell? ⟨b, off + i, none⟩ = some (.slice ps[i].A ps[i].b.length ps[i].c) ∧ ps[i].ok w B
def secsB (ps : List Sec) : List (List Int) := ps.map Sec.b
theorem secsB_len (ps : List Sec) : (secsB ps).length = ps.length := by simp [secsB]
theorem secsB_at (ps : List Sec) {i : Nat} (h : i < ps.length) : (secsB ps).getD i [] = ps[i].b := by simp [secsB, List.getD, h]
theorem Sec.ok.below {w w' : World} {B : Nat} {p : Sec} (h : p.ok w B) (hb : Below B w w') : p.ok w' B := ⟨h.ints.below hb, h.byte, h.le, h.len⟩
theorem Sec.ok.more {w : World} {B B' : Nat} {p : Sec} (h : p.ok w B) (hB : B ≤ B') : p.ok w B' := ⟨h.ints.more hB, h.byte, h.le, h.len⟩
theorem Secs.below {w w' : World} {B : Nat} {A : Option Addr} {ps : List Sec} (h : Secs w B A ps) (hb : Below B w w') : Secs w' B A ps := fun i hi => by
  obtain ⟨b, off, e, hl, hc, ho⟩ := h i hi
  exact ⟨b, off, e, hl, (hb.cell (p := ⟨b, off + i, none⟩) hl).trans hc, ho.below hb⟩
theorem Secs.more {w : World} {B B' : Nat} {A : Option Addr} {ps : List Sec} (h : Secs w B A ps) (hB : B ≤ B') : Secs w B' A ps := fun i hi => by
  obtain ⟨b, off, e, hl, hc, ho⟩ := h i hi
  exact ⟨b, off, e, by omega, hc, ho.more hB⟩
theorem Secs.take {w : World} {B : Nat} {A : Option Addr} {ps : List Sec} (h : Secs w B A ps) (n : Nat) : Secs w B A (ps.take n) := fun i hi => by
  have hi' : i < ps.length := by rw [List.length_take] at hi; omega
  obtain ⟨b, off, e, hl, hc, ho⟩ := h i hi'
  rw [List.getElem_take]
  exact ⟨b, off, e, hl, hc, ho⟩
/-- A slice of transactions. -/
def TransAt (w : World) (B : Nat) (A : Option Addr) (ts : List (List Rc)) : Prop :=
  ∀ i, (h : i < ts.length) → ∃ b off Ai ci, A = some ⟨b, off, none⟩ ∧ b < B ∧ w.cell? ⟨b, off + i, none⟩ = some (.slice Ai ts[i].length ci) ∧ ts[i].length ≤ ci ∧ RecsAt w B Ai ts[i]
theorem TransAt.below {w w' : World} {B : Nat} {A : Option Addr} {ts : List (List Rc)} (h : TransAt w B A ts) (hb : Below B w w') : TransAt w' B A ts := fun i hi => by
  obtain ⟨b, off, Ai, ci, e, hl, hc, hle, hr⟩ := h i hi
  exact ⟨b, off, Ai, ci, e, hl, (hb.cell (p := ⟨b, _, none⟩) hl).trans hc, hle, hr.below hb⟩
theorem TransAt.more {w : World} {B B' : Nat} {A : Option Addr} {ts : List (List Rc)} (h : TransAt w B A ts) (hB : B ≤ B') : TransAt w B' A ts := fun i hi => by
  obtain ⟨b, off, Ai, ci, e, hl, hc, hle, hr⟩ := h i hi
  exact ⟨b, off, Ai, ci, e, by omega, hc, hle, hr.more hB⟩
theorem TransAt.nil (w : World) (B : Nat) (A : Option Addr) : TransAt w B A [] := fun _ h => absurd h (Nat.not_lt_zero _)
theorem TransAt.take {w : World} {B : Nat} {A : Option Addr} {ts : List (List Rc)} (h : TransAt w B A ts) (n : Nat) : TransAt w B A (ts.take n) := fun i hi => by
  have hi' : i < ts.length := by rw [List.length_take] at hi; omega
  obtain ⟨b, off, Ai, ci, e, hl, hc, hle, hr⟩ := h i hi'
  rw [List.getElem_take]
  exact ⟨b, off, Ai, ci, e, hl, hc, hle, hr⟩
/-- A new slice of bytes that may be written: these. -/
def GotI (w w' : World) (A : Option Addr) (l : List Int) : Prop :=
  ∃ g o, A = some ⟨g, o, none⟩ ∧ w.heap.size ≤ g ∧ g < w'.heap.size ∧ ∀ i, i < l.length → w'.cell? ⟨g, o + i, none⟩ = some (.int .u8 (l.getD i 0)) ∧ w'.frozen? ⟨g, o + i, none⟩ = false
theorem GotI.ints {w w' : World} {A : Option Addr} {l : List Int} (h : GotI w w' A l) : Ints w' w'.heap.size .u8 A l := fun i hi => by
  obtain ⟨g, o, rfl, _, h2, h3⟩ := h
  exact ⟨g, o, rfl, h2, (h3 i hi).1⟩

structure LineSpec (w0 : World) : Prop where
  enc : ∀ (l : Ln) (w : World), Below w0.heap.size w0 w → l.ok → encE l = 0 →
    Calls Try.prog 10 #[.agg (lnV l)] w fun e w' => ∃ A c, e = .returned (.tuple #[.slice A 64 c, .int .i64 0]) ∧ 64 ≤ c ∧ c ≤ 9223372036854775807 ∧ GotI w w' A (encB l) ∧ Below w.heap.size w w'
  encNo : ∀ (l : Ln) (w : World), Below w0.heap.size w0 w → l.ok → encE l ≠ 0 →
    Calls Try.prog 10 #[.agg (lnV l)] w fun e w' => ∃ A c, e = .returned (.tuple #[.slice A 0 c, .int .i64 (encE l)]) ∧ Below w.heap.size w w'
  dec : ∀ (A : Option Addr) (c : Nat) (b : List Int) (w : World), Below w0.heap.size w0 w → Ints w w.heap.size .u8 A b → (∀ z ∈ b, 0 ≤ z ∧ z ≤ 255) → b.length ≤ c → b.length ≤ 9223372036854775807 →
    Calls Try.prog 13 #[.slice A b.length c] w fun e w' => e = .returned (.tuple #[.agg (lnV (decR b).2), .int .i64 (decR b).1]) ∧ Below w.heap.size w w'
  repl : ∀ (A : Option Addr) (c : Nat) (ps : List Sec) (g : Int) (w : World), Below w0.heap.size w0 w → Secs w w.heap.size A ps → ps.length ≤ c → ps.length * 24 ≤ 140737488351232 → I64n g →
    Calls Try.prog 16 #[.slice A ps.length c, .int .i64 g] w fun e w' => ∃ A' c', e = .returned (.slice A' (replR (secsB ps) g).length c') ∧ (replR (secsB ps) g).length ≤ c' ∧ TransAt w' w'.heap.size A' (replR (secsB ps) g) ∧ Below w.heap.size w w'

end Go.Proofs.Ytbfchclfonicmaa
