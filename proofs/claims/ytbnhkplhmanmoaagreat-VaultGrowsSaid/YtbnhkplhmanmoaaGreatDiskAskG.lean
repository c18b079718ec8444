/-
  What is asked of the layer disk, as properties of its calls. Words for lines in memory: rows of texts, of records, of transactions; what is asked of the layer line, as properties of its calls. Words for tables in memory: rows of tenants, of volumes, a table by value. The document's own Tenant, Volume, Owned (stowageref16).
-/
import Derived.Test.YtbnhkplhmanmoaaGreatDiskNumsG
import Derived.Test.YtbnhkplhmanmoaaGreatVaultHoldG
import Derived.Test.YtbnhkplhmanmoaaGreatChecked
import Derived.Test.YtbnhkplhmanmoaaGreatCrcNumsG
import Derived.Test.YtbnhkplhmanmoaaGreatTableNumsG
import Derived.BigQuiet
namespace Go.Proofs.YtbnhkplhmanmoaaGreat
open Go.RowKit

/-- The slice at address A reads as these flags, each in a block ahead of block B. -/
def Bools (w : World) (B : Nat) (A : Option Addr) (l : List Bool) : Prop :=
  ∀ i, i < l.length → ∃ b off, A = some ⟨b, off, none⟩ ∧ b < B ∧ w.cell? ⟨b, off + i, none⟩ = some (.bool (l.getD i false))
theorem Bools.below {w w' : World} {B : Nat} {A : Option Addr} {l : List Bool} (h : Bools w B A l) (hb : Below B w w') : Bools w' B A l := fun i hi => by
  obtain ⟨b, off, e, hlt, hc⟩ := h i hi
  exact ⟨b, off, e, hlt, (hb.cell (p := ⟨b, off + i, none⟩) hlt).trans hc⟩
theorem Bools.more {w : World} {B B' : Nat} {A : Option Addr} {l : List Bool} (h : Bools w B A l) (hB : B ≤ B') : Bools w B' A l := fun i hi => by
  obtain ⟨b, off, e, hlt, hc⟩ := h i hi
  exact ⟨b, off, e, by omega, hc⟩
theorem Bools.none (w : World) (B : Nat) (A : Option Addr) : Bools w B A [] := fun _ h => absurd h (by simp)
/-- None of it lies in F. -/
def Off (F : Nat → Prop) (A : Option Addr) (n : Nat) : Prop := 0 < n → ∀ b o, A = some ⟨b, o, none⟩ → ¬ F b
/-- A new slice of bytes that may be written: these. -/
def Got (w w' : World) (A : Option Addr) (l : List Nat) : Prop :=
  ∃ g o, A = some ⟨g, o, none⟩ ∧ w.heap.size ≤ g ∧ g < w'.heap.size ∧ ∀ i, i < l.length → w'.cell? ⟨g, o + i, none⟩ = some (.int .u8 (l.getD i 0 : Nat)) ∧ w'.frozen? ⟨g, o + i, none⟩ = false
theorem Got.ints {w w' : World} {A : Option Addr} {l : List Nat} (h : Got w w' A l) : Ints w' w'.heap.size .u8 A (up l) := fun i hi => by
  obtain ⟨g, o, rfl, _, h2, h3⟩ := h
  exact ⟨g, o, rfl, h2, by rw [(h3 i (by rwa [up_len] at hi)).1, up_getD]⟩

structure DiskSpec (w0 : World) (Rep : World → Nat → (Nat → Prop) → Dk → Prop) : Prop where
  keep : ∀ (w w' : World) (p : Nat) (F : Nat → Prop) (s : Dk), Rep w p F s → (∀ b, F b → w'.heap[b]? = w.heap[b]?) → Rep w' p F s
  lt : ∀ (w : World) (p : Nat) (F : Nat → Prop) (s : Dk), Rep w p F s → ∀ b, F b → b < w.heap.size
  ok : ∀ (w : World) (p : Nat) (F : Nat → Prop) (s : Dk), Rep w p F s → s.ok
  no : ∀ (n : Int) (w : World), Below w0.heap.size w0 w → I64c n → n < 1 ∨ 4096 < n → Calls Tryz.prog 7 #[.int .i64 n] w fun e w' => e = .returned (.tuple #[.pointer none, .int .i64 1]) ∧ Below w.heap.size w w'
  new : ∀ (n : Nat) (w : World), Below w0.heap.size w0 w → 1 ≤ n → n ≤ 4096 → Calls Tryz.prog 7 #[.int .i64 (n : Int)] w fun e w' => ∃ (p : Nat) (F : Nat → Prop), e = .returned (.tuple #[.pointer (some ⟨p, 0, none⟩), .int .i64 0]) ∧ Rep w' p F (newD n) ∧ (∀ b, F b → w.heap.size ≤ b) ∧ Below w.heap.size w w'
  read : ∀ (i : Nat) (p : Nat) (F : Nat → Prop) (s : Dk) (w : World), Below w0.heap.size w0 w → Rep w p F s → (∀ b, F b → w0.heap.size ≤ b) → readE s (i : Int) = 0 → Calls Tryz.prog 106 #[.pointer (some ⟨p, 0, none⟩), .int .i64 (i : Int)] w fun e w' => ∃ A c, e = .returned (.tuple #[.slice A 64 c, .int .i64 0]) ∧ 64 ≤ c ∧ Got w w' A (nowD s i) ∧ Below w.heap.size w w'
  readNo : ∀ (n : Int) (p : Nat) (F : Nat → Prop) (s : Dk) (w : World), Below w0.heap.size w0 w → I64c n → Rep w p F s → (∀ b, F b → w0.heap.size ≤ b) → readE s n ≠ 0 → Calls Tryz.prog 106 #[.pointer (some ⟨p, 0, none⟩), .int .i64 n] w fun e w' => ∃ A c, e = .returned (.tuple #[.slice A 0 c, .int .i64 (readE s n)]) ∧ Below w.heap.size w w'
  write : ∀ (n : Int) (A : Option Addr) (c : Nat) (t : List Nat) (p : Nat) (F : Nat → Prop) (s : Dk) (w : World), Below w0.heap.size w0 w → I64c n → Ints w w.heap.size .u8 A (up t) → (∀ y ∈ t, y < 256) → t.length ≤ c → t.length ≤ 140737488355328 → Off F A t.length → s.pend.length ≤ 2147483647 → Rep w p F s → (∀ b, F b → w0.heap.size ≤ b) →
    Calls Tryz.prog 81 #[.pointer (some ⟨p, 0, none⟩), .int .i64 n, .slice A t.length c] w fun e w' => ∃ F', e = .returned (.int .i64 (writeE s n t)) ∧ Rep w' p F' (writeS s n t) ∧ More F F' w.heap.size ∧ Away F w w'
  flush : ∀ (p : Nat) (F : Nat → Prop) (s : Dk) (w : World), Below w0.heap.size w0 w → Rep w p F s → (∀ b, F b → w0.heap.size ≤ b) → Calls Tryz.prog 83 #[.pointer (some ⟨p, 0, none⟩)] w fun e w' => ∃ F', e = .returned (.int .i64 (flushE s)) ∧ Rep w' p F' (flushS s) ∧ More F F' w.heap.size ∧ Away F w w'
  limit : ∀ (n : Int) (p : Nat) (F : Nat → Prop) (s : Dk) (w : World), Below w0.heap.size w0 w → I64c n → Rep w p F s → (∀ b, F b → w0.heap.size ≤ b) → Calls Tryz.prog 12 #[.pointer (some ⟨p, 0, none⟩), .int .i64 n] w fun e w' => ∃ F', e = .returned (.tuple #[]) ∧ Rep w' p F' (limitS s n) ∧ More F F' w.heap.size ∧ Away F w w'
  crash : ∀ (A : Option Addr) (c : Nat) (l : List Bool) (p : Nat) (F : Nat → Prop) (s : Dk) (w : World), Below w0.heap.size w0 w → Bools w w.heap.size A l → l.length ≤ c → l.length ≤ 140737488355328 → Off F A l.length → Rep w p F s → (∀ b, F b → w0.heap.size ≤ b) →
    Calls Tryz.prog 13 #[.pointer (some ⟨p, 0, none⟩), .slice A l.length c] w fun e w' => ∃ F', e = .returned (.tuple #[]) ∧ Rep w' p F' (crashS s l) ∧ More F F' w.heap.size ∧ Away F w w'
  last : ∀ (i : Nat) (p : Nat) (F : Nat → Prop) (s : Dk) (w : World), Below w0.heap.size w0 w → Rep w p F s → (∀ b, F b → w0.heap.size ≤ b) → lastE s (i : Int) = 0 → Calls Tryz.prog 33 #[.pointer (some ⟨p, 0, none⟩), .int .i64 (i : Int)] w fun e w' => ∃ A c, e = .returned (.tuple #[.slice A 64 c, .int .i64 0]) ∧ 64 ≤ c ∧ Got w w' A (s.last.getD i []) ∧ Below w.heap.size w w'
  lastNo : ∀ (n : Int) (p : Nat) (F : Nat → Prop) (s : Dk) (w : World), Below w0.heap.size w0 w → I64c n → Rep w p F s → (∀ b, F b → w0.heap.size ≤ b) → lastE s n ≠ 0 → Calls Tryz.prog 33 #[.pointer (some ⟨p, 0, none⟩), .int .i64 n] w fun e w' => ∃ A c, e = .returned (.tuple #[.slice A 0 c, .int .i64 (lastE s n)]) ∧ Below w.heap.size w w'
  pending : ∀ (p : Nat) (F : Nat → Prop) (s : Dk) (w : World), Below w0.heap.size w0 w → Rep w p F s → (∀ b, F b → w0.heap.size ≤ b) → Calls Tryz.prog 18 #[.pointer (some ⟨p, 0, none⟩)] w fun e w' => e = .returned (.int .i64 (s.pend.length : Int)) ∧ Below w.heap.size w w'
  nread : ∀ (n : Int) (w : World), Below w0.heap.size w0 w → Calls Tryz.prog 106 #[.pointer none, .int .i64 n] w fun e w' => ∃ A c, e = .returned (.tuple #[.slice A 0 c, .int .i64 11]) ∧ Below w.heap.size w w'
  nwrite : ∀ (n : Int) (A : Option Addr) (l c : Nat) (w : World), Below w0.heap.size w0 w → Calls Tryz.prog 81 #[.pointer none, .int .i64 n, .slice A l c] w fun e w' => e = .returned (.int .i64 11) ∧ Below w.heap.size w w'
  nflush : ∀ (w : World), Below w0.heap.size w0 w → Calls Tryz.prog 83 #[.pointer none] w fun e w' => e = .returned (.int .i64 11) ∧ Below w.heap.size w w'
  nlimit : ∀ (n : Int) (w : World), Below w0.heap.size w0 w → Calls Tryz.prog 12 #[.pointer none, .int .i64 n] w fun e w' => e = .returned (.tuple #[]) ∧ Below w.heap.size w w'
  ncrash : ∀ (A : Option Addr) (l c : Nat) (w : World), Below w0.heap.size w0 w → Calls Tryz.prog 13 #[.pointer none, .slice A l c] w fun e w' => e = .returned (.tuple #[]) ∧ Below w.heap.size w w'
  nlast : ∀ (n : Int) (w : World), Below w0.heap.size w0 w → Calls Tryz.prog 33 #[.pointer none, .int .i64 n] w fun e w' => ∃ A c, e = .returned (.tuple #[.slice A 0 c, .int .i64 11]) ∧ Below w.heap.size w w'
  npending : ∀ (w : World), Below w0.heap.size w0 w → Calls Tryz.prog 18 #[.pointer none] w fun e w' => e = .returned (.int .i64 0) ∧ Below w.heap.size w w'

section
variable {w0 : World} {Rep : World → Nat → (Nat → Prop) → Dk → Prop}
theorem DiskSpec.later (HS : DiskSpec w0 Rep) {w w' : World} {p : Nat} {F : Nat → Prop} {s : Dk} (h : Rep w p F s) (hb : Below w.heap.size w w') : Rep w' p F s := HS.keep w w' p F s h (fun b hF => hb.block b (HS.lt w p F s h b hF))

/-- A disk of one's own. -/
def OwnD (Rep : World → Nat → (Nat → Prop) → Dk → Prop) (w W : World) (p : Nat) (s : Dk) : Prop := ∃ F, Rep W p F s ∧ (∀ b, F b → w.heap.size ≤ b) ∧ Below w.heap.size w W
variable {w W : World} {p : Nat} {s : Dk}
theorem OwnD.below (h : OwnD Rep w W p s) : Below w.heap.size w W := h.choose_spec.2.2
theorem OwnD.later (HS : DiskSpec w Rep) {W' : World} (h : OwnD Rep w W p s) (hb : Below W.heap.size W W') : OwnD Rep w W' p s := by
  obtain ⟨F, h1, h2, h3⟩ := h
  exact ⟨F, HS.later h1 hb, h2, chain h3 hb⟩
theorem own_turnD {F F' : Nat → Prop} {W' : World} {s' : Dk} (hF : ∀ b, F b → w.heap.size ≤ b) (hb : Below w.heap.size w W) (hr : Rep W' p F' s') (hm : More F F' W.heap.size) (ha : Away F W W') : OwnD Rep w W' p s' :=
  ⟨F', hr, fun b q => (hm b q).elim (hF b) (fun q => Nat.le_trans hb.size q), ha.below hF hb hb.size⟩
theorem own_newD (HS : DiskSpec w Rep) {n : Nat} (hb : Below w.heap.size w W) (h1 : 1 ≤ n) (h2 : n ≤ 4096) : Calls Tryz.prog 7 #[.int .i64 (n : Int)] W fun e w' => ∃ p, e = .returned (.tuple #[.pointer (some ⟨p, 0, none⟩), .int .i64 0]) ∧ OwnD Rep w w' p (newD n) :=
  (HS.new n W hb h1 h2).mono fun _ _ ⟨p, F, q1, q2, q3, q4⟩ => ⟨p, q1, F, q2, fun b hb' => Nat.le_trans hb.size (q3 b hb'), chain hb q4⟩
end

end Go.Proofs.YtbnhkplhmanmoaaGreat

namespace Go.Proofs.YtbnhkplhmanmoaaGreat
open Go.RowKit

def lnV (l : Ln) : Array Value := #[.int .i64 l.g, .int .i64 l.s, .bool l.last, .int .i64 l.r.k, .int .i64 l.r.a, .int .i64 l.r.b, .int .i64 l.r.c, .int .i64 l.r.d, .string l.r.key]
structure Ln.ok (l : Ln) : Prop where
  g : I64n l.g
  s : I64n l.s
  r : l.r.ok
/-- A text, as a slice. -/
structure LSec where
  A : Option Addr
  c : Nat
  b : List Int
structure LSec.ok (w : World) (B : Nat) (p : LSec) : Prop where
  ints : Ints w B .u8 p.A p.b
  byte : ∀ z ∈ p.b, 0 ≤ z ∧ z ≤ 255
  le : p.b.length ≤ p.c
  len : p.b.length ≤ 9223372036854775807
/-- A slice of texts. -/
def Secs (w : World) (B : Nat) (A : Option Addr) (ps : List LSec) : Prop :=
  ∀ i, (h : i < ps.length) → ∃ b off, A = some ⟨b, off, none⟩ ∧ b < B ∧ w.cell? ⟨b, off + i, none⟩ = some (.slice ps[i].A ps[i].b.length ps[i].c) ∧ ps[i].ok w B
def secsB (ps : List LSec) : List (List Int) := ps.map LSec.b
theorem secsB_len (ps : List LSec) : (secsB ps).length = ps.length := by simp [secsB]
theorem secsB_at (ps : List LSec) {i : Nat} (h : i < ps.length) : (secsB ps).getD i [] = ps[i].b := by simp [secsB, List.getD, h]
theorem LSec.ok.below {w w' : World} {B : Nat} {p : LSec} (h : p.ok w B) (hb : Below B w w') : p.ok w' B := ⟨h.ints.below hb, h.byte, h.le, h.len⟩
theorem LSec.ok.more {w : World} {B B' : Nat} {p : LSec} (h : p.ok w B) (hB : B ≤ B') : p.ok w B' := ⟨h.ints.more hB, h.byte, h.le, h.len⟩
theorem Secs.below {w w' : World} {B : Nat} {A : Option Addr} {ps : List LSec} (h : Secs w B A ps) (hb : Below B w w') : Secs w' B A ps := fun i hi => by
  obtain ⟨b, off, e, hl, hc, ho⟩ := h i hi
  exact ⟨b, off, e, hl, (hb.cell (p := ⟨b, off + i, none⟩) hl).trans hc, ho.below hb⟩
theorem Secs.more {w : World} {B B' : Nat} {A : Option Addr} {ps : List LSec} (h : Secs w B A ps) (hB : B ≤ B') : Secs w B' A ps := fun i hi => by
  obtain ⟨b, off, e, hl, hc, ho⟩ := h i hi
  exact ⟨b, off, e, by omega, hc, ho.more hB⟩
theorem Secs.take {w : World} {B : Nat} {A : Option Addr} {ps : List LSec} (h : Secs w B A ps) (n : Nat) : Secs w B A (ps.take n) := fun i hi => by
  have hi' : i < ps.length := by rw [List.length_take] at hi; omega
  obtain ⟨b, off, e, hl, hc, ho⟩ := h i hi'
  rw [List.getElem_take]
  exact ⟨b, off, e, hl, hc, ho⟩
/-- A slice of transactions. -/
def TransAt (w : World) (B : Nat) (A : Option Addr) (ts : List (List Rc)) : Prop :=
  ∀ i, (h : i < ts.length) → ∃ b off Ai ci, A = some ⟨b, off, none⟩ ∧ b < B ∧ w.cell? ⟨b, off + i, none⟩ = some (.slice Ai ts[i].length ci) ∧ ts[i].length ≤ ci ∧ RecsAt w B Ai ts[i]
theorem TransAt.below {w w' : World} {B : Nat} {A : Option Addr} {ts : List (List Rc)} (h : TransAt w B A ts) (hb : Below B w w') : TransAt w' B A ts := fun i hi => by
  obtain ⟨b, off, Ai, ci, e, hl, hc, hle, hr⟩ := h i hi
  exact ⟨b, off, Ai, ci, e, hl, (hb.cell (p := ⟨b, _, none⟩) hl).trans hc, hle, hr.below hb⟩
theorem TransAt.more {w : World} {B B' : Nat} {A : Option Addr} {ts : List (List Rc)} (h : TransAt w B A ts) (hB : B ≤ B') : TransAt w B' A ts := fun i hi => by
  obtain ⟨b, off, Ai, ci, e, hl, hc, hle, hr⟩ := h i hi
  exact ⟨b, off, Ai, ci, e, by omega, hc, hle, hr.more hB⟩
theorem TransAt.nil (w : World) (B : Nat) (A : Option Addr) : TransAt w B A [] := fun _ h => absurd h (Nat.not_lt_zero _)
theorem TransAt.take {w : World} {B : Nat} {A : Option Addr} {ts : List (List Rc)} (h : TransAt w B A ts) (n : Nat) : TransAt w B A (ts.take n) := fun i hi => by
  have hi' : i < ts.length := by rw [List.length_take] at hi; omega
  obtain ⟨b, off, Ai, ci, e, hl, hc, hle, hr⟩ := h i hi'
  rw [List.getElem_take]
  exact ⟨b, off, Ai, ci, e, hl, hc, hle, hr⟩
/-- A new slice of bytes that may be written: these. -/
def GotI (w w' : World) (A : Option Addr) (l : List Int) : Prop :=
  ∃ g o, A = some ⟨g, o, none⟩ ∧ w.heap.size ≤ g ∧ g < w'.heap.size ∧ ∀ i, i < l.length → w'.cell? ⟨g, o + i, none⟩ = some (.int .u8 (l.getD i 0)) ∧ w'.frozen? ⟨g, o + i, none⟩ = false
theorem GotI.ints {w w' : World} {A : Option Addr} {l : List Int} (h : GotI w w' A l) : Ints w' w'.heap.size .u8 A l := fun i hi => by
  obtain ⟨g, o, rfl, _, h2, h3⟩ := h
  exact ⟨g, o, rfl, h2, (h3 i hi).1⟩

structure LineSpec (w0 : World) : Prop where
  enc : ∀ (l : Ln) (w : World), Below w0.heap.size w0 w → l.ok → encE l = 0 →
    Calls Tryz.prog 80 #[.agg (lnV l)] w fun e w' => ∃ A c, e = .returned (.tuple #[.slice A 64 c, .int .i64 0]) ∧ 64 ≤ c ∧ c ≤ 9223372036854775807 ∧ GotI w w' A (encB l) ∧ Below w.heap.size w w'
  encNo : ∀ (l : Ln) (w : World), Below w0.heap.size w0 w → l.ok → encE l ≠ 0 →
    Calls Tryz.prog 80 #[.agg (lnV l)] w fun e w' => ∃ A c, e = .returned (.tuple #[.slice A 0 c, .int .i64 (encE l)]) ∧ Below w.heap.size w w'
  dec : ∀ (A : Option Addr) (c : Nat) (b : List Int) (w : World), Below w0.heap.size w0 w → Ints w w.heap.size .u8 A b → (∀ z ∈ b, 0 ≤ z ∧ z ≤ 255) → b.length ≤ c → b.length ≤ 9223372036854775807 →
    Calls Tryz.prog 86 #[.slice A b.length c] w fun e w' => e = .returned (.tuple #[.agg (lnV (decR b).2), .int .i64 (decR b).1]) ∧ Below w.heap.size w w'
  repl : ∀ (A : Option Addr) (c : Nat) (ps : List LSec) (g : Int) (w : World), Below w0.heap.size w0 w → Secs w w.heap.size A ps → ps.length ≤ c → ps.length * 24 ≤ 140737488351232 → I64n g →
    Calls Tryz.prog 87 #[.slice A ps.length c, .int .i64 g] w fun e w' => ∃ A' c', e = .returned (.slice A' (replR (secsB ps) g).length c') ∧ (replR (secsB ps) g).length ≤ c' ∧ TransAt w' w'.heap.size A' (replR (secsB ps) g) ∧ Below w.heap.size w w'

end Go.Proofs.YtbnhkplhmanmoaaGreat

namespace Go.Proofs.YtbnhkplhmanmoaaGreat
open Go.RowKit

/-- A slice of tenants. -/
def TensAt (w : World) (B : Nat) (A : Option Addr) (ts : List Ten) : Prop :=
  ∀ k, (h : k < ts.length) → ∃ b off, A = some ⟨b, off, none⟩ ∧ b < B ∧ w.cell? ⟨b, off + k * 6, none⟩ = some (.int .i64 ts[k].id) ∧ w.cell? ⟨b, off + k * 6 + 1, none⟩ = some (.int .i64 ts[k].quota) ∧ w.cell? ⟨b, off + k * 6 + 2, none⟩ = some (.int .i64 ts[k].rate) ∧
    w.cell? ⟨b, off + k * 6 + 3, none⟩ = some (.int .i64 ts[k].burst) ∧ w.cell? ⟨b, off + k * 6 + 4, none⟩ = some (.string ts[k].key) ∧ w.cell? ⟨b, off + k * 6 + 5, none⟩ = some (.bool ts[k].dying)
/-- A slice of volumes. -/
def VolsAt (w : World) (B : Nat) (A : Option Addr) (vs : List Vol) : Prop :=
  ∀ k, (h : k < vs.length) → ∃ b off, A = some ⟨b, off, none⟩ ∧ b < B ∧ w.cell? ⟨b, off + k * 4, none⟩ = some (.int .i64 vs[k].id) ∧ w.cell? ⟨b, off + k * 4 + 1, none⟩ = some (.int .i64 vs[k].ten) ∧ w.cell? ⟨b, off + k * 4 + 2, none⟩ = some (.int .i64 vs[k].blocks) ∧ w.cell? ⟨b, off + k * 4 + 3, none⟩ = some (.int .i64 vs[k].base)
section
variable {w w' : World} {B B' : Nat} {A : Option Addr} {ts : List Ten} {vs : List Vol}
theorem TensAt.below (h : TensAt w B A ts) (hb : Below B w w') : TensAt w' B A ts := fun k hk => by
  obtain ⟨b, off, e, hl, c0, c1, c2, c3, c4, c5⟩ := h k hk
  exact ⟨b, off, e, hl, (hb.cell (p := ⟨b, _, none⟩) hl).trans c0, (hb.cell (p := ⟨b, _, none⟩) hl).trans c1, (hb.cell (p := ⟨b, _, none⟩) hl).trans c2, (hb.cell (p := ⟨b, _, none⟩) hl).trans c3, (hb.cell (p := ⟨b, _, none⟩) hl).trans c4, (hb.cell (p := ⟨b, _, none⟩) hl).trans c5⟩
theorem TensAt.more (h : TensAt w B A ts) (hB : B ≤ B') : TensAt w B' A ts := fun k hk => by
  obtain ⟨b, off, e, hl, h'⟩ := h k hk
  exact ⟨b, off, e, by omega, h'⟩
theorem TensAt.nil (w : World) (B : Nat) (A : Option Addr) : TensAt w B A [] := fun _ h => absurd h (Nat.not_lt_zero _)
theorem VolsAt.below (h : VolsAt w B A vs) (hb : Below B w w') : VolsAt w' B A vs := fun k hk => by
  obtain ⟨b, off, e, hl, c0, c1, c2, c3⟩ := h k hk
  exact ⟨b, off, e, hl, (hb.cell (p := ⟨b, _, none⟩) hl).trans c0, (hb.cell (p := ⟨b, _, none⟩) hl).trans c1, (hb.cell (p := ⟨b, _, none⟩) hl).trans c2, (hb.cell (p := ⟨b, _, none⟩) hl).trans c3⟩
theorem VolsAt.more (h : VolsAt w B A vs) (hB : B ≤ B') : VolsAt w B' A vs := fun k hk => by
  obtain ⟨b, off, e, hl, h'⟩ := h k hk
  exact ⟨b, off, e, by omega, h'⟩
theorem VolsAt.nil (w : World) (B : Nat) (A : Option Addr) : VolsAt w B A [] := fun _ h => absurd h (Nat.not_lt_zero _)
end
/-- Where a table's parts lie. -/
structure TabW where
  A1 : Option Addr
  c1 : Nat
  A2 : Option Addr
  c2 : Nat
  A3 : Option Addr
  c3 : Nat
/-- A table by value. -/
def tabV (V : TabW) (t : Tab) : Array Value := #[.slice V.A1 t.ts.length V.c1, .slice V.A2 t.vs.length V.c2, .slice V.A3 t.os.length V.c3]
structure Ten.ok (x : Ten) : Prop where
  id : I64n x.id
  quota : I64n x.quota
  rate : I64n x.rate
  burst : I64n x.burst
  key : x.key.size ≤ 9223372036854775807
structure Vol.ok (x : Vol) : Prop where
  id : I64n x.id
  ten : I64n x.ten
  blocks : I64n x.blocks
  base : I64n x.base
/-- A table that may be any: its numbers are numbers of 64 bits. -/
structure Tab.ok (t : Tab) : Prop where
  ts : ∀ x ∈ t.ts, x.ok
  vs : ∀ x ∈ t.vs, x.ok
  os : ∀ x ∈ t.os, I64n x
  nt : t.ts.length ≤ 9223372036854775807
  nv : t.vs.length ≤ 9223372036854775807
  no : t.os.length ≤ 9223372036854775807
structure TabAt (w : World) (B : Nat) (V : TabW) (t : Tab) : Prop where
  ts : TensAt w B V.A1 t.ts
  vs : VolsAt w B V.A2 t.vs
  os : Ints w B .i64 V.A3 t.os
  l1 : t.ts.length ≤ V.c1
  l2 : t.vs.length ≤ V.c2
  l3 : t.os.length ≤ V.c3
theorem TabAt.below {w w' : World} {B : Nat} {V : TabW} {t : Tab} (h : TabAt w B V t) (hb : Below B w w') : TabAt w' B V t := ⟨h.ts.below hb, h.vs.below hb, h.os.below hb, h.l1, h.l2, h.l3⟩
theorem TabAt.more {w : World} {B B' : Nat} {V : TabW} {t : Tab} (h : TabAt w B V t) (hB : B ≤ B') : TabAt w B' V t := ⟨h.ts.more hB, h.vs.more hB, h.os.more hB, h.l1, h.l2, h.l3⟩

/-- Where a tenant is, as an index; -1: nowhere. -/
def tenI (ts : List Ten) (id : Int) : Int := if ts.findIdx (fun x => decide (x.id = id)) < ts.length then (ts.findIdx fun x => decide (x.id = id) : Nat) else -1
def volI (vs : List Vol) (id : Int) : Int := if vs.findIdx (fun x => decide (x.id = id)) < vs.length then (vs.findIdx fun x => decide (x.id = id) : Nat) else -1
theorem findIdx_at {α : Type} {p : α → Bool} {l : List α} {k : Nat} (hk : k < l.length) (hp : p l[k] = true) (hlt : ∀ j, (h : j < k) → p (l[j]'(by omega)) = false) : l.findIdx p = k := by
  rw [List.findIdx_eq hk]
  exact ⟨hp, fun j hj => hlt j hj⟩
theorem findIdx_no {α : Type} {p : α → Bool} {l : List α} (h : ∀ j, (h : j < l.length) → p l[j] = false) : ¬ l.findIdx p < l.length := fun hlt => by
  have h1 := List.findIdx_getElem (w := hlt)
  rw [h _ hlt] at h1
  cases h1
theorem tenI_at {ts : List Ten} {id : Int} {k : Nat} (hk : k < ts.length) (he : ts[k].id = id) (hlt : ∀ j, (h : j < ts.length) → j < k → ts[j].id ≠ id) : tenI ts id = k := by
  have e := findIdx_at (p := fun x : Ten => decide (x.id = id)) hk (decide_eq_true he) fun j hj => decide_eq_false (hlt j (by omega) hj)
  unfold tenI
  rw [e, if_pos hk]
theorem tenI_no {ts : List Ten} {id : Int} (h : ∀ j, (h : j < ts.length) → ts[j].id ≠ id) : tenI ts id = -1 := by
  have e := findIdx_no (p := fun x : Ten => decide (x.id = id)) (l := ts) fun j hj => decide_eq_false (h j hj)
  unfold tenI
  rw [if_neg e]
theorem volI_at {ts : List Vol} {id : Int} {k : Nat} (hk : k < ts.length) (he : ts[k].id = id) (hlt : ∀ j, (h : j < ts.length) → j < k → ts[j].id ≠ id) : volI ts id = k := by
  have e := findIdx_at (p := fun x : Vol => decide (x.id = id)) hk (decide_eq_true he) fun j hj => decide_eq_false (hlt j (by omega) hj)
  unfold volI
  rw [e, if_pos hk]
theorem volI_no {ts : List Vol} {id : Int} (h : ∀ j, (h : j < ts.length) → ts[j].id ≠ id) : volI ts id = -1 := by
  have e := findIdx_no (p := fun x : Vol => decide (x.id = id)) (l := ts) fun j hj => decide_eq_false (h j hj)
  unfold volI
  rw [if_neg e]

end Go.Proofs.YtbnhkplhmanmoaaGreat

namespace Go.Proofs.YtbnhkplhmanmoaaGreat
open Go.RowKit

/-- A table laid in a box of its own, and what it holds. -/
theorem box_facts (w : World) (x y z : Value) (T : TypeId) : (w.alloc (.cells #[x, y, z] T)).cell? ⟨w.heap.size, 0, none⟩ = some x ∧ (w.alloc (.cells #[x, y, z] T)).cell? ⟨w.heap.size, 1, none⟩ = some y ∧ (w.alloc (.cells #[x, y, z] T)).cell? ⟨w.heap.size, 2, none⟩ = some z ∧ Below w.heap.size w (w.alloc (.cells #[x, y, z] T)) := by
  have h := heap_alloc_new w (.cells #[x, y, z] T)
  exact ⟨by rw [cell_of_row _ _ _ _ _ _ h]; rfl, by rw [cell_of_row _ _ _ _ _ _ h]; rfl, by rw [cell_of_row _ _ _ _ _ _ h]; rfl, (Below.refl _ _).alloc (Nat.le_refl _) _⟩

set_option maxHeartbeats 1600000 in
set_option maxRecDepth 20000 in
/-- 'Tenant'. -/
theorem refTen_any (V : TabW) (t : Tab) (id : Int) (w : World) (h : TabAt w w.heap.size V t) (hm : t.ts.length ≤ 9223372036854775807) :
    Calls Tryz.prog 46 #[.agg (tabV V t), .int .i64 id] w fun e w' => e = .returned (.int .i64 (tenI t.ts id)) ∧ Below w.heap.size w w' := by
  obtain ⟨F0, F1, F2, hb0⟩ := box_facts w (.slice V.A1 t.ts.length V.c1) (.slice V.A2 t.vs.length V.c2) (.slice V.A3 t.os.length V.c3) 35
  have HT := Lib.hid (h.ts.below hb0)
  have hle := h.l1
  obtain ⟨ts, vs, os⟩ := t
  obtain ⟨A1, c1, A2, c2, A3, c3⟩ := V
  simp only [tabV] at F0 F1 F2 hb0 HT hle hm ⊢
  obtain ⟨N, hN⟩ : ∃ N, N = ts.length := ⟨_, rfl⟩
  obtain ⟨N2, hN2⟩ : ∃ N, N = vs.length := ⟨_, rfl⟩
  obtain ⟨N3, hN3⟩ : ∃ N, N = os.length := ⟨_, rfl⟩
  rw [← hN, ← hN2, ← hN3] at F0 F1 F2 hb0 ⊢
  rw [← hN] at hm hle
  simp only [← hN, ← hN2, ← hN3] at HT
  have HN := Lib.hid hN
  obtain ⟨W0, hW0⟩ : ∃ W, W = w.alloc (.cells #[.slice A1 N c1, .slice A2 N2 c2, .slice A3 N3 c3] 35) := ⟨_, rfl⟩
  have HW := Lib.hid hW0
  rw [← hW0] at F0 F1 F2 hb0 HT
  clear h hN hN2 hN3
  go_enter Tryz.func46, Tryz.ntmps46
  go_wp2
  rw [← hW0]
  clear hW0
  go_loopw [5] (fun i wr => ∃ k : Nat, k ≤ N ∧ i = .int .i64 k ∧ Hid (∀ j, (h : j < ts.length) → j < k → ts[j].id ≠ id) ∧ wr = W0) (fun i _ => N - (intOf i).toNat)
  case atStart => exact ⟨0, Nat.zero_le _, rfl, fun j _ hj => absurd hj (Nat.not_lt_zero j), rfl⟩
  case round =>
    obtain ⟨k, hk, rfl, hall, rfl⟩ := hrel
    have k0 : (0 : Int) ≤ (k : Int) := by omega
    by_cases hlt : k < N
    · have hkx : k < ts.length := by have := HN.out; omega
      have k1 : (k : Int) < (N : Int) := by omega
      obtain ⟨b, off, rfl, _, q0, _⟩ := HT.out k hkx
      by_cases he : ts[k].id = id
      · have HE := Lib.hid (tenI_at hkx he hall.out)
        obtain ⟨p, hp⟩ : ∃ p, p = ts[k].id := ⟨_, rfl⟩
        rw [← hp] at q0 he
        have d : (p == id) = true := beq_iff_eq.2 he
        clear hp he
        go_wp2
        go_ret
        exact ⟨by rw [HE.out]; rfl, hb0⟩
      · have HYES : Hid (∀ j, (h : j < ts.length) → j < k + 1 → ts[j].id ≠ id) := fun j hj hj2 => by
          rcases Nat.lt_or_ge j k with g | g
          · exact hall.out j hj g
          · have : j = k := by omega
            subst this; exact he
        obtain ⟨p, hp⟩ : ∃ p, p = ts[k].id := ⟨_, rfl⟩
        rw [← hp] at q0 he
        have d : (p == id) = false := beq_eq_false_iff_ne.2 he
        clear hp he
        go_wp2
        go_roundw
        case rel => exact ⟨k + 1, by omega, by go_num, HYES, by first | rfl | trivial⟩
        case measure => first | (simp [intOf]; done) | (simp [intOf]; omega)
    · have hkN : k = N := by omega
      have HE : Hid (tenI ts id = -1) := tenI_no fun j hj => hall.out j hj (by have := HN.out; omega)
      have k1 : ¬ (k : Int) < (N : Int) := by omega
      clear hkN
      go_wp2
      go_ret
      exact ⟨by rw [HE.out]; rfl, hb0⟩

end Go.Proofs.YtbnhkplhmanmoaaGreat
