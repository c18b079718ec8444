/-
  What is asked of the layer disk, as properties of its calls.
-/
import Derived.Test.YtnbgnllkikajpaaDiskNums
import Derived.Test.YtnbgnllkikajpaaAway
import Derived.Test.YtnbgnllkikajpaaChecked
namespace Go.Proofs.Ytnbgnllkikajpaa
open Go.RowKit

/-- The slice at address A reads as these flags, each in a block ahead of block B. -/
def Bools (w : World) (B : Nat) (A : Option Addr) (l : List Bool) : Prop :=
  ∀ i, i < l.length → ∃ b off, A = some ⟨b, off, none⟩ ∧ b < B ∧ w.cell? ⟨b, off + i, none⟩ = some (.bool (l.getD i false))
theorem Bools.below {w w' : World} {B : Nat} {A : Option Addr} {l : List Bool} (h : Bools w B A l) (hb : Below B w w') : Bools w' B A l := fun i hi => by
  obtain ⟨b, off, e, hlt, hc⟩ := h i hi
  exact ⟨b, off, e, hlt, (hb.cell (p := ⟨b, off + i, none⟩) hlt).trans hc⟩
theorem Bools.more {w : World} {B B' : Nat} {A : Option Addr} {l : List Bool} (h : Bools w B A l) (hB : B ≤ B') : Bools w B' A l := fun i hi => by
  obtain ⟨b, off, e, hlt, hc⟩ := h i hi
  exact ⟨b, off, e, by omega, hc⟩
theorem Bools.none (w : World) (B : Nat) (A : Option Addr) : Bools w B A [] := fun _ h => absurd h (by simp)
/-- None of it lies in F. -/
def Off (F : Nat → Prop) (A : Option Addr) (n : Nat) : Prop := 0 < n → ∀ b o, A = some ⟨b, o, none⟩ → ¬ F b
/-- A new slice of bytes that may be written: these. -/
def Got (w w' : World) (A : Option Addr) (l : List Nat) : Prop :=
  ∃ g o, A = some ⟨g, o, none⟩ ∧ w.heap.size ≤ g ∧ g < w'.heap.size ∧ ∀ i, i < l.length → w'.cell? ⟨g, o + i, none⟩ = some (.int .u8 (l.getD i 0 : Nat)) ∧ w'.frozen? ⟨g, o + i, none⟩ = false
theorem Got.ints {w w' : World} {A : Option Addr} {l : List Nat} (h : Got w w' A l) : Ints w' w'.heap.size .u8 A (up l) := fun i hi => by
  obtain ⟨g, o, rfl, _, h2, h3⟩ := h
  exact ⟨g, o, rfl, h2, by rw [(h3 i (by rwa [up_len] at hi)).1, up_getD]⟩

structure DiskSpec (w0 : World) (Rep : World → Nat → (Nat → Prop) → Dk → Prop) : Prop where
  keep : ∀ (w w' : World) (p : Nat) (F : Nat → Prop) (s : Dk), Rep w p F s → (∀ b, F b → w'.heap[b]? = w.heap[b]?) → Rep w' p F s
  lt : ∀ (w : World) (p : Nat) (F : Nat → Prop) (s : Dk), Rep w p F s → ∀ b, F b → b < w.heap.size
  ok : ∀ (w : World) (p : Nat) (F : Nat → Prop) (s : Dk), Rep w p F s → s.ok
  no : ∀ (n : Int) (w : World), Below w0.heap.size w0 w → I64c n → n < 1 ∨ 4096 < n → Calls Try.prog 9 #[.int .i64 n] w fun e w' => e = .returned (.tuple #[.pointer none, .int .i64 1]) ∧ Below w.heap.size w w'
  new : ∀ (n : Nat) (w : World), Below w0.heap.size w0 w → 1 ≤ n → n ≤ 4096 → Calls Try.prog 9 #[.int .i64 (n : Int)] w fun e w' => ∃ (p : Nat) (F : Nat → Prop), e = .returned (.tuple #[.pointer (some ⟨p, 0, none⟩), .int .i64 0]) ∧ Rep w' p F (newD n) ∧ (∀ b, F b → w.heap.size ≤ b) ∧ Below w.heap.size w w'
  read : ∀ (i : Nat) (p : Nat) (F : Nat → Prop) (s : Dk) (w : World), Below w0.heap.size w0 w → Rep w p F s → (∀ b, F b → w0.heap.size ≤ b) → readE s (i : Int) = 0 → Calls Try.prog 14 #[.pointer (some ⟨p, 0, none⟩), .int .i64 (i : Int)] w fun e w' => ∃ A c, e = .returned (.tuple #[.slice A 64 c, .int .i64 0]) ∧ 64 ≤ c ∧ Got w w' A (nowD s i) ∧ Below w.heap.size w w'
  readNo : ∀ (n : Int) (p : Nat) (F : Nat → Prop) (s : Dk) (w : World), Below w0.heap.size w0 w → I64c n → Rep w p F s → (∀ b, F b → w0.heap.size ≤ b) → readE s n ≠ 0 → Calls Try.prog 14 #[.pointer (some ⟨p, 0, none⟩), .int .i64 n] w fun e w' => ∃ A c, e = .returned (.tuple #[.slice A 0 c, .int .i64 (readE s n)]) ∧ Below w.heap.size w w'
  write : ∀ (n : Int) (A : Option Addr) (c : Nat) (t : List Nat) (p : Nat) (F : Nat → Prop) (s : Dk) (w : World), Below w0.heap.size w0 w → I64c n → Ints w w.heap.size .u8 A (up t) → (∀ y ∈ t, y < 256) → t.length ≤ c → t.length ≤ 140737488355328 → Off F A t.length → s.pend.length ≤ 2147483647 → Rep w p F s → (∀ b, F b → w0.heap.size ≤ b) →
    Calls Try.prog 12 #[.pointer (some ⟨p, 0, none⟩), .int .i64 n, .slice A t.length c] w fun e w' => ∃ F', e = .returned (.int .i64 (writeE s n t)) ∧ Rep w' p F' (writeS s n t) ∧ More F F' w.heap.size ∧ Away F w w'
  flush : ∀ (p : Nat) (F : Nat → Prop) (s : Dk) (w : World), Below w0.heap.size w0 w → Rep w p F s → (∀ b, F b → w0.heap.size ≤ b) → Calls Try.prog 16 #[.pointer (some ⟨p, 0, none⟩)] w fun e w' => ∃ F', e = .returned (.int .i64 (flushE s)) ∧ Rep w' p F' (flushS s) ∧ More F F' w.heap.size ∧ Away F w w'
  limit : ∀ (n : Int) (p : Nat) (F : Nat → Prop) (s : Dk) (w : World), Below w0.heap.size w0 w → I64c n → Rep w p F s → (∀ b, F b → w0.heap.size ≤ b) → Calls Try.prog 18 #[.pointer (some ⟨p, 0, none⟩), .int .i64 n] w fun e w' => ∃ F', e = .returned (.tuple #[]) ∧ Rep w' p F' (limitS s n) ∧ More F F' w.heap.size ∧ Away F w w'
  crash : ∀ (A : Option Addr) (c : Nat) (l : List Bool) (p : Nat) (F : Nat → Prop) (s : Dk) (w : World), Below w0.heap.size w0 w → Bools w w.heap.size A l → l.length ≤ c → l.length ≤ 140737488355328 → Off F A l.length → Rep w p F s → (∀ b, F b → w0.heap.size ≤ b) →
    Calls Try.prog 19 #[.pointer (some ⟨p, 0, none⟩), .slice A l.length c] w fun e w' => ∃ F', e = .returned (.tuple #[]) ∧ Rep w' p F' (crashS s l) ∧ More F F' w.heap.size ∧ Away F w w'
  last : ∀ (i : Nat) (p : Nat) (F : Nat → Prop) (s : Dk) (w : World), Below w0.heap.size w0 w → Rep w p F s → (∀ b, F b → w0.heap.size ≤ b) → lastE s (i : Int) = 0 → Calls Try.prog 21 #[.pointer (some ⟨p, 0, none⟩), .int .i64 (i : Int)] w fun e w' => ∃ A c, e = .returned (.tuple #[.slice A 64 c, .int .i64 0]) ∧ 64 ≤ c ∧ Got w w' A (s.last.getD i []) ∧ Below w.heap.size w w'
  lastNo : ∀ (n : Int) (p : Nat) (F : Nat → Prop) (s : Dk) (w : World), Below w0.heap.size w0 w → I64c n → Rep w p F s → (∀ b, F b → w0.heap.size ≤ b) → lastE s n ≠ 0 → Calls Try.prog 21 #[.pointer (some ⟨p, 0, none⟩), .int .i64 n] w fun e w' => ∃ A c, e = .returned (.tuple #[.slice A 0 c, .int .i64 (lastE s n)]) ∧ Below w.heap.size w w'
  pending : ∀ (p : Nat) (F : Nat → Prop) (s : Dk) (w : World), Below w0.heap.size w0 w → Rep w p F s → (∀ b, F b → w0.heap.size ≤ b) → Calls Try.prog 22 #[.pointer (some ⟨p, 0, none⟩)] w fun e w' => e = .returned (.int .i64 (s.pend.length : Int)) ∧ Below w.heap.size w w'
  nread : ∀ (n : Int) (w : World), Below w0.heap.size w0 w → Calls Try.prog 14 #[.pointer none, .int .i64 n] w fun e w' => ∃ A c, e = .returned (.tuple #[.slice A 0 c, .int .i64 11]) ∧ Below w.heap.size w w'
  nwrite : ∀ (n : Int) (A : Option Addr) (l c : Nat) (w : World), Below w0.heap.size w0 w → Calls Try.prog 12 #[.pointer none, .int .i64 n, .slice A l c] w fun e w' => e = .returned (.int .i64 11) ∧ Below w.heap.size w w'
  nflush : ∀ (w : World), Below w0.heap.size w0 w → Calls Try.prog 16 #[.pointer none] w fun e w' => e = .returned (.int .i64 11) ∧ Below w.heap.size w w'
  nlimit : ∀ (n : Int) (w : World), Below w0.heap.size w0 w → Calls Try.prog 18 #[.pointer none, .int .i64 n] w fun e w' => e = .returned (.tuple #[]) ∧ Below w.heap.size w w'
  ncrash : ∀ (A : Option Addr) (l c : Nat) (w : World), Below w0.heap.size w0 w → Calls Try.prog 19 #[.pointer none, .slice A l c] w fun e w' => e = .returned (.tuple #[]) ∧ Below w.heap.size w w'
  nlast : ∀ (n : Int) (w : World), Below w0.heap.size w0 w → Calls Try.prog 21 #[.pointer none, .int .i64 n] w fun e w' => ∃ A c, e = .returned (.tuple #[.slice A 0 c, .int .i64 11]) ∧ Below w.heap.size w w'
  npending : ∀ (w : World), Below w0.heap.size w0 w → Calls Try.prog 22 #[.pointer none] w fun e w' => e = .returned (.int .i64 0) ∧ Below w.heap.size w w'

section
variable {w0 : World} {Rep : World → Nat → (Nat → Prop) → Dk → Prop}
theorem DiskSpec.later (HS : DiskSpec w0 Rep) {w w' : World} {p : Nat} {F : Nat → Prop} {s : Dk} (h : Rep w p F s) (hb : Below w.heap.size w w') : Rep w' p F s := HS.keep w w' p F s h (fun b hF => hb.block b (HS.lt w p F s h b hF))

/-- A disk of one's own. -/
def OwnD (Rep : World → Nat → (Nat → Prop) → Dk → Prop) (w W : World) (p : Nat) (s : Dk) : Prop := ∃ F, Rep W p F s ∧ (∀ b, F b → w.heap.size ≤ b) ∧ Below w.heap.size w W
variable {w W : World} {p : Nat} {s : Dk}
theorem OwnD.below (h : OwnD Rep w W p s) : Below w.heap.size w W := h.choose_spec.2.2
theorem OwnD.later (HS : DiskSpec w Rep) {W' : World} (h : OwnD Rep w W p s) (hb : Below W.heap.size W W') : OwnD Rep w W' p s := by
  obtain ⟨F, h1, h2, h3⟩ := h
  exact ⟨F, HS.later h1 hb, h2, chain h3 hb⟩
theorem own_turn {F F' : Nat → Prop} {W' : World} {s' : Dk} (hF : ∀ b, F b → w.heap.size ≤ b) (hb : Below w.heap.size w W) (hr : Rep W' p F' s') (hm : More F F' W.heap.size) (ha : Away F W W') : OwnD Rep w W' p s' :=
  ⟨F', hr, fun b q => (hm b q).elim (hF b) (fun q => Nat.le_trans hb.size q), ha.below hF hb hb.size⟩
theorem own_newD (HS : DiskSpec w Rep) {n : Nat} (hb : Below w.heap.size w W) (h1 : 1 ≤ n) (h2 : n ≤ 4096) : Calls Try.prog 9 #[.int .i64 (n : Int)] W fun e w' => ∃ p, e = .returned (.tuple #[.pointer (some ⟨p, 0, none⟩), .int .i64 0]) ∧ OwnD Rep w w' p (newD n) :=
  (HS.new n W hb h1 h2).mono fun _ _ ⟨p, F, q1, q2, q3, q4⟩ => ⟨p, q1, F, q2, fun b hb' => Nat.le_trans hb.size (q3 b hb'), chain hb q4⟩
end

end Go.Proofs.Ytnbgnllkikajpaa
