/-
  What is asked of the layer sha, as properties of its calls: the digest of bytes; a hash that takes bytes in parts, whatever it keeps, and wherever: a property R of a world, of the blocks that are the hash's own, of its address and of what it took. Asked in worlds that come out of a world w0: what stood there stands. What is asked of the document's digest.
-/
import Derived.Test.YtocnbhefjhammaaDoorArrs
import Derived.Test.YtocnbhefjhammaaDoorShaNums
import Derived.Test.YtocnbhefjhammaaDoorChecked
import Derived.Tactics
import Derived.Tactics2
import Derived.LoopTactic
import Derived.OpenShut
import Derived.WalkLawsBesides
import Derived.BigQuiet
import Derived.BigRegion
import Derived.Deep.RegionHeld3
import Derived.Deep.DeepCutAuto
namespace Go.Proofs.YtocnbhefjhammaaDoor
open Go.RowKit

def DigestSpec (w0 : World) : Prop := ∀ (A : Option Addr) (c : Nat) (b : List Nat) (w : World), Below w0.heap.size w0 w → Ints w w.heap.size .u8 A (up b) → (A = none → c = 0) → (∀ x ∈ b, x < 256) → b.length ≤ c → b.length ≤ 140737488355000 →
  Calls Tryd.prog 14 #[.slice A b.length c] w fun e w' => e = .returned (.agg (BA (digestN b))) ∧ Below w.heap.size w w'

def RefSpec : Prop := ∀ (A0 : Option Addr) (c0 : Nat) (b : List Nat) (w : World), Ints w w.heap.size .u8 A0 (up b) → (A0 = none → c0 = 0) → (∀ x ∈ b, x < 256) → b.length ≤ 140737488355000 →
  Calls Tryd.prog 18 #[.slice A0 b.length c0] w fun e w' => ∃ A c, e = .returned (.slice A 32 c) ∧ 32 ≤ c ∧ Ints w' w'.heap.size .u8 A (up (digestN b)) ∧ Below w.heap.size w w'

theorem digest_len (b : List Nat) : (digestN b).length = 32 := rfl
def zero32 : Array Value := BA (List.replicate 32 0)
/-- All blocks that were there, and are not F's, are as they were. -/
structure Off (F : Nat → Prop) (w w' : World) : Prop where
  os : w'.os = w.os
  tape : w'.tape = w.tape
  output : w'.output = w.output
  size : w.heap.size ≤ w'.heap.size
  block : ∀ k, k < w.heap.size → ¬ F k → w'.heap[k]? = w.heap[k]?
theorem Off.below {F : Nat → Prop} {w0 w w' : World} (h : Off F w w') (hb : Below w0.heap.size w0 w) (hF : ∀ k, F k → w0.heap.size ≤ k) : Below w0.heap.size w0 w' :=
  hb.trans ⟨h.os, h.tape, h.output, h.size, fun k hk => h.block k (Nat.lt_of_lt_of_le hk hb.size) fun hf => by have := hF k hf; omega⟩

theorem Tryd.infoU8' : (Tryd.prog.info? 5).map (fun i => (i.zero, i.size, i.bytes)) = some (some (.int .u8 0), 1, 1) := by kernel_rfl

structure HashSpec (w0 : World) (R : World → (Nat → Prop) → Addr → List Nat → Prop) : Prop where
  new : ∀ w, Below w0.heap.size w0 w → Calls Tryd.prog 22 #[] w fun e w' => ∃ a F, e = .returned (.pointer (some a)) ∧ R w' F a [] ∧ (∀ k, F k → w.heap.size ≤ k ∧ k < w'.heap.size) ∧ Below w.heap.size w w'
  write : ∀ (w : World) (F : Nat → Prop) (a : Addr) (t : List Nat) (A : Option Addr) (c B : Nat) (b : List Nat), Below w0.heap.size w0 w → R w F a t → (∀ k, F k → B ≤ k ∧ k < w.heap.size) → B ≤ w.heap.size → Ints w B .u8 A (up b) → (A = none → c = 0) →
    (∀ x ∈ b, x < 256) → b.length ≤ c → t.length + b.length ≤ 140737488355000 →
    Calls Tryd.prog 23 #[.pointer (some a), .slice A b.length c] w fun e w' => e = .returned (.tuple #[]) ∧ ∃ F', R w' F' a (t ++ b) ∧ (∀ k, F' k → (F k ∨ w.heap.size ≤ k) ∧ k < w'.heap.size) ∧ Off F w w'
  sum : ∀ (w : World) (F : Nat → Prop) (a : Addr) (t : List Nat), Below w0.heap.size w0 w → R w F a t → (∀ k, F k → k < w.heap.size) → (∀ x ∈ t, x < 256) → t.length ≤ 140737488355000 →
    Calls Tryd.prog 24 #[.pointer (some a)] w fun e w' => e = .returned (.agg (BA (digestN t))) ∧ ∃ F', R w' F' a t ∧ (∀ k, F' k → (F k ∨ w.heap.size ≤ k) ∧ k < w'.heap.size) ∧ Off F w w'
  keep : ∀ (w w' : World) (F : Nat → Prop) (a : Addr) (t : List Nat), R w F a t → (∀ k, F k → w'.heap[k]? = w.heap[k]?) → R w' F a t
  nilWrite : ∀ (w : World) (A : Option Addr) (n c : Nat), Calls Tryd.prog 23 #[.pointer none, .slice A n c] w fun e w' => e = .returned (.tuple #[]) ∧ Below w.heap.size w w'
  nilSum : ∀ (w : World), Calls Tryd.prog 24 #[.pointer none] w fun e w' => e = .returned (.agg zero32) ∧ Below w.heap.size w w'

end Go.Proofs.YtocnbhefjhammaaDoor
