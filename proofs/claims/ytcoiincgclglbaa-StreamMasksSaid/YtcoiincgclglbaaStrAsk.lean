/-
  What is asked of the layer stream, as properties of its calls.
-/
import Derived.Test.YtcoiincgclglbaaStrNums
import Derived.Test.YtcoiincgclglbaaMacNums
import Derived.Test.YtcoiincgclglbaaArrs
import Derived.Test.YtcoiincgclglbaaChecked
import Derived.Tactics
import Derived.Tactics2
import Derived.LoopTactic
import Derived.OpenShut
import Derived.WalkLawsBesides
import Derived.BigQuiet
import Derived.BigRegion
import Derived.Deep.DeepCutAuto
import Derived.Lib.SlBytesConst
import Derived.Deep.RegionWith
import Derived.Deep.OwnRows
namespace Go.Proofs.Ytcoiincgclglbaa
open Go.RowKit

def counterOf (s v : Int) : List Nat := counterN (eightN s) (eightN v)
structure StrSpec (w0 : World) : Prop where
  apply : ∀ (A0 A1 A2 : Option Addr) (c0 c1 c2 : Nat) (key ctr text : List Nat) (w : World), Below w0.heap.size w0 w → Ints w w.heap.size .u8 A0 (up key) → Ints w w.heap.size .u8 A1 (up ctr) → Ints w w.heap.size .u8 A2 (up text) → (A2 = none → c2 = 0) →
    (∀ x ∈ key, x < 256) → (∀ x ∈ ctr, x < 256) → (∀ x ∈ text, x < 256) → key.length = 16 → ctr.length = 16 → 16 ≤ c0 → 16 ≤ c1 → text.length ≤ c2 → text.length ≤ 1048576 →
    Calls Try.prog 9 #[.slice A0 16 c0, .slice A1 16 c1, .slice A2 text.length c2] w fun e w' => ∃ A c, e = .returned (.tuple #[.slice A text.length c, .int .i64 0]) ∧ text.length ≤ c ∧ (A = none → c = 0) ∧ Ints w' w'.heap.size .u8 A (up (applyN key ctr text)) ∧ Below w.heap.size w w'
  applyArg : ∀ (A0 A1 A2 : Option Addr) (c0 c1 c2 : Nat) (key ctr text : List Nat) (w : World), Below w0.heap.size w0 w → Ints w w.heap.size .u8 A0 (up key) → Ints w w.heap.size .u8 A1 (up ctr) → Ints w w.heap.size .u8 A2 (up text) →
    (∀ x ∈ key, x < 256) → (∀ x ∈ ctr, x < 256) → ¬ (key.length = 16 ∧ ctr.length = 16) → key.length ≤ c0 → ctr.length ≤ c1 → text.length ≤ c2 → key.length ≤ 140737488355328 → ctr.length ≤ 140737488355328 → text.length ≤ 140737488355328 →
    Calls Try.prog 9 #[.slice A0 key.length c0, .slice A1 ctr.length c1, .slice A2 text.length c2] w fun e w' => ∃ A c, e = .returned (.tuple #[.slice A 0 c, .int .i64 1]) ∧ Below w.heap.size w w'
  applyLong : ∀ (A0 A1 A2 : Option Addr) (c0 c1 c2 : Nat) (key ctr text : List Nat) (w : World), Below w0.heap.size w0 w → Ints w w.heap.size .u8 A0 (up key) → Ints w w.heap.size .u8 A1 (up ctr) → Ints w w.heap.size .u8 A2 (up text) →
    (∀ x ∈ key, x < 256) → (∀ x ∈ ctr, x < 256) → key.length = 16 → ctr.length = 16 → 16 ≤ c0 → 16 ≤ c1 → text.length ≤ c2 → 1048576 < text.length → text.length ≤ 140737488355328 →
    Calls Try.prog 9 #[.slice A0 16 c0, .slice A1 16 c1, .slice A2 text.length c2] w fun e w' => ∃ A c, e = .returned (.tuple #[.slice A 0 c, .int .i64 7]) ∧ Below w.heap.size w w'
  counter : ∀ (s v : Int) (w : World), Below w0.heap.size w0 w → -9223372036854775808 ≤ s → s ≤ 9223372036854775807 → -9223372036854775808 ≤ v → v ≤ 9223372036854775807 →
    Calls Try.prog 12 #[.int .i64 s, .int .i64 v] w fun e w' => ∃ g o c, e = .returned (.slice (some ⟨g, o, none⟩) 16 c) ∧ 16 ≤ c ∧ w.heap.size ≤ g ∧ Ints w' w'.heap.size .u8 (some ⟨g, o, none⟩) (up (counterOf s v)) ∧ (∀ i, i < 16 → w'.frozen? ⟨g, o + i, none⟩ = false) ∧ Below w.heap.size w w'
theorem made_zeros {w : World} {base e n : Nat} {v : Value} (h : w.ownsRow base e 1 v n (madeCells (Value.int .u8 0).cells (n * 1)).toList) : w.ownsRow base e 1 v n ((up (List.replicate n 0)).map (Value.int .u8)) := by
  have hm : (madeCells (Value.int .u8 0).cells (n * 1)).toList = (up (List.replicate n 0)).map (Value.int .u8) := by
    rw [Nat.mul_one, show (Value.int .u8 0).cells = #[Value.int .u8 0] from rfl, toList_madeCells_one]
    simp [up]
  rw [← hm]; exact h
theorem Try.infoU8s : (Try.prog.info? 5).map (fun i => (i.zero, i.size, i.bytes)) = some (some (.int .u8 0), 1, 1) := by kernel_rfl
theorem made_ints {w : World} {base e n c : Nat} {A : Option Addr} (h : w.ownsRow base e 1 (.slice A n c) n (madeCells (Value.int .u8 0).cells (n * 1)).toList) : Ints w w.heap.size .u8 A (up (List.replicate n 0)) := by
  have h1 := made_zeros h
  refine Ints.of_own (n := n) (c := c) (base := base) (t := e) ?_
  rw [up_len, List.length_replicate]
  exact h1

end Go.Proofs.Ytcoiincgclglbaa
