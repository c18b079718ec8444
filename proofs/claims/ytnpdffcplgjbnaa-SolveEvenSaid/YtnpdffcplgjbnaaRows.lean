/-
  No cell of these rows narrows 'for every input' (looked for: loops, veiled, ifaces, maps, wideKeys, modest, calm, conditions, laid).
  DERIVED. THE GIVEN ROWS OF THIS SEAT. 6 by the template 'for every input the law returns true; each argument reads behind the call as it read before'; 0 by the template 'total and deterministic' (their statements: YtnpdffcplgjbnaaTotals.lean).
  GIVEN WITH THE SEED: the statements are not yours to turn. If you find one false, say at which input.
  Laid BY PROGRAM, IN A SANDBOX (cutbox-rows.mjs): the forced cells as the released guide's own fill.sh prints them over the translation 5a5b55136f43a149… (all of the seat's roots in one cut). By AI agents, Wed Nov 11 2026. No macro, syntax, notation, axiom, sorry.
-/
import Derived.Test.YtnpdffcplgjbnaaChecked
import GoSem.Claim
import GoSem.ClaimJoined
import GoSem.ClaimMapViews
import Derived.JoinedTies
import Derived.KernelRfl
namespace Go.Proofs.Ytnpdffcplgjbnaa
/- THE CELL 'sum', in the pinned program and in every row, IS THE sha256 OF THE DUMP (.gsa) THAT YtnpdffcplgjbnaaProg.lean LOADS. Nothing in Lean hashes anything: it is a label: what it is worth is what the hold of that sum in a sandbox is worth. -/
noncomputable def Try.pinned : Pinned := { name := "ytnpdffcplgjbnaa", sum := "5a5b55136f43a1496014032dbb79127f5c7f9ec7c7cc13db4e39c9b9511b9492", checked := Try.checked }
namespace Rows
def none {H : Type} : Left H := { results := [], args := [] }

/-- 'stowagelaw12.SolveGreedy': WHATEVER THE INPUT: true; the input reads as it did. -/
def solveGreedySpec : ChangeSpec := { name := "solveGreedy", fn := fun _ => fun
  | [d1, d2, d3] => { results := [.lit (.bool true)], args := [d1, d2, d3] }
  | _ => none }
def solveGreedyRow : OpenClaim := { program := "ytnpdffcplgjbnaa", sum := "5a5b55136f43a1496014032dbb79127f5c7f9ec7c7cc13db4e39c9b9511b9492", func := "stowage/stowagelaw12.SolveGreedy", spec := "solveGreedy", unfollowed := true, recurses := true, apart := false }
def SolveGreedySaid : Prop := solveGreedyRow.holds Try.pinned (OpenSpec.ofChange solveGreedySpec)

/-- ITS FALSE NEIGHBOUR: 'it returns false'. Refute it at one input. -/
def solveGreedyWrong : ChangeSpec := { name := "solveGreedy", fn := fun _ => fun
  | [d1, d2, d3] => { results := [.lit (.bool false)], args := [d1, d2, d3] }
  | _ => none }
def SolveGreedyWrongFalsely : Prop := solveGreedyRow.holds Try.pinned (OpenSpec.ofChange solveGreedyWrong)

/-- 'stowagelaw12.SolveBest': WHATEVER THE INPUT: true; the input reads as it did. -/
def solveBestSpec : ChangeSpec := { name := "solveBest", fn := fun _ => fun
  | [d1, d2, d3] => { results := [.lit (.bool true)], args := [d1, d2, d3] }
  | _ => none }
def solveBestRow : OpenClaim := { program := "ytnpdffcplgjbnaa", sum := "5a5b55136f43a1496014032dbb79127f5c7f9ec7c7cc13db4e39c9b9511b9492", func := "stowage/stowagelaw12.SolveBest", spec := "solveBest", unfollowed := true, recurses := true, apart := false }
def SolveBestSaid : Prop := solveBestRow.holds Try.pinned (OpenSpec.ofChange solveBestSpec)

/-- ITS FALSE NEIGHBOUR: 'it returns false'. Refute it at one input. -/
def solveBestWrong : ChangeSpec := { name := "solveBest", fn := fun _ => fun
  | [d1, d2, d3] => { results := [.lit (.bool false)], args := [d1, d2, d3] }
  | _ => none }
def SolveBestWrongFalsely : Prop := solveBestRow.holds Try.pinned (OpenSpec.ofChange solveBestWrong)

/-- 'stowagelaw12.SolveAll': WHATEVER THE INPUT: true; the input reads as it did. -/
def solveAllSpec : ChangeSpec := { name := "solveAll", fn := fun _ => fun
  | [d1, d2, d3, d4] => { results := [.lit (.bool true)], args := [d1, d2, d3, d4] }
  | _ => none }
def solveAllRow : OpenClaim := { program := "ytnpdffcplgjbnaa", sum := "5a5b55136f43a1496014032dbb79127f5c7f9ec7c7cc13db4e39c9b9511b9492", func := "stowage/stowagelaw12.SolveAll", spec := "solveAll", unfollowed := true, recurses := true, apart := false }
def SolveAllSaid : Prop := solveAllRow.holds Try.pinned (OpenSpec.ofChange solveAllSpec)

/-- ITS FALSE NEIGHBOUR: 'it returns false'. Refute it at one input. -/
def solveAllWrong : ChangeSpec := { name := "solveAll", fn := fun _ => fun
  | [d1, d2, d3, d4] => { results := [.lit (.bool false)], args := [d1, d2, d3, d4] }
  | _ => none }
def SolveAllWrongFalsely : Prop := solveAllRow.holds Try.pinned (OpenSpec.ofChange solveAllWrong)

/-- 'stowagelaw12.SolveSlower': WHATEVER THE INPUT: true; the input reads as it did. -/
def solveSlowerSpec : ChangeSpec := { name := "solveSlower", fn := fun _ => fun
  | [d1, d2] => { results := [.lit (.bool true)], args := [d1, d2] }
  | _ => none }
def solveSlowerRow : OpenClaim := { program := "ytnpdffcplgjbnaa", sum := "5a5b55136f43a1496014032dbb79127f5c7f9ec7c7cc13db4e39c9b9511b9492", func := "stowage/stowagelaw12.SolveSlower", spec := "solveSlower", unfollowed := true, recurses := true, apart := false }
def SolveSlowerSaid : Prop := solveSlowerRow.holds Try.pinned (OpenSpec.ofChange solveSlowerSpec)

/-- ITS FALSE NEIGHBOUR: 'it returns false'. Refute it at one input. -/
def solveSlowerWrong : ChangeSpec := { name := "solveSlower", fn := fun _ => fun
  | [d1, d2] => { results := [.lit (.bool false)], args := [d1, d2] }
  | _ => none }
def SolveSlowerWrongFalsely : Prop := solveSlowerRow.holds Try.pinned (OpenSpec.ofChange solveSlowerWrong)

/-- 'stowagelaw12.SolveAlone': WHATEVER THE INPUT: true; the input reads as it did. -/
def solveAloneSpec : ChangeSpec := { name := "solveAlone", fn := fun _ => fun
  | [d1, d2, d3] => { results := [.lit (.bool true)], args := [d1, d2, d3] }
  | _ => none }
def solveAloneRow : OpenClaim := { program := "ytnpdffcplgjbnaa", sum := "5a5b55136f43a1496014032dbb79127f5c7f9ec7c7cc13db4e39c9b9511b9492", func := "stowage/stowagelaw12.SolveAlone", spec := "solveAlone", unfollowed := true, recurses := true, apart := false }
def SolveAloneSaid : Prop := solveAloneRow.holds Try.pinned (OpenSpec.ofChange solveAloneSpec)

/-- ITS FALSE NEIGHBOUR: 'it returns false'. Refute it at one input. -/
def solveAloneWrong : ChangeSpec := { name := "solveAlone", fn := fun _ => fun
  | [d1, d2, d3] => { results := [.lit (.bool false)], args := [d1, d2, d3] }
  | _ => none }
def SolveAloneWrongFalsely : Prop := solveAloneRow.holds Try.pinned (OpenSpec.ofChange solveAloneWrong)

/-- 'stowagelaw12.SolveEven': WHATEVER THE INPUT: true; the input reads as it did. -/
def solveEvenSpec : ChangeSpec := { name := "solveEven", fn := fun _ => fun
  | [d1, d2] => { results := [.lit (.bool true)], args := [d1, d2] }
  | _ => none }
def solveEvenRow : OpenClaim := { program := "ytnpdffcplgjbnaa", sum := "5a5b55136f43a1496014032dbb79127f5c7f9ec7c7cc13db4e39c9b9511b9492", func := "stowage/stowagelaw12.SolveEven", spec := "solveEven", unfollowed := true, recurses := true, apart := false }
def SolveEvenSaid : Prop := solveEvenRow.holds Try.pinned (OpenSpec.ofChange solveEvenSpec)

/-- ITS FALSE NEIGHBOUR: 'it returns false'. Refute it at one input. -/
def solveEvenWrong : ChangeSpec := { name := "solveEven", fn := fun _ => fun
  | [d1, d2] => { results := [.lit (.bool false)], args := [d1, d2] }
  | _ => none }
def SolveEvenWrongFalsely : Prop := solveEvenRow.holds Try.pinned (OpenSpec.ofChange solveEvenWrong)

/- THE SECOND FORM. 'bulk': how many values and letters a reading holds, each counted each time it is reached (what is shared counts as often as it is met; a slice's spare places count too). A statement '..UptoSaid' is the law's where the arguments, and the package variables that the reading takes, are together of bulk at most 1048576: NARROWER than '..Said'. Prove '..Said' where nothing that the law and all that it calls make is longer than what came in: it says more and counts as full. Else prove '..UptoSaid'. A law counts once. -/
mutual
def uptoBulk {H : Type} : DataW H → Nat
  | .lit (.string bytes) => bytes.length + 1
  | .lit _ => 1
  | .nil => 1
  | .ptr d => uptoBulk d + 1
  | .slice elems spare => uptoBulkAll elems + uptoBulkAll spare + 1
  | .agg parts => uptoBulkAll parts + 1
  | .iface _ d => uptoBulk d + 1
  | .map entries => uptoBulkEntries entries + 1
  | .held _ => 1
def uptoBulkAll {H : Type} : List (DataW H) → Nat
  | [] => 0
  | d :: r => uptoBulk d + uptoBulkAll r
def uptoBulkEntries {H : Type} : List (Lit × DataW H) → Nat
  | [] => 0
  | x :: r => uptoBulkEntry x + uptoBulkEntries r
def uptoBulkEntry {H : Type} : Lit × DataW H → Nat
  | (.string bytes, d) => bytes.length + uptoBulk d + 1
  | (_, d) => uptoBulk d + 1
 end
def uptoSmall : (H : Type) → List (DataW H) → Bool := fun _ ds => decide (uptoBulkAll ds ≤ 1048576)
def OpenSpec.upto (s : _root_.Go.ChangeSpec) : _root_.Go.OpenSpec := { _root_.Go.OpenSpec.ofChange s with cond := some uptoSmall }

/-- 'stowagelaw12.SolveGreedy', WHERE WHAT IT READS IS OF BULK AT MOST 1048576: true; the input reads as it did. -/
def solveGreedyUptoRow : OpenClaim := { program := "ytnpdffcplgjbnaa", sum := "5a5b55136f43a1496014032dbb79127f5c7f9ec7c7cc13db4e39c9b9511b9492", func := "stowage/stowagelaw12.SolveGreedy", spec := "solveGreedy", unfollowed := true, recurses := true, apart := false, narrowed := true }
def SolveGreedyUptoSaid : Prop := solveGreedyUptoRow.holds Try.pinned (OpenSpec.upto solveGreedySpec)

/-- 'stowagelaw12.SolveBest', WHERE WHAT IT READS IS OF BULK AT MOST 1048576: true; the input reads as it did. -/
def solveBestUptoRow : OpenClaim := { program := "ytnpdffcplgjbnaa", sum := "5a5b55136f43a1496014032dbb79127f5c7f9ec7c7cc13db4e39c9b9511b9492", func := "stowage/stowagelaw12.SolveBest", spec := "solveBest", unfollowed := true, recurses := true, apart := false, narrowed := true }
def SolveBestUptoSaid : Prop := solveBestUptoRow.holds Try.pinned (OpenSpec.upto solveBestSpec)

/-- 'stowagelaw12.SolveAll', WHERE WHAT IT READS IS OF BULK AT MOST 1048576: true; the input reads as it did. -/
def solveAllUptoRow : OpenClaim := { program := "ytnpdffcplgjbnaa", sum := "5a5b55136f43a1496014032dbb79127f5c7f9ec7c7cc13db4e39c9b9511b9492", func := "stowage/stowagelaw12.SolveAll", spec := "solveAll", unfollowed := true, recurses := true, apart := false, narrowed := true }
def SolveAllUptoSaid : Prop := solveAllUptoRow.holds Try.pinned (OpenSpec.upto solveAllSpec)

/-- 'stowagelaw12.SolveSlower', WHERE WHAT IT READS IS OF BULK AT MOST 1048576: true; the input reads as it did. -/
def solveSlowerUptoRow : OpenClaim := { program := "ytnpdffcplgjbnaa", sum := "5a5b55136f43a1496014032dbb79127f5c7f9ec7c7cc13db4e39c9b9511b9492", func := "stowage/stowagelaw12.SolveSlower", spec := "solveSlower", unfollowed := true, recurses := true, apart := false, narrowed := true }
def SolveSlowerUptoSaid : Prop := solveSlowerUptoRow.holds Try.pinned (OpenSpec.upto solveSlowerSpec)

/-- 'stowagelaw12.SolveAlone', WHERE WHAT IT READS IS OF BULK AT MOST 1048576: true; the input reads as it did. -/
def solveAloneUptoRow : OpenClaim := { program := "ytnpdffcplgjbnaa", sum := "5a5b55136f43a1496014032dbb79127f5c7f9ec7c7cc13db4e39c9b9511b9492", func := "stowage/stowagelaw12.SolveAlone", spec := "solveAlone", unfollowed := true, recurses := true, apart := false, narrowed := true }
def SolveAloneUptoSaid : Prop := solveAloneUptoRow.holds Try.pinned (OpenSpec.upto solveAloneSpec)

/-- 'stowagelaw12.SolveEven', WHERE WHAT IT READS IS OF BULK AT MOST 1048576: true; the input reads as it did. -/
def solveEvenUptoRow : OpenClaim := { program := "ytnpdffcplgjbnaa", sum := "5a5b55136f43a1496014032dbb79127f5c7f9ec7c7cc13db4e39c9b9511b9492", func := "stowage/stowagelaw12.SolveEven", spec := "solveEven", unfollowed := true, recurses := true, apart := false, narrowed := true }
def SolveEvenUptoSaid : Prop := solveEvenUptoRow.holds Try.pinned (OpenSpec.upto solveEvenSpec)

end Rows
end Go.Proofs.Ytnpdffcplgjbnaa
