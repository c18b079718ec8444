/-
  No cell of these rows narrows 'for every input' (looked for: loops, veiled, ifaces, maps, wideKeys, modest, calm, conditions, laid).
  DERIVED. THE GIVEN ROWS OF THIS SEAT. 7 by the template 'for every input the law returns true; each argument reads behind the call as it read before'; 0 by the template 'total and deterministic' (their statements: YtbfchclfonicmaaTotals.lean).
  GIVEN WITH THE SEED: the statements are not yours to turn. If you find one false, say at which input.
  Laid BY PROGRAM, IN A SANDBOX (cutbox-rows.mjs): the forced cells as the released guide's own fill.sh prints them over the translation 25f86a6ea9c7a74c… (all of the seat's roots in one cut). By AI agents, Wed Nov 11 2026. No macro, syntax, notation, axiom, sorry.
-/
import Derived.Test.YtbfchclfonicmaaChecked
import GoSem.Claim
import GoSem.ClaimJoined
import GoSem.ClaimMapViews
import Derived.JoinedTies
import Derived.KernelRfl
namespace Go.Proofs.Ytbfchclfonicmaa
/- THE CELL 'sum', in the pinned program and in every row, IS THE sha256 OF THE DUMP (.gsa) THAT YtbfchclfonicmaaProg.lean LOADS. Nothing in Lean hashes anything: it is a label: what it is worth is what the hold of that sum in a sandbox is worth. -/
noncomputable def Try.pinned : Pinned := { name := "ytbfchclfonicmaa", sum := "25f86a6ea9c7a74c9d98ebb6d5fac353c903f48747d0cc9d34ab2274bd3b76bf", checked := Try.checked }
namespace Rows
def none {H : Type} : Left H := { results := [], args := [] }

/-- 'stowagelaw15.LineEncodes': WHATEVER THE INPUT: true; the input reads as it did. -/
def lineEncodesSpec : ChangeSpec := { name := "lineEncodes", fn := fun _ => fun
  | [d] => { results := [.lit (.bool true)], args := [d] }
  | _ => none }
def lineEncodesRow : OpenClaim := { program := "ytbfchclfonicmaa", sum := "25f86a6ea9c7a74c9d98ebb6d5fac353c903f48747d0cc9d34ab2274bd3b76bf", func := "stowage/stowagelaw15.LineEncodes", spec := "lineEncodes", unfollowed := true, recurses := true, apart := false }
def LineEncodesSaid : Prop := lineEncodesRow.holds Try.pinned (OpenSpec.ofChange lineEncodesSpec)

/-- ITS FALSE NEIGHBOUR: 'it returns false'. Refute it at one input. -/
def lineEncodesWrong : ChangeSpec := { name := "lineEncodes", fn := fun _ => fun
  | [d] => { results := [.lit (.bool false)], args := [d] }
  | _ => none }
def LineEncodesWrongFalsely : Prop := lineEncodesRow.holds Try.pinned (OpenSpec.ofChange lineEncodesWrong)

/-- 'stowagelaw15.LineDecodes': WHATEVER THE INPUT: true; the input reads as it did. -/
def lineDecodesSpec : ChangeSpec := { name := "lineDecodes", fn := fun _ => fun
  | [d] => { results := [.lit (.bool true)], args := [d] }
  | _ => none }
def lineDecodesRow : OpenClaim := { program := "ytbfchclfonicmaa", sum := "25f86a6ea9c7a74c9d98ebb6d5fac353c903f48747d0cc9d34ab2274bd3b76bf", func := "stowage/stowagelaw15.LineDecodes", spec := "lineDecodes", unfollowed := true, recurses := true, apart := false }
def LineDecodesSaid : Prop := lineDecodesRow.holds Try.pinned (OpenSpec.ofChange lineDecodesSpec)

/-- ITS FALSE NEIGHBOUR: 'it returns false'. Refute it at one input. -/
def lineDecodesWrong : ChangeSpec := { name := "lineDecodes", fn := fun _ => fun
  | [d] => { results := [.lit (.bool false)], args := [d] }
  | _ => none }
def LineDecodesWrongFalsely : Prop := lineDecodesRow.holds Try.pinned (OpenSpec.ofChange lineDecodesWrong)

/-- 'stowagelaw15.LineBack': WHATEVER THE INPUT: true; the input reads as it did. -/
def lineBackSpec : ChangeSpec := { name := "lineBack", fn := fun _ => fun
  | [d1, d2] => { results := [.lit (.bool true)], args := [d1, d2] }
  | _ => none }
def lineBackRow : OpenClaim := { program := "ytbfchclfonicmaa", sum := "25f86a6ea9c7a74c9d98ebb6d5fac353c903f48747d0cc9d34ab2274bd3b76bf", func := "stowage/stowagelaw15.LineBack", spec := "lineBack", unfollowed := true, recurses := true, apart := false }
def LineBackSaid : Prop := lineBackRow.holds Try.pinned (OpenSpec.ofChange lineBackSpec)

/-- ITS FALSE NEIGHBOUR: 'it returns false'. Refute it at one input. -/
def lineBackWrong : ChangeSpec := { name := "lineBack", fn := fun _ => fun
  | [d1, d2] => { results := [.lit (.bool false)], args := [d1, d2] }
  | _ => none }
def LineBackWrongFalsely : Prop := lineBackRow.holds Try.pinned (OpenSpec.ofChange lineBackWrong)

/-- 'stowagelaw15.LineTurned': WHATEVER THE INPUT: true; the input reads as it did. -/
def lineTurnedSpec : ChangeSpec := { name := "lineTurned", fn := fun _ => fun
  | [d1, d2, d3] => { results := [.lit (.bool true)], args := [d1, d2, d3] }
  | _ => none }
def lineTurnedRow : OpenClaim := { program := "ytbfchclfonicmaa", sum := "25f86a6ea9c7a74c9d98ebb6d5fac353c903f48747d0cc9d34ab2274bd3b76bf", func := "stowage/stowagelaw15.LineTurned", spec := "lineTurned", unfollowed := true, recurses := true, apart := false }
def LineTurnedSaid : Prop := lineTurnedRow.holds Try.pinned (OpenSpec.ofChange lineTurnedSpec)

/-- ITS FALSE NEIGHBOUR: 'it returns false'. Refute it at one input. -/
def lineTurnedWrong : ChangeSpec := { name := "lineTurned", fn := fun _ => fun
  | [d1, d2, d3] => { results := [.lit (.bool false)], args := [d1, d2, d3] }
  | _ => none }
def LineTurnedWrongFalsely : Prop := lineTurnedRow.holds Try.pinned (OpenSpec.ofChange lineTurnedWrong)

/-- 'stowagelaw15.LineReplays': WHATEVER THE INPUT: true; the input reads as it did. -/
def lineReplaysSpec : ChangeSpec := { name := "lineReplays", fn := fun _ => fun
  | [d1, d2] => { results := [.lit (.bool true)], args := [d1, d2] }
  | _ => none }
def lineReplaysRow : OpenClaim := { program := "ytbfchclfonicmaa", sum := "25f86a6ea9c7a74c9d98ebb6d5fac353c903f48747d0cc9d34ab2274bd3b76bf", func := "stowage/stowagelaw15.LineReplays", spec := "lineReplays", unfollowed := true, recurses := true, apart := false }
def LineReplaysSaid : Prop := lineReplaysRow.holds Try.pinned (OpenSpec.ofChange lineReplaysSpec)

/-- ITS FALSE NEIGHBOUR: 'it returns false'. Refute it at one input. -/
def lineReplaysWrong : ChangeSpec := { name := "lineReplays", fn := fun _ => fun
  | [d1, d2] => { results := [.lit (.bool false)], args := [d1, d2] }
  | _ => none }
def LineReplaysWrongFalsely : Prop := lineReplaysRow.holds Try.pinned (OpenSpec.ofChange lineReplaysWrong)

/-- 'stowagelaw15.LineCuts': WHATEVER THE INPUT: true; the input reads as it did. -/
def lineCutsSpec : ChangeSpec := { name := "lineCuts", fn := fun _ => fun
  | [d1, d2, d3] => { results := [.lit (.bool true)], args := [d1, d2, d3] }
  | _ => none }
def lineCutsRow : OpenClaim := { program := "ytbfchclfonicmaa", sum := "25f86a6ea9c7a74c9d98ebb6d5fac353c903f48747d0cc9d34ab2274bd3b76bf", func := "stowage/stowagelaw15.LineCuts", spec := "lineCuts", unfollowed := true, recurses := true, apart := false }
def LineCutsSaid : Prop := lineCutsRow.holds Try.pinned (OpenSpec.ofChange lineCutsSpec)

/-- ITS FALSE NEIGHBOUR: 'it returns false'. Refute it at one input. -/
def lineCutsWrong : ChangeSpec := { name := "lineCuts", fn := fun _ => fun
  | [d1, d2, d3] => { results := [.lit (.bool false)], args := [d1, d2, d3] }
  | _ => none }
def LineCutsWrongFalsely : Prop := lineCutsRow.holds Try.pinned (OpenSpec.ofChange lineCutsWrong)

/-- 'stowagelaw15.LineApart': WHATEVER THE INPUT: true; the input reads as it did. -/
def lineApartSpec : ChangeSpec := { name := "lineApart", fn := fun _ => fun
  | [d1, d2] => { results := [.lit (.bool true)], args := [d1, d2] }
  | _ => none }
def lineApartRow : OpenClaim := { program := "ytbfchclfonicmaa", sum := "25f86a6ea9c7a74c9d98ebb6d5fac353c903f48747d0cc9d34ab2274bd3b76bf", func := "stowage/stowagelaw15.LineApart", spec := "lineApart", unfollowed := true, recurses := true, apart := false }
def LineApartSaid : Prop := lineApartRow.holds Try.pinned (OpenSpec.ofChange lineApartSpec)

/-- ITS FALSE NEIGHBOUR: 'it returns false'. Refute it at one input. -/
def lineApartWrong : ChangeSpec := { name := "lineApart", fn := fun _ => fun
  | [d1, d2] => { results := [.lit (.bool false)], args := [d1, d2] }
  | _ => none }
def LineApartWrongFalsely : Prop := lineApartRow.holds Try.pinned (OpenSpec.ofChange lineApartWrong)

/- THE SECOND FORM. 'bulk': how many values and letters a reading holds, each counted each time it is reached (what is shared counts as often as it is met; a slice's spare places count too). A statement '..UptoSaid' is the law's where the arguments, and the package variables that the reading takes, are together of bulk at most 1048576: NARROWER than '..Said'. Prove '..Said' where nothing that the law and all that it calls make is longer than what came in: it says more and counts as full. Else prove '..UptoSaid'. A law counts once. -/
mutual
def uptoBulk {H : Type} : DataW H → Nat
  | .lit (.string bytes) => bytes.length + 1
  | .lit _ => 1
  | .nil => 1
  | .ptr d => uptoBulk d + 1
  | .slice elems spare => uptoBulkAll elems + uptoBulkAll spare + 1
  | .agg parts => uptoBulkAll parts + 1
  | .iface _ d => uptoBulk d + 1
  | .map entries => uptoBulkEntries entries + 1
  | .held _ => 1
def uptoBulkAll {H : Type} : List (DataW H) → Nat
  | [] => 0
  | d :: r => uptoBulk d + uptoBulkAll r
def uptoBulkEntries {H : Type} : List (Lit × DataW H) → Nat
  | [] => 0
  | x :: r => uptoBulkEntry x + uptoBulkEntries r
def uptoBulkEntry {H : Type} : Lit × DataW H → Nat
  | (.string bytes, d) => bytes.length + uptoBulk d + 1
  | (_, d) => uptoBulk d + 1
 end
def uptoSmall : (H : Type) → List (DataW H) → Bool := fun _ ds => decide (uptoBulkAll ds ≤ 1048576)
def OpenSpec.upto (s : _root_.Go.ChangeSpec) : _root_.Go.OpenSpec := { _root_.Go.OpenSpec.ofChange s with cond := some uptoSmall }

/-- 'stowagelaw15.LineEncodes', WHERE WHAT IT READS IS OF BULK AT MOST 1048576: true; the input reads as it did. -/
def lineEncodesUptoRow : OpenClaim := { program := "ytbfchclfonicmaa", sum := "25f86a6ea9c7a74c9d98ebb6d5fac353c903f48747d0cc9d34ab2274bd3b76bf", func := "stowage/stowagelaw15.LineEncodes", spec := "lineEncodes", unfollowed := true, recurses := true, apart := false, narrowed := true }
def LineEncodesUptoSaid : Prop := lineEncodesUptoRow.holds Try.pinned (OpenSpec.upto lineEncodesSpec)

/-- 'stowagelaw15.LineDecodes', WHERE WHAT IT READS IS OF BULK AT MOST 1048576: true; the input reads as it did. -/
def lineDecodesUptoRow : OpenClaim := { program := "ytbfchclfonicmaa", sum := "25f86a6ea9c7a74c9d98ebb6d5fac353c903f48747d0cc9d34ab2274bd3b76bf", func := "stowage/stowagelaw15.LineDecodes", spec := "lineDecodes", unfollowed := true, recurses := true, apart := false, narrowed := true }
def LineDecodesUptoSaid : Prop := lineDecodesUptoRow.holds Try.pinned (OpenSpec.upto lineDecodesSpec)

/-- 'stowagelaw15.LineBack', WHERE WHAT IT READS IS OF BULK AT MOST 1048576: true; the input reads as it did. -/
def lineBackUptoRow : OpenClaim := { program := "ytbfchclfonicmaa", sum := "25f86a6ea9c7a74c9d98ebb6d5fac353c903f48747d0cc9d34ab2274bd3b76bf", func := "stowage/stowagelaw15.LineBack", spec := "lineBack", unfollowed := true, recurses := true, apart := false, narrowed := true }
def LineBackUptoSaid : Prop := lineBackUptoRow.holds Try.pinned (OpenSpec.upto lineBackSpec)

/-- 'stowagelaw15.LineTurned', WHERE WHAT IT READS IS OF BULK AT MOST 1048576: true; the input reads as it did. -/
def lineTurnedUptoRow : OpenClaim := { program := "ytbfchclfonicmaa", sum := "25f86a6ea9c7a74c9d98ebb6d5fac353c903f48747d0cc9d34ab2274bd3b76bf", func := "stowage/stowagelaw15.LineTurned", spec := "lineTurned", unfollowed := true, recurses := true, apart := false, narrowed := true }
def LineTurnedUptoSaid : Prop := lineTurnedUptoRow.holds Try.pinned (OpenSpec.upto lineTurnedSpec)

/-- 'stowagelaw15.LineReplays', WHERE WHAT IT READS IS OF BULK AT MOST 1048576: true; the input reads as it did. -/
def lineReplaysUptoRow : OpenClaim := { program := "ytbfchclfonicmaa", sum := "25f86a6ea9c7a74c9d98ebb6d5fac353c903f48747d0cc9d34ab2274bd3b76bf", func := "stowage/stowagelaw15.LineReplays", spec := "lineReplays", unfollowed := true, recurses := true, apart := false, narrowed := true }
def LineReplaysUptoSaid : Prop := lineReplaysUptoRow.holds Try.pinned (OpenSpec.upto lineReplaysSpec)

/-- 'stowagelaw15.LineCuts', WHERE WHAT IT READS IS OF BULK AT MOST 1048576: true; the input reads as it did. -/
def lineCutsUptoRow : OpenClaim := { program := "ytbfchclfonicmaa", sum := "25f86a6ea9c7a74c9d98ebb6d5fac353c903f48747d0cc9d34ab2274bd3b76bf", func := "stowage/stowagelaw15.LineCuts", spec := "lineCuts", unfollowed := true, recurses := true, apart := false, narrowed := true }
def LineCutsUptoSaid : Prop := lineCutsUptoRow.holds Try.pinned (OpenSpec.upto lineCutsSpec)

/-- 'stowagelaw15.LineApart', WHERE WHAT IT READS IS OF BULK AT MOST 1048576: true; the input reads as it did. -/
def lineApartUptoRow : OpenClaim := { program := "ytbfchclfonicmaa", sum := "25f86a6ea9c7a74c9d98ebb6d5fac353c903f48747d0cc9d34ab2274bd3b76bf", func := "stowage/stowagelaw15.LineApart", spec := "lineApart", unfollowed := true, recurses := true, apart := false, narrowed := true }
def LineApartUptoSaid : Prop := lineApartUptoRow.holds Try.pinned (OpenSpec.upto lineApartSpec)

end Rows
end Go.Proofs.Ytbfchclfonicmaa
