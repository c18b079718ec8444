/-
  No cell of these rows narrows 'for every input' (looked for: loops, veiled, ifaces, maps, wideKeys, modest, calm, conditions, laid).
  DERIVED. THE GIVEN ROWS OF THIS SEAT. 6 by the template 'for every input the law returns true; each argument reads behind the call as it read before'; 0 by the template 'total and deterministic' (their statements: YtbmgiekiildaaaaTotals.lean).
  GIVEN WITH THE SEED: the statements are not yours to turn. If you find one false, say at which input.
  Laid BY PROGRAM, IN A SANDBOX (cutbox-rows.mjs): the forced cells as the released guide's own fill.sh prints them over the translation e4f982521550223e… (all of the seat's roots in one cut). By AI agents, Wed Nov 11 2026. No macro, syntax, notation, axiom, sorry.
-/
import Derived.Test.YtbmgiekiildaaaaChecked
import GoSem.Claim
import GoSem.ClaimJoined
import GoSem.ClaimMapViews
import Derived.JoinedTies
import Derived.KernelRfl
namespace Go.Proofs.Ytbmgiekiildaaaa
/- THE CELL 'sum', in the pinned program and in every row, IS THE sha256 OF THE DUMP (.gsa) THAT YtbmgiekiildaaaaProg.lean LOADS. Nothing in Lean hashes anything: it is a label: what it is worth is what the hold of that sum in a sandbox is worth. -/
noncomputable def Try.pinned : Pinned := { name := "ytbmgiekiildaaaa", sum := "e4f982521550223e200d5db0aac42de13b78f3fdd953ba12072085e0dc67473e", checked := Try.checked }
namespace Rows
def none {H : Type} : Left H := { results := [], args := [] }

/-- 'stowagelaw18.HeaderEncodes': WHATEVER THE INPUT: true; the input reads as it did. -/
def headerEncodesSpec : ChangeSpec := { name := "headerEncodes", fn := fun _ => fun
  | [d] => { results := [.lit (.bool true)], args := [d] }
  | _ => none }
def headerEncodesRow : OpenClaim := { program := "ytbmgiekiildaaaa", sum := "e4f982521550223e200d5db0aac42de13b78f3fdd953ba12072085e0dc67473e", func := "stowage/stowagelaw18.HeaderEncodes", spec := "headerEncodes", unfollowed := true, recurses := true, apart := false }
def HeaderEncodesSaid : Prop := headerEncodesRow.holds Try.pinned (OpenSpec.ofChange headerEncodesSpec)

/-- ITS FALSE NEIGHBOUR: 'it returns false'. Refute it at one input. -/
def headerEncodesWrong : ChangeSpec := { name := "headerEncodes", fn := fun _ => fun
  | [d] => { results := [.lit (.bool false)], args := [d] }
  | _ => none }
def HeaderEncodesWrongFalsely : Prop := headerEncodesRow.holds Try.pinned (OpenSpec.ofChange headerEncodesWrong)

/-- 'stowagelaw18.HeaderDecodes': WHATEVER THE INPUT: true; the input reads as it did. -/
def headerDecodesSpec : ChangeSpec := { name := "headerDecodes", fn := fun _ => fun
  | [d] => { results := [.lit (.bool true)], args := [d] }
  | _ => none }
def headerDecodesRow : OpenClaim := { program := "ytbmgiekiildaaaa", sum := "e4f982521550223e200d5db0aac42de13b78f3fdd953ba12072085e0dc67473e", func := "stowage/stowagelaw18.HeaderDecodes", spec := "headerDecodes", unfollowed := true, recurses := true, apart := false }
def HeaderDecodesSaid : Prop := headerDecodesRow.holds Try.pinned (OpenSpec.ofChange headerDecodesSpec)

/-- ITS FALSE NEIGHBOUR: 'it returns false'. Refute it at one input. -/
def headerDecodesWrong : ChangeSpec := { name := "headerDecodes", fn := fun _ => fun
  | [d] => { results := [.lit (.bool false)], args := [d] }
  | _ => none }
def HeaderDecodesWrongFalsely : Prop := headerDecodesRow.holds Try.pinned (OpenSpec.ofChange headerDecodesWrong)

/-- 'stowagelaw18.HeaderBack': WHATEVER THE INPUT: true; the input reads as it did. -/
def headerBackSpec : ChangeSpec := { name := "headerBack", fn := fun _ => fun
  | [d1, d2] => { results := [.lit (.bool true)], args := [d1, d2] }
  | _ => none }
def headerBackRow : OpenClaim := { program := "ytbmgiekiildaaaa", sum := "e4f982521550223e200d5db0aac42de13b78f3fdd953ba12072085e0dc67473e", func := "stowage/stowagelaw18.HeaderBack", spec := "headerBack", unfollowed := true, recurses := true, apart := false }
def HeaderBackSaid : Prop := headerBackRow.holds Try.pinned (OpenSpec.ofChange headerBackSpec)

/-- ITS FALSE NEIGHBOUR: 'it returns false'. Refute it at one input. -/
def headerBackWrong : ChangeSpec := { name := "headerBack", fn := fun _ => fun
  | [d1, d2] => { results := [.lit (.bool false)], args := [d1, d2] }
  | _ => none }
def HeaderBackWrongFalsely : Prop := headerBackRow.holds Try.pinned (OpenSpec.ofChange headerBackWrong)

/-- 'stowagelaw18.HeaderCounts': WHATEVER THE INPUT: true; the input reads as it did. -/
def headerCountsSpec : ChangeSpec := { name := "headerCounts", fn := fun _ => fun
  | [d1, d2] => { results := [.lit (.bool true)], args := [d1, d2] }
  | _ => none }
def headerCountsRow : OpenClaim := { program := "ytbmgiekiildaaaa", sum := "e4f982521550223e200d5db0aac42de13b78f3fdd953ba12072085e0dc67473e", func := "stowage/stowagelaw18.HeaderCounts", spec := "headerCounts", unfollowed := true, recurses := true, apart := false }
def HeaderCountsSaid : Prop := headerCountsRow.holds Try.pinned (OpenSpec.ofChange headerCountsSpec)

/-- ITS FALSE NEIGHBOUR: 'it returns false'. Refute it at one input. -/
def headerCountsWrong : ChangeSpec := { name := "headerCounts", fn := fun _ => fun
  | [d1, d2] => { results := [.lit (.bool false)], args := [d1, d2] }
  | _ => none }
def HeaderCountsWrongFalsely : Prop := headerCountsRow.holds Try.pinned (OpenSpec.ofChange headerCountsWrong)

/-- 'stowagelaw18.HeaderNone': WHATEVER THE INPUT: true; the input reads as it did. -/
def headerNoneSpec : ChangeSpec := { name := "headerNone", fn := fun _ => fun
  | [d] => { results := [.lit (.bool true)], args := [d] }
  | _ => none }
def headerNoneRow : OpenClaim := { program := "ytbmgiekiildaaaa", sum := "e4f982521550223e200d5db0aac42de13b78f3fdd953ba12072085e0dc67473e", func := "stowage/stowagelaw18.HeaderNone", spec := "headerNone", unfollowed := true, recurses := true, apart := false }
def HeaderNoneSaid : Prop := headerNoneRow.holds Try.pinned (OpenSpec.ofChange headerNoneSpec)

/-- ITS FALSE NEIGHBOUR: 'it returns false'. Refute it at one input. -/
def headerNoneWrong : ChangeSpec := { name := "headerNone", fn := fun _ => fun
  | [d] => { results := [.lit (.bool false)], args := [d] }
  | _ => none }
def HeaderNoneWrongFalsely : Prop := headerNoneRow.holds Try.pinned (OpenSpec.ofChange headerNoneWrong)

/-- 'stowagelaw18.HeaderGaps': WHATEVER THE INPUT: true; the input reads as it did. -/
def headerGapsSpec : ChangeSpec := { name := "headerGaps", fn := fun _ => fun
  | [d1, d2] => { results := [.lit (.bool true)], args := [d1, d2] }
  | _ => none }
def headerGapsRow : OpenClaim := { program := "ytbmgiekiildaaaa", sum := "e4f982521550223e200d5db0aac42de13b78f3fdd953ba12072085e0dc67473e", func := "stowage/stowagelaw18.HeaderGaps", spec := "headerGaps", unfollowed := true, recurses := true, apart := false }
def HeaderGapsSaid : Prop := headerGapsRow.holds Try.pinned (OpenSpec.ofChange headerGapsSpec)

/-- ITS FALSE NEIGHBOUR: 'it returns false'. Refute it at one input. -/
def headerGapsWrong : ChangeSpec := { name := "headerGaps", fn := fun _ => fun
  | [d1, d2] => { results := [.lit (.bool false)], args := [d1, d2] }
  | _ => none }
def HeaderGapsWrongFalsely : Prop := headerGapsRow.holds Try.pinned (OpenSpec.ofChange headerGapsWrong)

/- THE SECOND FORM. 'bulk': how many values and letters a reading holds, each counted each time it is reached (what is shared counts as often as it is met; a slice's spare places count too). A statement '..UptoSaid' is the law's where the arguments, and the package variables that the reading takes, are together of bulk at most 1048576: NARROWER than '..Said'. Prove '..Said' where nothing that the law and all that it calls make is longer than what came in: it says more and counts as full. Else prove '..UptoSaid'. A law counts once. -/
mutual
def uptoBulk {H : Type} : DataW H → Nat
  | .lit (.string bytes) => bytes.length + 1
  | .lit _ => 1
  | .nil => 1
  | .ptr d => uptoBulk d + 1
  | .slice elems spare => uptoBulkAll elems + uptoBulkAll spare + 1
  | .agg parts => uptoBulkAll parts + 1
  | .iface _ d => uptoBulk d + 1
  | .map entries => uptoBulkEntries entries + 1
  | .held _ => 1
def uptoBulkAll {H : Type} : List (DataW H) → Nat
  | [] => 0
  | d :: r => uptoBulk d + uptoBulkAll r
def uptoBulkEntries {H : Type} : List (Lit × DataW H) → Nat
  | [] => 0
  | x :: r => uptoBulkEntry x + uptoBulkEntries r
def uptoBulkEntry {H : Type} : Lit × DataW H → Nat
  | (.string bytes, d) => bytes.length + uptoBulk d + 1
  | (_, d) => uptoBulk d + 1
 end
def uptoSmall : (H : Type) → List (DataW H) → Bool := fun _ ds => decide (uptoBulkAll ds ≤ 1048576)
def OpenSpec.upto (s : _root_.Go.ChangeSpec) : _root_.Go.OpenSpec := { _root_.Go.OpenSpec.ofChange s with cond := some uptoSmall }

/-- 'stowagelaw18.HeaderEncodes', WHERE WHAT IT READS IS OF BULK AT MOST 1048576: true; the input reads as it did. -/
def headerEncodesUptoRow : OpenClaim := { program := "ytbmgiekiildaaaa", sum := "e4f982521550223e200d5db0aac42de13b78f3fdd953ba12072085e0dc67473e", func := "stowage/stowagelaw18.HeaderEncodes", spec := "headerEncodes", unfollowed := true, recurses := true, apart := false, narrowed := true }
def HeaderEncodesUptoSaid : Prop := headerEncodesUptoRow.holds Try.pinned (OpenSpec.upto headerEncodesSpec)

/-- 'stowagelaw18.HeaderDecodes', WHERE WHAT IT READS IS OF BULK AT MOST 1048576: true; the input reads as it did. -/
def headerDecodesUptoRow : OpenClaim := { program := "ytbmgiekiildaaaa", sum := "e4f982521550223e200d5db0aac42de13b78f3fdd953ba12072085e0dc67473e", func := "stowage/stowagelaw18.HeaderDecodes", spec := "headerDecodes", unfollowed := true, recurses := true, apart := false, narrowed := true }
def HeaderDecodesUptoSaid : Prop := headerDecodesUptoRow.holds Try.pinned (OpenSpec.upto headerDecodesSpec)

/-- 'stowagelaw18.HeaderBack', WHERE WHAT IT READS IS OF BULK AT MOST 1048576: true; the input reads as it did. -/
def headerBackUptoRow : OpenClaim := { program := "ytbmgiekiildaaaa", sum := "e4f982521550223e200d5db0aac42de13b78f3fdd953ba12072085e0dc67473e", func := "stowage/stowagelaw18.HeaderBack", spec := "headerBack", unfollowed := true, recurses := true, apart := false, narrowed := true }
def HeaderBackUptoSaid : Prop := headerBackUptoRow.holds Try.pinned (OpenSpec.upto headerBackSpec)

/-- 'stowagelaw18.HeaderCounts', WHERE WHAT IT READS IS OF BULK AT MOST 1048576: true; the input reads as it did. -/
def headerCountsUptoRow : OpenClaim := { program := "ytbmgiekiildaaaa", sum := "e4f982521550223e200d5db0aac42de13b78f3fdd953ba12072085e0dc67473e", func := "stowage/stowagelaw18.HeaderCounts", spec := "headerCounts", unfollowed := true, recurses := true, apart := false, narrowed := true }
def HeaderCountsUptoSaid : Prop := headerCountsUptoRow.holds Try.pinned (OpenSpec.upto headerCountsSpec)

/-- 'stowagelaw18.HeaderNone', WHERE WHAT IT READS IS OF BULK AT MOST 1048576: true; the input reads as it did. -/
def headerNoneUptoRow : OpenClaim := { program := "ytbmgiekiildaaaa", sum := "e4f982521550223e200d5db0aac42de13b78f3fdd953ba12072085e0dc67473e", func := "stowage/stowagelaw18.HeaderNone", spec := "headerNone", unfollowed := true, recurses := true, apart := false, narrowed := true }
def HeaderNoneUptoSaid : Prop := headerNoneUptoRow.holds Try.pinned (OpenSpec.upto headerNoneSpec)

/-- 'stowagelaw18.HeaderGaps', WHERE WHAT IT READS IS OF BULK AT MOST 1048576: true; the input reads as it did. -/
def headerGapsUptoRow : OpenClaim := { program := "ytbmgiekiildaaaa", sum := "e4f982521550223e200d5db0aac42de13b78f3fdd953ba12072085e0dc67473e", func := "stowage/stowagelaw18.HeaderGaps", spec := "headerGaps", unfollowed := true, recurses := true, apart := false, narrowed := true }
def HeaderGapsUptoSaid : Prop := headerGapsUptoRow.holds Try.pinned (OpenSpec.upto headerGapsSpec)

end Rows
end Go.Proofs.Ytbmgiekiildaaaa
