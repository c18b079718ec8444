/-
  No cell of these rows narrows 'for every input' (looked for: loops, veiled, ifaces, maps, wideKeys, modest, calm, conditions, laid).
  DERIVED. THE GIVEN ROWS OF THIS SEAT. 7 by the template 'for every input the law returns true; each argument reads behind the call as it read before'; 0 by the template 'total and deterministic' (their statements: YtcbimgdgodeppaaTotals.lean).
  GIVEN WITH THE SEED: the statements are not yours to turn. If you find one false, say at which input.
  Laid BY PROGRAM, IN A SANDBOX (cutbox-rows.mjs): the forced cells as the released guide's own fill.sh prints them over the translation 748f0c82c246654a… (all of the seat's roots in one cut). By AI agents, Wed Nov 11 2026. No macro, syntax, notation, axiom, sorry.
-/
import Derived.Test.YtcbimgdgodeppaaChecked
import GoSem.Claim
import GoSem.ClaimJoined
import GoSem.ClaimMapViews
import Derived.JoinedTies
import Derived.KernelRfl
namespace Go.Proofs.Ytcbimgdgodeppaa
/- THE CELL 'sum', in the pinned program and in every row, IS THE sha256 OF THE DUMP (.gsa) THAT YtcbimgdgodeppaaProg.lean LOADS. Nothing in Lean hashes anything: it is a label: what it is worth is what the hold of that sum in a sandbox is worth. -/
noncomputable def Try.pinned : Pinned := { name := "ytcbimgdgodeppaa", sum := "748f0c82c246654a1156ed80ce45c054908bca934c9f6928b217e8471cde469d", checked := Try.checked }
namespace Rows
def none {H : Type} : Left H := { results := [], args := [] }

/-- 'stowagelaw08.WeighUnits': WHATEVER THE INPUT: true; the input reads as it did. -/
def weighUnitsSpec : ChangeSpec := { name := "weighUnits", fn := fun _ => fun
  | [d] => { results := [.lit (.bool true)], args := [d] }
  | _ => none }
def weighUnitsRow : OpenClaim := { program := "ytcbimgdgodeppaa", sum := "748f0c82c246654a1156ed80ce45c054908bca934c9f6928b217e8471cde469d", func := "stowage/stowagelaw08.WeighUnits", spec := "weighUnits", inPlace := ["math.Float64frombits", "math.Float64bits"], unfollowed := true, recurses := true, apart := false }
def WeighUnitsSaid : Prop := weighUnitsRow.holds Try.pinned (OpenSpec.ofChange weighUnitsSpec)

/-- ITS FALSE NEIGHBOUR: 'it returns false'. Refute it at one input. -/
def weighUnitsWrong : ChangeSpec := { name := "weighUnits", fn := fun _ => fun
  | [d] => { results := [.lit (.bool false)], args := [d] }
  | _ => none }
def WeighUnitsWrongFalsely : Prop := weighUnitsRow.holds Try.pinned (OpenSpec.ofChange weighUnitsWrong)

/-- 'stowagelaw08.WeighShares': WHATEVER THE INPUT: true; the input reads as it did. -/
def weighSharesSpec : ChangeSpec := { name := "weighShares", fn := fun _ => fun
  | [d1, d2] => { results := [.lit (.bool true)], args := [d1, d2] }
  | _ => none }
def weighSharesRow : OpenClaim := { program := "ytcbimgdgodeppaa", sum := "748f0c82c246654a1156ed80ce45c054908bca934c9f6928b217e8471cde469d", func := "stowage/stowagelaw08.WeighShares", spec := "weighShares", inPlace := ["math.Float64frombits", "math.Float64bits"], unfollowed := true, recurses := true, apart := false }
def WeighSharesSaid : Prop := weighSharesRow.holds Try.pinned (OpenSpec.ofChange weighSharesSpec)

/-- ITS FALSE NEIGHBOUR: 'it returns false'. Refute it at one input. -/
def weighSharesWrong : ChangeSpec := { name := "weighShares", fn := fun _ => fun
  | [d1, d2] => { results := [.lit (.bool false)], args := [d1, d2] }
  | _ => none }
def WeighSharesWrongFalsely : Prop := weighSharesRow.holds Try.pinned (OpenSpec.ofChange weighSharesWrong)

/-- 'stowagelaw08.WeighAll': WHATEVER THE INPUT: true; the input reads as it did. -/
def weighAllSpec : ChangeSpec := { name := "weighAll", fn := fun _ => fun
  | [d1, d2] => { results := [.lit (.bool true)], args := [d1, d2] }
  | _ => none }
def weighAllRow : OpenClaim := { program := "ytcbimgdgodeppaa", sum := "748f0c82c246654a1156ed80ce45c054908bca934c9f6928b217e8471cde469d", func := "stowage/stowagelaw08.WeighAll", spec := "weighAll", inPlace := ["math.Float64frombits", "math.Float64bits"], unfollowed := true, recurses := true, apart := false }
def WeighAllSaid : Prop := weighAllRow.holds Try.pinned (OpenSpec.ofChange weighAllSpec)

/-- ITS FALSE NEIGHBOUR: 'it returns false'. Refute it at one input. -/
def weighAllWrong : ChangeSpec := { name := "weighAll", fn := fun _ => fun
  | [d1, d2] => { results := [.lit (.bool false)], args := [d1, d2] }
  | _ => none }
def WeighAllWrongFalsely : Prop := weighAllRow.holds Try.pinned (OpenSpec.ofChange weighAllWrong)

/-- 'stowagelaw08.WeighScales': WHATEVER THE INPUT: true; the input reads as it did. -/
def weighScalesSpec : ChangeSpec := { name := "weighScales", fn := fun _ => fun
  | [d1, d2] => { results := [.lit (.bool true)], args := [d1, d2] }
  | _ => none }
def weighScalesRow : OpenClaim := { program := "ytcbimgdgodeppaa", sum := "748f0c82c246654a1156ed80ce45c054908bca934c9f6928b217e8471cde469d", func := "stowage/stowagelaw08.WeighScales", spec := "weighScales", inPlace := ["math.Float64bits", "math.Float64frombits"], unfollowed := true, recurses := true, apart := false }
def WeighScalesSaid : Prop := weighScalesRow.holds Try.pinned (OpenSpec.ofChange weighScalesSpec)

/-- ITS FALSE NEIGHBOUR: 'it returns false'. Refute it at one input. -/
def weighScalesWrong : ChangeSpec := { name := "weighScales", fn := fun _ => fun
  | [d1, d2] => { results := [.lit (.bool false)], args := [d1, d2] }
  | _ => none }
def WeighScalesWrongFalsely : Prop := weighScalesRow.holds Try.pinned (OpenSpec.ofChange weighScalesWrong)

/-- 'stowagelaw08.WeighNone': WHATEVER THE INPUT: true; the input reads as it did. -/
def weighNoneSpec : ChangeSpec := { name := "weighNone", fn := fun _ => fun
  | [d1, d2] => { results := [.lit (.bool true)], args := [d1, d2] }
  | _ => none }
def weighNoneRow : OpenClaim := { program := "ytcbimgdgodeppaa", sum := "748f0c82c246654a1156ed80ce45c054908bca934c9f6928b217e8471cde469d", func := "stowage/stowagelaw08.WeighNone", spec := "weighNone", inPlace := ["math.Float64frombits", "math.Float64bits"], unfollowed := true, recurses := true, apart := false }
def WeighNoneSaid : Prop := weighNoneRow.holds Try.pinned (OpenSpec.ofChange weighNoneSpec)

/-- ITS FALSE NEIGHBOUR: 'it returns false'. Refute it at one input. -/
def weighNoneWrong : ChangeSpec := { name := "weighNone", fn := fun _ => fun
  | [d1, d2] => { results := [.lit (.bool false)], args := [d1, d2] }
  | _ => none }
def WeighNoneWrongFalsely : Prop := weighNoneRow.holds Try.pinned (OpenSpec.ofChange weighNoneWrong)

/-- 'stowagelaw08.WeighTurns': WHATEVER THE INPUT: true; the input reads as it did. -/
def weighTurnsSpec : ChangeSpec := { name := "weighTurns", fn := fun _ => fun
  | [d1, d2] => { results := [.lit (.bool true)], args := [d1, d2] }
  | _ => none }
def weighTurnsRow : OpenClaim := { program := "ytcbimgdgodeppaa", sum := "748f0c82c246654a1156ed80ce45c054908bca934c9f6928b217e8471cde469d", func := "stowage/stowagelaw08.WeighTurns", spec := "weighTurns", inPlace := ["math.Float64frombits", "math.Float64bits"], unfollowed := true, recurses := true, apart := false }
def WeighTurnsSaid : Prop := weighTurnsRow.holds Try.pinned (OpenSpec.ofChange weighTurnsSpec)

/-- ITS FALSE NEIGHBOUR: 'it returns false'. Refute it at one input. -/
def weighTurnsWrong : ChangeSpec := { name := "weighTurns", fn := fun _ => fun
  | [d1, d2] => { results := [.lit (.bool false)], args := [d1, d2] }
  | _ => none }
def WeighTurnsWrongFalsely : Prop := weighTurnsRow.holds Try.pinned (OpenSpec.ofChange weighTurnsWrong)

/-- 'stowagelaw08.WeighOne': WHATEVER THE INPUT: true; the input reads as it did. -/
def weighOneSpec : ChangeSpec := { name := "weighOne", fn := fun _ => fun
  | [d1, d2, d3] => { results := [.lit (.bool true)], args := [d1, d2, d3] }
  | _ => none }
def weighOneRow : OpenClaim := { program := "ytcbimgdgodeppaa", sum := "748f0c82c246654a1156ed80ce45c054908bca934c9f6928b217e8471cde469d", func := "stowage/stowagelaw08.WeighOne", spec := "weighOne", inPlace := ["math.Float64frombits", "math.Float64bits"], unfollowed := true, recurses := true, apart := false }
def WeighOneSaid : Prop := weighOneRow.holds Try.pinned (OpenSpec.ofChange weighOneSpec)

/-- ITS FALSE NEIGHBOUR: 'it returns false'. Refute it at one input. -/
def weighOneWrong : ChangeSpec := { name := "weighOne", fn := fun _ => fun
  | [d1, d2, d3] => { results := [.lit (.bool false)], args := [d1, d2, d3] }
  | _ => none }
def WeighOneWrongFalsely : Prop := weighOneRow.holds Try.pinned (OpenSpec.ofChange weighOneWrong)

/- THE SECOND FORM. 'bulk': how many values and letters a reading holds, each counted each time it is reached (what is shared counts as often as it is met; a slice's spare places count too). A statement '..UptoSaid' is the law's where the arguments, and the package variables that the reading takes, are together of bulk at most 1048576: NARROWER than '..Said'. Prove '..Said' where nothing that the law and all that it calls make is longer than what came in: it says more and counts as full. Else prove '..UptoSaid'. A law counts once. -/
mutual
def uptoBulk {H : Type} : DataW H → Nat
  | .lit (.string bytes) => bytes.length + 1
  | .lit _ => 1
  | .nil => 1
  | .ptr d => uptoBulk d + 1
  | .slice elems spare => uptoBulkAll elems + uptoBulkAll spare + 1
  | .agg parts => uptoBulkAll parts + 1
  | .iface _ d => uptoBulk d + 1
  | .map entries => uptoBulkEntries entries + 1
  | .held _ => 1
def uptoBulkAll {H : Type} : List (DataW H) → Nat
  | [] => 0
  | d :: r => uptoBulk d + uptoBulkAll r
def uptoBulkEntries {H : Type} : List (Lit × DataW H) → Nat
  | [] => 0
  | x :: r => uptoBulkEntry x + uptoBulkEntries r
def uptoBulkEntry {H : Type} : Lit × DataW H → Nat
  | (.string bytes, d) => bytes.length + uptoBulk d + 1
  | (_, d) => uptoBulk d + 1
 end
def uptoSmall : (H : Type) → List (DataW H) → Bool := fun _ ds => decide (uptoBulkAll ds ≤ 1048576)
def OpenSpec.upto (s : _root_.Go.ChangeSpec) : _root_.Go.OpenSpec := { _root_.Go.OpenSpec.ofChange s with cond := some uptoSmall }

/-- 'stowagelaw08.WeighUnits', WHERE WHAT IT READS IS OF BULK AT MOST 1048576: true; the input reads as it did. -/
def weighUnitsUptoRow : OpenClaim := { program := "ytcbimgdgodeppaa", sum := "748f0c82c246654a1156ed80ce45c054908bca934c9f6928b217e8471cde469d", func := "stowage/stowagelaw08.WeighUnits", spec := "weighUnits", inPlace := ["math.Float64frombits", "math.Float64bits"], unfollowed := true, recurses := true, apart := false, narrowed := true }
def WeighUnitsUptoSaid : Prop := weighUnitsUptoRow.holds Try.pinned (OpenSpec.upto weighUnitsSpec)

/-- 'stowagelaw08.WeighShares', WHERE WHAT IT READS IS OF BULK AT MOST 1048576: true; the input reads as it did. -/
def weighSharesUptoRow : OpenClaim := { program := "ytcbimgdgodeppaa", sum := "748f0c82c246654a1156ed80ce45c054908bca934c9f6928b217e8471cde469d", func := "stowage/stowagelaw08.WeighShares", spec := "weighShares", inPlace := ["math.Float64frombits", "math.Float64bits"], unfollowed := true, recurses := true, apart := false, narrowed := true }
def WeighSharesUptoSaid : Prop := weighSharesUptoRow.holds Try.pinned (OpenSpec.upto weighSharesSpec)

/-- 'stowagelaw08.WeighAll', WHERE WHAT IT READS IS OF BULK AT MOST 1048576: true; the input reads as it did. -/
def weighAllUptoRow : OpenClaim := { program := "ytcbimgdgodeppaa", sum := "748f0c82c246654a1156ed80ce45c054908bca934c9f6928b217e8471cde469d", func := "stowage/stowagelaw08.WeighAll", spec := "weighAll", inPlace := ["math.Float64frombits", "math.Float64bits"], unfollowed := true, recurses := true, apart := false, narrowed := true }
def WeighAllUptoSaid : Prop := weighAllUptoRow.holds Try.pinned (OpenSpec.upto weighAllSpec)

/-- 'stowagelaw08.WeighScales', WHERE WHAT IT READS IS OF BULK AT MOST 1048576: true; the input reads as it did. -/
def weighScalesUptoRow : OpenClaim := { program := "ytcbimgdgodeppaa", sum := "748f0c82c246654a1156ed80ce45c054908bca934c9f6928b217e8471cde469d", func := "stowage/stowagelaw08.WeighScales", spec := "weighScales", inPlace := ["math.Float64bits", "math.Float64frombits"], unfollowed := true, recurses := true, apart := false, narrowed := true }
def WeighScalesUptoSaid : Prop := weighScalesUptoRow.holds Try.pinned (OpenSpec.upto weighScalesSpec)

/-- 'stowagelaw08.WeighNone', WHERE WHAT IT READS IS OF BULK AT MOST 1048576: true; the input reads as it did. -/
def weighNoneUptoRow : OpenClaim := { program := "ytcbimgdgodeppaa", sum := "748f0c82c246654a1156ed80ce45c054908bca934c9f6928b217e8471cde469d", func := "stowage/stowagelaw08.WeighNone", spec := "weighNone", inPlace := ["math.Float64frombits", "math.Float64bits"], unfollowed := true, recurses := true, apart := false, narrowed := true }
def WeighNoneUptoSaid : Prop := weighNoneUptoRow.holds Try.pinned (OpenSpec.upto weighNoneSpec)

/-- 'stowagelaw08.WeighTurns', WHERE WHAT IT READS IS OF BULK AT MOST 1048576: true; the input reads as it did. -/
def weighTurnsUptoRow : OpenClaim := { program := "ytcbimgdgodeppaa", sum := "748f0c82c246654a1156ed80ce45c054908bca934c9f6928b217e8471cde469d", func := "stowage/stowagelaw08.WeighTurns", spec := "weighTurns", inPlace := ["math.Float64frombits", "math.Float64bits"], unfollowed := true, recurses := true, apart := false, narrowed := true }
def WeighTurnsUptoSaid : Prop := weighTurnsUptoRow.holds Try.pinned (OpenSpec.upto weighTurnsSpec)

/-- 'stowagelaw08.WeighOne', WHERE WHAT IT READS IS OF BULK AT MOST 1048576: true; the input reads as it did. -/
def weighOneUptoRow : OpenClaim := { program := "ytcbimgdgodeppaa", sum := "748f0c82c246654a1156ed80ce45c054908bca934c9f6928b217e8471cde469d", func := "stowage/stowagelaw08.WeighOne", spec := "weighOne", inPlace := ["math.Float64frombits", "math.Float64bits"], unfollowed := true, recurses := true, apart := false, narrowed := true }
def WeighOneUptoSaid : Prop := weighOneUptoRow.holds Try.pinned (OpenSpec.upto weighOneSpec)

end Rows
end Go.Proofs.Ytcbimgdgodeppaa
