/-
  No cell of these rows narrows 'for every input' (looked for: loops, veiled, ifaces, maps, wideKeys, modest, calm, conditions, laid).
  DERIVED. THE GIVEN ROWS OF THIS SEAT. 6 by the template 'for every input the law returns true; each argument reads behind the call as it read before'; 0 by the template 'total and deterministic' (their statements: YtcoiincgclglbaaTotals.lean).
  GIVEN WITH THE SEED: the statements are not yours to turn. If you find one false, say at which input.
  Laid BY PROGRAM, IN A SANDBOX (cutbox-rows.mjs): the forced cells as the released guide's own fill.sh prints them over the translation 4173742ffc845d5b… (all of the seat's roots in one cut). By AI agents, Wed Nov 11 2026. No macro, syntax, notation, axiom, sorry.
-/
import Derived.Test.YtcoiincgclglbaaChecked
import GoSem.Claim
import GoSem.ClaimJoined
import GoSem.ClaimMapViews
import Derived.JoinedTies
import Derived.KernelRfl
namespace Go.Proofs.Ytcoiincgclglbaa
/- THE CELL 'sum', in the pinned program and in every row, IS THE sha256 OF THE DUMP (.gsa) THAT YtcoiincgclglbaaProg.lean LOADS. Nothing in Lean hashes anything: it is a label: what it is worth is what the hold of that sum in a sandbox is worth. -/
noncomputable def Try.pinned : Pinned := { name := "ytcoiincgclglbaa", sum := "4173742ffc845d5b12f62241ddecbe7bbdb44460dfd3e9a7c1473c234438983a", checked := Try.checked }
namespace Rows
def none {H : Type} : Left H := { results := [], args := [] }

/-- 'stowagelaw06.StreamApplies': WHATEVER THE INPUT: true; the input reads as it did. -/
def streamAppliesSpec : ChangeSpec := { name := "streamApplies", fn := fun _ => fun
  | [d1, d2, d3] => { results := [.lit (.bool true)], args := [d1, d2, d3] }
  | _ => none }
def streamAppliesRow : OpenClaim := { program := "ytcoiincgclglbaa", sum := "4173742ffc845d5b12f62241ddecbe7bbdb44460dfd3e9a7c1473c234438983a", func := "stowage/stowagelaw06.StreamApplies", spec := "streamApplies", inPlace := ["math/bits.Add64"], unfollowed := true, recurses := true, apart := false }
def StreamAppliesSaid : Prop := streamAppliesRow.holds Try.pinned (OpenSpec.ofChange streamAppliesSpec)

/-- ITS FALSE NEIGHBOUR: 'it returns false'. Refute it at one input. -/
def streamAppliesWrong : ChangeSpec := { name := "streamApplies", fn := fun _ => fun
  | [d1, d2, d3] => { results := [.lit (.bool false)], args := [d1, d2, d3] }
  | _ => none }
def StreamAppliesWrongFalsely : Prop := streamAppliesRow.holds Try.pinned (OpenSpec.ofChange streamAppliesWrong)

/-- 'stowagelaw06.StreamCounts': WHATEVER THE INPUT: true; the input reads as it did. -/
def streamCountsSpec : ChangeSpec := { name := "streamCounts", fn := fun _ => fun
  | [d1, d2] => { results := [.lit (.bool true)], args := [d1, d2] }
  | _ => none }
def streamCountsRow : OpenClaim := { program := "ytcoiincgclglbaa", sum := "4173742ffc845d5b12f62241ddecbe7bbdb44460dfd3e9a7c1473c234438983a", func := "stowage/stowagelaw06.StreamCounts", spec := "streamCounts", inPlace := ["math/bits.Add64"], unfollowed := true, recurses := true, apart := false }
def StreamCountsSaid : Prop := streamCountsRow.holds Try.pinned (OpenSpec.ofChange streamCountsSpec)

/-- ITS FALSE NEIGHBOUR: 'it returns false'. Refute it at one input. -/
def streamCountsWrong : ChangeSpec := { name := "streamCounts", fn := fun _ => fun
  | [d1, d2] => { results := [.lit (.bool false)], args := [d1, d2] }
  | _ => none }
def StreamCountsWrongFalsely : Prop := streamCountsRow.holds Try.pinned (OpenSpec.ofChange streamCountsWrong)

/-- 'stowagelaw06.StreamBack': WHATEVER THE INPUT: true; the input reads as it did. -/
def streamBackSpec : ChangeSpec := { name := "streamBack", fn := fun _ => fun
  | [d1, d2, d3, d4] => { results := [.lit (.bool true)], args := [d1, d2, d3, d4] }
  | _ => none }
def streamBackRow : OpenClaim := { program := "ytcoiincgclglbaa", sum := "4173742ffc845d5b12f62241ddecbe7bbdb44460dfd3e9a7c1473c234438983a", func := "stowage/stowagelaw06.StreamBack", spec := "streamBack", inPlace := ["math/bits.Add64"], unfollowed := true, recurses := true, apart := false }
def StreamBackSaid : Prop := streamBackRow.holds Try.pinned (OpenSpec.ofChange streamBackSpec)

/-- ITS FALSE NEIGHBOUR: 'it returns false'. Refute it at one input. -/
def streamBackWrong : ChangeSpec := { name := "streamBack", fn := fun _ => fun
  | [d1, d2, d3, d4] => { results := [.lit (.bool false)], args := [d1, d2, d3, d4] }
  | _ => none }
def StreamBackWrongFalsely : Prop := streamBackRow.holds Try.pinned (OpenSpec.ofChange streamBackWrong)

/-- 'stowagelaw06.StreamApart': WHATEVER THE INPUT: true; the input reads as it did. -/
def streamApartSpec : ChangeSpec := { name := "streamApart", fn := fun _ => fun
  | [d1, d2, d3, d4, d5, d6] => { results := [.lit (.bool true)], args := [d1, d2, d3, d4, d5, d6] }
  | _ => none }
def streamApartRow : OpenClaim := { program := "ytcoiincgclglbaa", sum := "4173742ffc845d5b12f62241ddecbe7bbdb44460dfd3e9a7c1473c234438983a", func := "stowage/stowagelaw06.StreamApart", spec := "streamApart", inPlace := ["math/bits.Add64"], unfollowed := true, recurses := true, apart := false }
def StreamApartSaid : Prop := streamApartRow.holds Try.pinned (OpenSpec.ofChange streamApartSpec)

/-- ITS FALSE NEIGHBOUR: 'it returns false'. Refute it at one input. -/
def streamApartWrong : ChangeSpec := { name := "streamApart", fn := fun _ => fun
  | [d1, d2, d3, d4, d5, d6] => { results := [.lit (.bool false)], args := [d1, d2, d3, d4, d5, d6] }
  | _ => none }
def StreamApartWrongFalsely : Prop := streamApartRow.holds Try.pinned (OpenSpec.ofChange streamApartWrong)

/-- 'stowagelaw06.StreamParts': WHATEVER THE INPUT: true; the input reads as it did. -/
def streamPartsSpec : ChangeSpec := { name := "streamParts", fn := fun _ => fun
  | [d1, d2, d3] => { results := [.lit (.bool true)], args := [d1, d2, d3] }
  | _ => none }
def streamPartsRow : OpenClaim := { program := "ytcoiincgclglbaa", sum := "4173742ffc845d5b12f62241ddecbe7bbdb44460dfd3e9a7c1473c234438983a", func := "stowage/stowagelaw06.StreamParts", spec := "streamParts", inPlace := ["math/bits.Add64"], unfollowed := true, recurses := true, apart := false }
def StreamPartsSaid : Prop := streamPartsRow.holds Try.pinned (OpenSpec.ofChange streamPartsSpec)

/-- ITS FALSE NEIGHBOUR: 'it returns false'. Refute it at one input. -/
def streamPartsWrong : ChangeSpec := { name := "streamParts", fn := fun _ => fun
  | [d1, d2, d3] => { results := [.lit (.bool false)], args := [d1, d2, d3] }
  | _ => none }
def StreamPartsWrongFalsely : Prop := streamPartsRow.holds Try.pinned (OpenSpec.ofChange streamPartsWrong)

/-- 'stowagelaw06.StreamMasks': WHATEVER THE INPUT: true; the input reads as it did. -/
def streamMasksSpec : ChangeSpec := { name := "streamMasks", fn := fun _ => fun
  | [d1, d2, d3] => { results := [.lit (.bool true)], args := [d1, d2, d3] }
  | _ => none }
def streamMasksRow : OpenClaim := { program := "ytcoiincgclglbaa", sum := "4173742ffc845d5b12f62241ddecbe7bbdb44460dfd3e9a7c1473c234438983a", func := "stowage/stowagelaw06.StreamMasks", spec := "streamMasks", inPlace := ["math/bits.Add64"], unfollowed := true, recurses := true, apart := false }
def StreamMasksSaid : Prop := streamMasksRow.holds Try.pinned (OpenSpec.ofChange streamMasksSpec)

/-- ITS FALSE NEIGHBOUR: 'it returns false'. Refute it at one input. -/
def streamMasksWrong : ChangeSpec := { name := "streamMasks", fn := fun _ => fun
  | [d1, d2, d3] => { results := [.lit (.bool false)], args := [d1, d2, d3] }
  | _ => none }
def StreamMasksWrongFalsely : Prop := streamMasksRow.holds Try.pinned (OpenSpec.ofChange streamMasksWrong)

/- THE SECOND FORM. 'bulk': how many values and letters a reading holds, each counted each time it is reached (what is shared counts as often as it is met; a slice's spare places count too). A statement '..UptoSaid' is the law's where the arguments, and the package variables that the reading takes, are together of bulk at most 1048576: NARROWER than '..Said'. Prove '..Said' where nothing that the law and all that it calls make is longer than what came in: it says more and counts as full. Else prove '..UptoSaid'. A law counts once. -/
mutual
def uptoBulk {H : Type} : DataW H → Nat
  | .lit (.string bytes) => bytes.length + 1
  | .lit _ => 1
  | .nil => 1
  | .ptr d => uptoBulk d + 1
  | .slice elems spare => uptoBulkAll elems + uptoBulkAll spare + 1
  | .agg parts => uptoBulkAll parts + 1
  | .iface _ d => uptoBulk d + 1
  | .map entries => uptoBulkEntries entries + 1
  | .held _ => 1
def uptoBulkAll {H : Type} : List (DataW H) → Nat
  | [] => 0
  | d :: r => uptoBulk d + uptoBulkAll r
def uptoBulkEntries {H : Type} : List (Lit × DataW H) → Nat
  | [] => 0
  | x :: r => uptoBulkEntry x + uptoBulkEntries r
def uptoBulkEntry {H : Type} : Lit × DataW H → Nat
  | (.string bytes, d) => bytes.length + uptoBulk d + 1
  | (_, d) => uptoBulk d + 1
 end
def uptoSmall : (H : Type) → List (DataW H) → Bool := fun _ ds => decide (uptoBulkAll ds ≤ 1048576)
def OpenSpec.upto (s : _root_.Go.ChangeSpec) : _root_.Go.OpenSpec := { _root_.Go.OpenSpec.ofChange s with cond := some uptoSmall }

/-- 'stowagelaw06.StreamApplies', WHERE WHAT IT READS IS OF BULK AT MOST 1048576: true; the input reads as it did. -/
def streamAppliesUptoRow : OpenClaim := { program := "ytcoiincgclglbaa", sum := "4173742ffc845d5b12f62241ddecbe7bbdb44460dfd3e9a7c1473c234438983a", func := "stowage/stowagelaw06.StreamApplies", spec := "streamApplies", inPlace := ["math/bits.Add64"], unfollowed := true, recurses := true, apart := false, narrowed := true }
def StreamAppliesUptoSaid : Prop := streamAppliesUptoRow.holds Try.pinned (OpenSpec.upto streamAppliesSpec)

/-- 'stowagelaw06.StreamCounts', WHERE WHAT IT READS IS OF BULK AT MOST 1048576: true; the input reads as it did. -/
def streamCountsUptoRow : OpenClaim := { program := "ytcoiincgclglbaa", sum := "4173742ffc845d5b12f62241ddecbe7bbdb44460dfd3e9a7c1473c234438983a", func := "stowage/stowagelaw06.StreamCounts", spec := "streamCounts", inPlace := ["math/bits.Add64"], unfollowed := true, recurses := true, apart := false, narrowed := true }
def StreamCountsUptoSaid : Prop := streamCountsUptoRow.holds Try.pinned (OpenSpec.upto streamCountsSpec)

/-- 'stowagelaw06.StreamBack', WHERE WHAT IT READS IS OF BULK AT MOST 1048576: true; the input reads as it did. -/
def streamBackUptoRow : OpenClaim := { program := "ytcoiincgclglbaa", sum := "4173742ffc845d5b12f62241ddecbe7bbdb44460dfd3e9a7c1473c234438983a", func := "stowage/stowagelaw06.StreamBack", spec := "streamBack", inPlace := ["math/bits.Add64"], unfollowed := true, recurses := true, apart := false, narrowed := true }
def StreamBackUptoSaid : Prop := streamBackUptoRow.holds Try.pinned (OpenSpec.upto streamBackSpec)

/-- 'stowagelaw06.StreamApart', WHERE WHAT IT READS IS OF BULK AT MOST 1048576: true; the input reads as it did. -/
def streamApartUptoRow : OpenClaim := { program := "ytcoiincgclglbaa", sum := "4173742ffc845d5b12f62241ddecbe7bbdb44460dfd3e9a7c1473c234438983a", func := "stowage/stowagelaw06.StreamApart", spec := "streamApart", inPlace := ["math/bits.Add64"], unfollowed := true, recurses := true, apart := false, narrowed := true }
def StreamApartUptoSaid : Prop := streamApartUptoRow.holds Try.pinned (OpenSpec.upto streamApartSpec)

/-- 'stowagelaw06.StreamParts', WHERE WHAT IT READS IS OF BULK AT MOST 1048576: true; the input reads as it did. -/
def streamPartsUptoRow : OpenClaim := { program := "ytcoiincgclglbaa", sum := "4173742ffc845d5b12f62241ddecbe7bbdb44460dfd3e9a7c1473c234438983a", func := "stowage/stowagelaw06.StreamParts", spec := "streamParts", inPlace := ["math/bits.Add64"], unfollowed := true, recurses := true, apart := false, narrowed := true }
def StreamPartsUptoSaid : Prop := streamPartsUptoRow.holds Try.pinned (OpenSpec.upto streamPartsSpec)

/-- 'stowagelaw06.StreamMasks', WHERE WHAT IT READS IS OF BULK AT MOST 1048576: true; the input reads as it did. -/
def streamMasksUptoRow : OpenClaim := { program := "ytcoiincgclglbaa", sum := "4173742ffc845d5b12f62241ddecbe7bbdb44460dfd3e9a7c1473c234438983a", func := "stowage/stowagelaw06.StreamMasks", spec := "streamMasks", inPlace := ["math/bits.Add64"], unfollowed := true, recurses := true, apart := false, narrowed := true }
def StreamMasksUptoSaid : Prop := streamMasksUptoRow.holds Try.pinned (OpenSpec.upto streamMasksSpec)

end Rows
end Go.Proofs.Ytcoiincgclglbaa
