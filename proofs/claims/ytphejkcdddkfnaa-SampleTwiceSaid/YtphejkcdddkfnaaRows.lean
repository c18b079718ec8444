/-
  No cell of these rows narrows 'for every input' (looked for: loops, veiled, ifaces, maps, wideKeys, modest, calm, conditions, laid).
  DERIVED. THE GIVEN ROWS OF THIS SEAT. 6 by the template 'for every input the law returns true; each argument reads behind the call as it read before'; 0 by the template 'total and deterministic' (their statements: YtphejkcdddkfnaaTotals.lean).
  GIVEN WITH THE SEED: the statements are not yours to turn. If you find one false, say at which input.
  Laid BY PROGRAM, IN A SANDBOX (cutbox-rows.mjs): the forced cells as the released guide's own fill.sh prints them over the translation 683fe4bd9cac8ac8… (all of the seat's roots in one cut). By AI agents, Wed Nov 11 2026. No macro, syntax, notation, axiom, sorry.
-/
import Derived.Test.YtphejkcdddkfnaaChecked
import GoSem.Claim
import GoSem.ClaimJoined
import GoSem.ClaimMapViews
import Derived.JoinedTies
import Derived.KernelRfl
namespace Go.Proofs.Ytphejkcdddkfnaa
/- THE CELL 'sum', in the pinned program and in every row, IS THE sha256 OF THE DUMP (.gsa) THAT YtphejkcdddkfnaaProg.lean LOADS. Nothing in Lean hashes anything: it is a label: what it is worth is what the hold of that sum in a sandbox is worth. -/
noncomputable def Try.pinned : Pinned := { name := "ytphejkcdddkfnaa", sum := "683fe4bd9cac8ac8ea542891a3e7e1a20d50698331452af9e9843a7026774811", checked := Try.checked }
namespace Rows
def none {H : Type} : Left H := { results := [], args := [] }

/-- 'stowagelaw10.SampleHashes': WHATEVER THE INPUT: true; the input reads as it did. -/
def sampleHashesSpec : ChangeSpec := { name := "sampleHashes", fn := fun _ => fun
  | [d1, d2, d3] => { results := [.lit (.bool true)], args := [d1, d2, d3] }
  | _ => none }
def sampleHashesRow : OpenClaim := { program := "ytphejkcdddkfnaa", sum := "683fe4bd9cac8ac8ea542891a3e7e1a20d50698331452af9e9843a7026774811", func := "stowage/stowagelaw10.SampleHashes", spec := "sampleHashes", apart := false }
def SampleHashesSaid : Prop := sampleHashesRow.holds Try.pinned (OpenSpec.ofChange sampleHashesSpec)

/-- ITS FALSE NEIGHBOUR: 'it returns false'. Refute it at one input. -/
def sampleHashesWrong : ChangeSpec := { name := "sampleHashes", fn := fun _ => fun
  | [d1, d2, d3] => { results := [.lit (.bool false)], args := [d1, d2, d3] }
  | _ => none }
def SampleHashesWrongFalsely : Prop := sampleHashesRow.holds Try.pinned (OpenSpec.ofChange sampleHashesWrong)

/-- 'stowagelaw10.SampleDistances': WHATEVER THE INPUT: true; the input reads as it did. -/
def sampleDistancesSpec : ChangeSpec := { name := "sampleDistances", fn := fun _ => fun
  | [d] => { results := [.lit (.bool true)], args := [d] }
  | _ => none }
def sampleDistancesRow : OpenClaim := { program := "ytphejkcdddkfnaa", sum := "683fe4bd9cac8ac8ea542891a3e7e1a20d50698331452af9e9843a7026774811", func := "stowage/stowagelaw10.SampleDistances", spec := "sampleDistances", apart := false }
def SampleDistancesSaid : Prop := sampleDistancesRow.holds Try.pinned (OpenSpec.ofChange sampleDistancesSpec)

/-- ITS FALSE NEIGHBOUR: 'it returns false'. Refute it at one input. -/
def sampleDistancesWrong : ChangeSpec := { name := "sampleDistances", fn := fun _ => fun
  | [d] => { results := [.lit (.bool false)], args := [d] }
  | _ => none }
def SampleDistancesWrongFalsely : Prop := sampleDistancesRow.holds Try.pinned (OpenSpec.ofChange sampleDistancesWrong)

/-- 'stowagelaw10.SampleHistograms': WHATEVER THE INPUT: true; the input reads as it did. -/
def sampleHistogramsSpec : ChangeSpec := { name := "sampleHistograms", fn := fun _ => fun
  | [d1, d2] => { results := [.lit (.bool true)], args := [d1, d2] }
  | _ => none }
def sampleHistogramsRow : OpenClaim := { program := "ytphejkcdddkfnaa", sum := "683fe4bd9cac8ac8ea542891a3e7e1a20d50698331452af9e9843a7026774811", func := "stowage/stowagelaw10.SampleHistograms", spec := "sampleHistograms", unfollowed := true, recurses := true, apart := false }
def SampleHistogramsSaid : Prop := sampleHistogramsRow.holds Try.pinned (OpenSpec.ofChange sampleHistogramsSpec)

/-- ITS FALSE NEIGHBOUR: 'it returns false'. Refute it at one input. -/
def sampleHistogramsWrong : ChangeSpec := { name := "sampleHistograms", fn := fun _ => fun
  | [d1, d2] => { results := [.lit (.bool false)], args := [d1, d2] }
  | _ => none }
def SampleHistogramsWrongFalsely : Prop := sampleHistogramsRow.holds Try.pinned (OpenSpec.ofChange sampleHistogramsWrong)

/-- 'stowagelaw10.SampleNames': WHATEVER THE INPUT: true; the input reads as it did. -/
def sampleNamesSpec : ChangeSpec := { name := "sampleNames", fn := fun _ => fun
  | [d1, d2, d3] => { results := [.lit (.bool true)], args := [d1, d2, d3] }
  | _ => none }
def sampleNamesRow : OpenClaim := { program := "ytphejkcdddkfnaa", sum := "683fe4bd9cac8ac8ea542891a3e7e1a20d50698331452af9e9843a7026774811", func := "stowage/stowagelaw10.SampleNames", spec := "sampleNames", apart := false }
def SampleNamesSaid : Prop := sampleNamesRow.holds Try.pinned (OpenSpec.ofChange sampleNamesSpec)

/-- ITS FALSE NEIGHBOUR: 'it returns false'. Refute it at one input. -/
def sampleNamesWrong : ChangeSpec := { name := "sampleNames", fn := fun _ => fun
  | [d1, d2, d3] => { results := [.lit (.bool false)], args := [d1, d2, d3] }
  | _ => none }
def SampleNamesWrongFalsely : Prop := sampleNamesRow.holds Try.pinned (OpenSpec.ofChange sampleNamesWrong)

/-- 'stowagelaw10.SampleFirst': WHATEVER THE INPUT: true; the input reads as it did. -/
def sampleFirstSpec : ChangeSpec := { name := "sampleFirst", fn := fun _ => fun
  | [d] => { results := [.lit (.bool true)], args := [d] }
  | _ => none }
def sampleFirstRow : OpenClaim := { program := "ytphejkcdddkfnaa", sum := "683fe4bd9cac8ac8ea542891a3e7e1a20d50698331452af9e9843a7026774811", func := "stowage/stowagelaw10.SampleFirst", spec := "sampleFirst", unfollowed := true, recurses := true, apart := false }
def SampleFirstSaid : Prop := sampleFirstRow.holds Try.pinned (OpenSpec.ofChange sampleFirstSpec)

/-- ITS FALSE NEIGHBOUR: 'it returns false'. Refute it at one input. -/
def sampleFirstWrong : ChangeSpec := { name := "sampleFirst", fn := fun _ => fun
  | [d] => { results := [.lit (.bool false)], args := [d] }
  | _ => none }
def SampleFirstWrongFalsely : Prop := sampleFirstRow.holds Try.pinned (OpenSpec.ofChange sampleFirstWrong)

/-- 'stowagelaw10.SampleTwice': WHATEVER THE INPUT: true; the input reads as it did. -/
def sampleTwiceSpec : ChangeSpec := { name := "sampleTwice", fn := fun _ => fun
  | [d] => { results := [.lit (.bool true)], args := [d] }
  | _ => none }
def sampleTwiceRow : OpenClaim := { program := "ytphejkcdddkfnaa", sum := "683fe4bd9cac8ac8ea542891a3e7e1a20d50698331452af9e9843a7026774811", func := "stowage/stowagelaw10.SampleTwice", spec := "sampleTwice", apart := false }
def SampleTwiceSaid : Prop := sampleTwiceRow.holds Try.pinned (OpenSpec.ofChange sampleTwiceSpec)

/-- ITS FALSE NEIGHBOUR: 'it returns false'. Refute it at one input. -/
def sampleTwiceWrong : ChangeSpec := { name := "sampleTwice", fn := fun _ => fun
  | [d] => { results := [.lit (.bool false)], args := [d] }
  | _ => none }
def SampleTwiceWrongFalsely : Prop := sampleTwiceRow.holds Try.pinned (OpenSpec.ofChange sampleTwiceWrong)

/- THE SECOND FORM. 'bulk': how many values and letters a reading holds, each counted each time it is reached (what is shared counts as often as it is met; a slice's spare places count too). A statement '..UptoSaid' is the law's where the arguments, and the package variables that the reading takes, are together of bulk at most 1048576: NARROWER than '..Said'. Prove '..Said' where nothing that the law and all that it calls make is longer than what came in: it says more and counts as full. Else prove '..UptoSaid'. A law counts once. -/
mutual
def uptoBulk {H : Type} : DataW H → Nat
  | .lit (.string bytes) => bytes.length + 1
  | .lit _ => 1
  | .nil => 1
  | .ptr d => uptoBulk d + 1
  | .slice elems spare => uptoBulkAll elems + uptoBulkAll spare + 1
  | .agg parts => uptoBulkAll parts + 1
  | .iface _ d => uptoBulk d + 1
  | .map entries => uptoBulkEntries entries + 1
  | .held _ => 1
def uptoBulkAll {H : Type} : List (DataW H) → Nat
  | [] => 0
  | d :: r => uptoBulk d + uptoBulkAll r
def uptoBulkEntries {H : Type} : List (Lit × DataW H) → Nat
  | [] => 0
  | x :: r => uptoBulkEntry x + uptoBulkEntries r
def uptoBulkEntry {H : Type} : Lit × DataW H → Nat
  | (.string bytes, d) => bytes.length + uptoBulk d + 1
  | (_, d) => uptoBulk d + 1
 end
def uptoSmall : (H : Type) → List (DataW H) → Bool := fun _ ds => decide (uptoBulkAll ds ≤ 1048576)
def OpenSpec.upto (s : _root_.Go.ChangeSpec) : _root_.Go.OpenSpec := { _root_.Go.OpenSpec.ofChange s with cond := some uptoSmall }

/-- 'stowagelaw10.SampleHashes', WHERE WHAT IT READS IS OF BULK AT MOST 1048576: true; the input reads as it did. -/
def sampleHashesUptoRow : OpenClaim := { program := "ytphejkcdddkfnaa", sum := "683fe4bd9cac8ac8ea542891a3e7e1a20d50698331452af9e9843a7026774811", func := "stowage/stowagelaw10.SampleHashes", spec := "sampleHashes", apart := false, narrowed := true }
def SampleHashesUptoSaid : Prop := sampleHashesUptoRow.holds Try.pinned (OpenSpec.upto sampleHashesSpec)

/-- 'stowagelaw10.SampleDistances', WHERE WHAT IT READS IS OF BULK AT MOST 1048576: true; the input reads as it did. -/
def sampleDistancesUptoRow : OpenClaim := { program := "ytphejkcdddkfnaa", sum := "683fe4bd9cac8ac8ea542891a3e7e1a20d50698331452af9e9843a7026774811", func := "stowage/stowagelaw10.SampleDistances", spec := "sampleDistances", apart := false, narrowed := true }
def SampleDistancesUptoSaid : Prop := sampleDistancesUptoRow.holds Try.pinned (OpenSpec.upto sampleDistancesSpec)

/-- 'stowagelaw10.SampleHistograms', WHERE WHAT IT READS IS OF BULK AT MOST 1048576: true; the input reads as it did. -/
def sampleHistogramsUptoRow : OpenClaim := { program := "ytphejkcdddkfnaa", sum := "683fe4bd9cac8ac8ea542891a3e7e1a20d50698331452af9e9843a7026774811", func := "stowage/stowagelaw10.SampleHistograms", spec := "sampleHistograms", unfollowed := true, recurses := true, apart := false, narrowed := true }
def SampleHistogramsUptoSaid : Prop := sampleHistogramsUptoRow.holds Try.pinned (OpenSpec.upto sampleHistogramsSpec)

/-- 'stowagelaw10.SampleNames', WHERE WHAT IT READS IS OF BULK AT MOST 1048576: true; the input reads as it did. -/
def sampleNamesUptoRow : OpenClaim := { program := "ytphejkcdddkfnaa", sum := "683fe4bd9cac8ac8ea542891a3e7e1a20d50698331452af9e9843a7026774811", func := "stowage/stowagelaw10.SampleNames", spec := "sampleNames", apart := false, narrowed := true }
def SampleNamesUptoSaid : Prop := sampleNamesUptoRow.holds Try.pinned (OpenSpec.upto sampleNamesSpec)

/-- 'stowagelaw10.SampleFirst', WHERE WHAT IT READS IS OF BULK AT MOST 1048576: true; the input reads as it did. -/
def sampleFirstUptoRow : OpenClaim := { program := "ytphejkcdddkfnaa", sum := "683fe4bd9cac8ac8ea542891a3e7e1a20d50698331452af9e9843a7026774811", func := "stowage/stowagelaw10.SampleFirst", spec := "sampleFirst", unfollowed := true, recurses := true, apart := false, narrowed := true }
def SampleFirstUptoSaid : Prop := sampleFirstUptoRow.holds Try.pinned (OpenSpec.upto sampleFirstSpec)

/-- 'stowagelaw10.SampleTwice', WHERE WHAT IT READS IS OF BULK AT MOST 1048576: true; the input reads as it did. -/
def sampleTwiceUptoRow : OpenClaim := { program := "ytphejkcdddkfnaa", sum := "683fe4bd9cac8ac8ea542891a3e7e1a20d50698331452af9e9843a7026774811", func := "stowage/stowagelaw10.SampleTwice", spec := "sampleTwice", apart := false, narrowed := true }
def SampleTwiceUptoSaid : Prop := sampleTwiceUptoRow.holds Try.pinned (OpenSpec.upto sampleTwiceSpec)

end Rows
end Go.Proofs.Ytphejkcdddkfnaa
