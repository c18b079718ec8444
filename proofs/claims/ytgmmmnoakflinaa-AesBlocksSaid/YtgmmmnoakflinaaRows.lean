/-
  No cell of these rows narrows 'for every input' (looked for: loops, veiled, ifaces, maps, wideKeys, modest, calm, conditions, laid).
  DERIVED. THE GIVEN ROWS OF THIS SEAT. 5 by the template 'for every input the law returns true; each argument reads behind the call as it read before'; 0 by the template 'total and deterministic' (their statements: YtgmmmnoakflinaaTotals.lean).
  GIVEN WITH THE SEED: the statements are not yours to turn. If you find one false, say at which input.
  Laid BY PROGRAM, IN A SANDBOX (cutbox-rows.mjs): the forced cells as the released guide's own fill.sh prints them over the translation cf244a87fff61607… (all of the seat's roots in one cut). By AI agents, Wed Nov 11 2026. No macro, syntax, notation, axiom, sorry.
-/
import Derived.Test.YtgmmmnoakflinaaChecked
import GoSem.Claim
import GoSem.ClaimJoined
import GoSem.ClaimMapViews
import Derived.JoinedTies
import Derived.KernelRfl
namespace Go.Proofs.Ytgmmmnoakflinaa
/- THE CELL 'sum', in the pinned program and in every row, IS THE sha256 OF THE DUMP (.gsa) THAT YtgmmmnoakflinaaProg.lean LOADS. Nothing in Lean hashes anything: it is a label: what it is worth is what the hold of that sum in a sandbox is worth. -/
noncomputable def Try.pinned : Pinned := { name := "ytgmmmnoakflinaa", sum := "cf244a87fff61607a96949ca3a20d42f95dd5b99fa8c11ee9aea799ac88761be", checked := Try.checked }
namespace Rows
def none {H : Type} : Left H := { results := [], args := [] }

/-- 'stowagelaw05.AesBlocks': WHATEVER THE INPUT: true; the input reads as it did. -/
def aesBlocksSpec : ChangeSpec := { name := "aesBlocks", fn := fun _ => fun
  | [d1, d2] => { results := [.lit (.bool true)], args := [d1, d2] }
  | _ => none }
def aesBlocksRow : OpenClaim := { program := "ytgmmmnoakflinaa", sum := "cf244a87fff61607a96949ca3a20d42f95dd5b99fa8c11ee9aea799ac88761be", func := "stowage/stowagelaw05.AesBlocks", spec := "aesBlocks", apart := false }
def AesBlocksSaid : Prop := aesBlocksRow.holds Try.pinned (OpenSpec.ofChange aesBlocksSpec)

/-- ITS FALSE NEIGHBOUR: 'it returns false'. Refute it at one input. -/
def aesBlocksWrong : ChangeSpec := { name := "aesBlocks", fn := fun _ => fun
  | [d1, d2] => { results := [.lit (.bool false)], args := [d1, d2] }
  | _ => none }
def AesBlocksWrongFalsely : Prop := aesBlocksRow.holds Try.pinned (OpenSpec.ofChange aesBlocksWrong)

/-- 'stowagelaw05.AesBack': WHATEVER THE INPUT: true; the input reads as it did. -/
def aesBackSpec : ChangeSpec := { name := "aesBack", fn := fun _ => fun
  | [d1, d2] => { results := [.lit (.bool true)], args := [d1, d2] }
  | _ => none }
def aesBackRow : OpenClaim := { program := "ytgmmmnoakflinaa", sum := "cf244a87fff61607a96949ca3a20d42f95dd5b99fa8c11ee9aea799ac88761be", func := "stowage/stowagelaw05.AesBack", spec := "aesBack", apart := false }
def AesBackSaid : Prop := aesBackRow.holds Try.pinned (OpenSpec.ofChange aesBackSpec)

/-- ITS FALSE NEIGHBOUR: 'it returns false'. Refute it at one input. -/
def aesBackWrong : ChangeSpec := { name := "aesBack", fn := fun _ => fun
  | [d1, d2] => { results := [.lit (.bool false)], args := [d1, d2] }
  | _ => none }
def AesBackWrongFalsely : Prop := aesBackRow.holds Try.pinned (OpenSpec.ofChange aesBackWrong)

/-- 'stowagelaw05.AesNone': WHATEVER THE INPUT: true; the input reads as it did. -/
def aesNoneSpec : ChangeSpec := { name := "aesNone", fn := fun _ => fun
  | [d] => { results := [.lit (.bool true)], args := [d] }
  | _ => none }
def aesNoneRow : OpenClaim := { program := "ytgmmmnoakflinaa", sum := "cf244a87fff61607a96949ca3a20d42f95dd5b99fa8c11ee9aea799ac88761be", func := "stowage/stowagelaw05.AesNone", spec := "aesNone", apart := false }
def AesNoneSaid : Prop := aesNoneRow.holds Try.pinned (OpenSpec.ofChange aesNoneSpec)

/-- ITS FALSE NEIGHBOUR: 'it returns false'. Refute it at one input. -/
def aesNoneWrong : ChangeSpec := { name := "aesNone", fn := fun _ => fun
  | [d] => { results := [.lit (.bool false)], args := [d] }
  | _ => none }
def AesNoneWrongFalsely : Prop := aesNoneRow.holds Try.pinned (OpenSpec.ofChange aesNoneWrong)

/-- 'stowagelaw05.AesApart': WHATEVER THE INPUT: true; the input reads as it did. -/
def aesApartSpec : ChangeSpec := { name := "aesApart", fn := fun _ => fun
  | [d1, d2, d3] => { results := [.lit (.bool true)], args := [d1, d2, d3] }
  | _ => none }
def aesApartRow : OpenClaim := { program := "ytgmmmnoakflinaa", sum := "cf244a87fff61607a96949ca3a20d42f95dd5b99fa8c11ee9aea799ac88761be", func := "stowage/stowagelaw05.AesApart", spec := "aesApart", apart := false }
def AesApartSaid : Prop := aesApartRow.holds Try.pinned (OpenSpec.ofChange aesApartSpec)

/-- ITS FALSE NEIGHBOUR: 'it returns false'. Refute it at one input. -/
def aesApartWrong : ChangeSpec := { name := "aesApart", fn := fun _ => fun
  | [d1, d2, d3] => { results := [.lit (.bool false)], args := [d1, d2, d3] }
  | _ => none }
def AesApartWrongFalsely : Prop := aesApartRow.holds Try.pinned (OpenSpec.ofChange aesApartWrong)

/-- 'stowagelaw05.AesOnto': WHATEVER THE INPUT: true; the input reads as it did. -/
def aesOntoSpec : ChangeSpec := { name := "aesOnto", fn := fun _ => fun
  | [d1, d2, d3] => { results := [.lit (.bool true)], args := [d1, d2, d3] }
  | _ => none }
def aesOntoRow : OpenClaim := { program := "ytgmmmnoakflinaa", sum := "cf244a87fff61607a96949ca3a20d42f95dd5b99fa8c11ee9aea799ac88761be", func := "stowage/stowagelaw05.AesOnto", spec := "aesOnto", apart := false }
def AesOntoSaid : Prop := aesOntoRow.holds Try.pinned (OpenSpec.ofChange aesOntoSpec)

/-- ITS FALSE NEIGHBOUR: 'it returns false'. Refute it at one input. -/
def aesOntoWrong : ChangeSpec := { name := "aesOnto", fn := fun _ => fun
  | [d1, d2, d3] => { results := [.lit (.bool false)], args := [d1, d2, d3] }
  | _ => none }
def AesOntoWrongFalsely : Prop := aesOntoRow.holds Try.pinned (OpenSpec.ofChange aesOntoWrong)

/- THE SECOND FORM. 'bulk': how many values and letters a reading holds, each counted each time it is reached (what is shared counts as often as it is met; a slice's spare places count too). A statement '..UptoSaid' is the law's where the arguments, and the package variables that the reading takes, are together of bulk at most 1048576: NARROWER than '..Said'. Prove '..Said' where nothing that the law and all that it calls make is longer than what came in: it says more and counts as full. Else prove '..UptoSaid'. A law counts once. -/
mutual
def uptoBulk {H : Type} : DataW H → Nat
  | .lit (.string bytes) => bytes.length + 1
  | .lit _ => 1
  | .nil => 1
  | .ptr d => uptoBulk d + 1
  | .slice elems spare => uptoBulkAll elems + uptoBulkAll spare + 1
  | .agg parts => uptoBulkAll parts + 1
  | .iface _ d => uptoBulk d + 1
  | .map entries => uptoBulkEntries entries + 1
  | .held _ => 1
def uptoBulkAll {H : Type} : List (DataW H) → Nat
  | [] => 0
  | d :: r => uptoBulk d + uptoBulkAll r
def uptoBulkEntries {H : Type} : List (Lit × DataW H) → Nat
  | [] => 0
  | x :: r => uptoBulkEntry x + uptoBulkEntries r
def uptoBulkEntry {H : Type} : Lit × DataW H → Nat
  | (.string bytes, d) => bytes.length + uptoBulk d + 1
  | (_, d) => uptoBulk d + 1
 end
def uptoSmall : (H : Type) → List (DataW H) → Bool := fun _ ds => decide (uptoBulkAll ds ≤ 1048576)
def OpenSpec.upto (s : _root_.Go.ChangeSpec) : _root_.Go.OpenSpec := { _root_.Go.OpenSpec.ofChange s with cond := some uptoSmall }

/-- 'stowagelaw05.AesBlocks', WHERE WHAT IT READS IS OF BULK AT MOST 1048576: true; the input reads as it did. -/
def aesBlocksUptoRow : OpenClaim := { program := "ytgmmmnoakflinaa", sum := "cf244a87fff61607a96949ca3a20d42f95dd5b99fa8c11ee9aea799ac88761be", func := "stowage/stowagelaw05.AesBlocks", spec := "aesBlocks", apart := false, narrowed := true }
def AesBlocksUptoSaid : Prop := aesBlocksUptoRow.holds Try.pinned (OpenSpec.upto aesBlocksSpec)

/-- 'stowagelaw05.AesBack', WHERE WHAT IT READS IS OF BULK AT MOST 1048576: true; the input reads as it did. -/
def aesBackUptoRow : OpenClaim := { program := "ytgmmmnoakflinaa", sum := "cf244a87fff61607a96949ca3a20d42f95dd5b99fa8c11ee9aea799ac88761be", func := "stowage/stowagelaw05.AesBack", spec := "aesBack", apart := false, narrowed := true }
def AesBackUptoSaid : Prop := aesBackUptoRow.holds Try.pinned (OpenSpec.upto aesBackSpec)

/-- 'stowagelaw05.AesNone', WHERE WHAT IT READS IS OF BULK AT MOST 1048576: true; the input reads as it did. -/
def aesNoneUptoRow : OpenClaim := { program := "ytgmmmnoakflinaa", sum := "cf244a87fff61607a96949ca3a20d42f95dd5b99fa8c11ee9aea799ac88761be", func := "stowage/stowagelaw05.AesNone", spec := "aesNone", apart := false, narrowed := true }
def AesNoneUptoSaid : Prop := aesNoneUptoRow.holds Try.pinned (OpenSpec.upto aesNoneSpec)

/-- 'stowagelaw05.AesApart', WHERE WHAT IT READS IS OF BULK AT MOST 1048576: true; the input reads as it did. -/
def aesApartUptoRow : OpenClaim := { program := "ytgmmmnoakflinaa", sum := "cf244a87fff61607a96949ca3a20d42f95dd5b99fa8c11ee9aea799ac88761be", func := "stowage/stowagelaw05.AesApart", spec := "aesApart", apart := false, narrowed := true }
def AesApartUptoSaid : Prop := aesApartUptoRow.holds Try.pinned (OpenSpec.upto aesApartSpec)

/-- 'stowagelaw05.AesOnto', WHERE WHAT IT READS IS OF BULK AT MOST 1048576: true; the input reads as it did. -/
def aesOntoUptoRow : OpenClaim := { program := "ytgmmmnoakflinaa", sum := "cf244a87fff61607a96949ca3a20d42f95dd5b99fa8c11ee9aea799ac88761be", func := "stowage/stowagelaw05.AesOnto", spec := "aesOnto", apart := false, narrowed := true }
def AesOntoUptoSaid : Prop := aesOntoUptoRow.holds Try.pinned (OpenSpec.upto aesOntoSpec)

end Rows
end Go.Proofs.Ytgmmmnoakflinaa
