/-
  No cell of these rows narrows 'for every input' (looked for: loops, veiled, ifaces, maps, wideKeys, modest, calm, conditions, laid).
  DERIVED. THE GIVEN ROWS OF THIS SEAT. 4 by the template 'for every input the law returns true; each argument reads behind the call as it read before'; 0 by the template 'total and deterministic' (their statements: YtbnhkplhmanmoaaGreatTotals.lean).
  GIVEN WITH THE SEED: the statements are not yours to turn. If you find one false, say at which input.
  Laid BY PROGRAM, IN A SANDBOX (cutbox-rows.mjs): the forced cells as the released guide's own fill.sh prints them over the translation e6c156b13b698395… (all of the seat's roots in one cut). By AI agents, Wed Nov 11 2026. No macro, syntax, notation, axiom, sorry.
-/
import Derived.Test.YtbnhkplhmanmoaaGreatChecked
import GoSem.Claim
import GoSem.ClaimJoined
import GoSem.ClaimMapViews
import Derived.JoinedTies
import Derived.KernelRfl
namespace Go.Proofs.YtbnhkplhmanmoaaGreat
/- THE CELL 'sum', in the pinned program and in every row, IS THE sha256 OF THE DUMP (.gsa) THAT YtbnhkplhmanmoaaGreatProg.lean LOADS. Nothing in Lean hashes anything: it is a label: what it is worth is what the hold of that sum in a sandbox is worth. -/
noncomputable def Tryz.pinned : Pinned := { name := "ytbnhkplhmanmoaagreat", sum := "e6c156b13b6983955eaa11c984888003784f0ddd28678cff649bf84d771b8c1b", checked := Tryz.checked }
namespace Rows
def none {H : Type} : Left H := { results := [], args := [] }

/-- 'stowagelaw17.VaultPlays': WHATEVER THE INPUT: true; the input reads as it did. -/
def vaultPlaysSpec : ChangeSpec := { name := "vaultPlays", fn := fun _ => fun
  | [d1, d2] => { results := [.lit (.bool true)], args := [d1, d2] }
  | _ => none }
def vaultPlaysRow : OpenClaim := { program := "ytbnhkplhmanmoaagreat", sum := "e6c156b13b6983955eaa11c984888003784f0ddd28678cff649bf84d771b8c1b", func := "stowage/stowagelaw17.VaultPlays", spec := "vaultPlays", unfollowed := true, recurses := true, apart := false }
def VaultPlaysSaid : Prop := vaultPlaysRow.holds Tryz.pinned (OpenSpec.ofChange vaultPlaysSpec)

/-- ITS FALSE NEIGHBOUR: 'it returns false'. Refute it at one input. -/
def vaultPlaysWrong : ChangeSpec := { name := "vaultPlays", fn := fun _ => fun
  | [d1, d2] => { results := [.lit (.bool false)], args := [d1, d2] }
  | _ => none }
def VaultPlaysWrongFalsely : Prop := vaultPlaysRow.holds Tryz.pinned (OpenSpec.ofChange vaultPlaysWrong)

/-- 'stowagelaw17.VaultArgs': WHATEVER THE INPUT: true; the input reads as it did. -/
def vaultArgsSpec : ChangeSpec := { name := "vaultArgs", fn := fun _ => fun
  | [d1, d2] => { results := [.lit (.bool true)], args := [d1, d2] }
  | _ => none }
def vaultArgsRow : OpenClaim := { program := "ytbnhkplhmanmoaagreat", sum := "e6c156b13b6983955eaa11c984888003784f0ddd28678cff649bf84d771b8c1b", func := "stowage/stowagelaw17.VaultArgs", spec := "vaultArgs", unfollowed := true, recurses := true, apart := false }
def VaultArgsSaid : Prop := vaultArgsRow.holds Tryz.pinned (OpenSpec.ofChange vaultArgsSpec)

/-- ITS FALSE NEIGHBOUR: 'it returns false'. Refute it at one input. -/
def vaultArgsWrong : ChangeSpec := { name := "vaultArgs", fn := fun _ => fun
  | [d1, d2] => { results := [.lit (.bool false)], args := [d1, d2] }
  | _ => none }
def VaultArgsWrongFalsely : Prop := vaultArgsRow.holds Tryz.pinned (OpenSpec.ofChange vaultArgsWrong)

/-- 'stowagelaw17.VaultOwn': WHATEVER THE INPUT: true; the input reads as it did. -/
def vaultOwnSpec : ChangeSpec := { name := "vaultOwn", fn := fun _ => fun
  | [d1, d2] => { results := [.lit (.bool true)], args := [d1, d2] }
  | _ => none }
def vaultOwnRow : OpenClaim := { program := "ytbnhkplhmanmoaagreat", sum := "e6c156b13b6983955eaa11c984888003784f0ddd28678cff649bf84d771b8c1b", func := "stowage/stowagelaw17.VaultOwn", spec := "vaultOwn", unfollowed := true, recurses := true, apart := false }
def VaultOwnSaid : Prop := vaultOwnRow.holds Tryz.pinned (OpenSpec.ofChange vaultOwnSpec)

/-- ITS FALSE NEIGHBOUR: 'it returns false'. Refute it at one input. -/
def vaultOwnWrong : ChangeSpec := { name := "vaultOwn", fn := fun _ => fun
  | [d1, d2] => { results := [.lit (.bool false)], args := [d1, d2] }
  | _ => none }
def VaultOwnWrongFalsely : Prop := vaultOwnRow.holds Tryz.pinned (OpenSpec.ofChange vaultOwnWrong)

/-- 'stowagelaw17.VaultGrows': WHATEVER THE INPUT: true; the input reads as it did. -/
def vaultGrowsSpec : ChangeSpec := { name := "vaultGrows", fn := fun _ => fun
  | [d1, d2] => { results := [.lit (.bool true)], args := [d1, d2] }
  | _ => none }
def vaultGrowsRow : OpenClaim := { program := "ytbnhkplhmanmoaagreat", sum := "e6c156b13b6983955eaa11c984888003784f0ddd28678cff649bf84d771b8c1b", func := "stowage/stowagelaw17.VaultGrows", spec := "vaultGrows", unfollowed := true, recurses := true, apart := false }
def VaultGrowsSaid : Prop := vaultGrowsRow.holds Tryz.pinned (OpenSpec.ofChange vaultGrowsSpec)

/-- ITS FALSE NEIGHBOUR: 'it returns false'. Refute it at one input. -/
def vaultGrowsWrong : ChangeSpec := { name := "vaultGrows", fn := fun _ => fun
  | [d1, d2] => { results := [.lit (.bool false)], args := [d1, d2] }
  | _ => none }
def VaultGrowsWrongFalsely : Prop := vaultGrowsRow.holds Tryz.pinned (OpenSpec.ofChange vaultGrowsWrong)

/- THE SECOND FORM. 'bulk': how many values and letters a reading holds, each counted each time it is reached (what is shared counts as often as it is met; a slice's spare places count too). A statement '..UptoSaid' is the law's where the arguments, and the package variables that the reading takes, are together of bulk at most 1048576: NARROWER than '..Said'. Prove '..Said' where nothing that the law and all that it calls make is longer than what came in: it says more and counts as full. Else prove '..UptoSaid'. A law counts once. -/
mutual
def uptoBulk {H : Type} : DataW H → Nat
  | .lit (.string bytes) => bytes.length + 1
  | .lit _ => 1
  | .nil => 1
  | .ptr d => uptoBulk d + 1
  | .slice elems spare => uptoBulkAll elems + uptoBulkAll spare + 1
  | .agg parts => uptoBulkAll parts + 1
  | .iface _ d => uptoBulk d + 1
  | .map entries => uptoBulkEntries entries + 1
  | .held _ => 1
def uptoBulkAll {H : Type} : List (DataW H) → Nat
  | [] => 0
  | d :: r => uptoBulk d + uptoBulkAll r
def uptoBulkEntries {H : Type} : List (Lit × DataW H) → Nat
  | [] => 0
  | x :: r => uptoBulkEntry x + uptoBulkEntries r
def uptoBulkEntry {H : Type} : Lit × DataW H → Nat
  | (.string bytes, d) => bytes.length + uptoBulk d + 1
  | (_, d) => uptoBulk d + 1
 end
def uptoSmall : (H : Type) → List (DataW H) → Bool := fun _ ds => decide (uptoBulkAll ds ≤ 1048576)
def OpenSpec.upto (s : _root_.Go.ChangeSpec) : _root_.Go.OpenSpec := { _root_.Go.OpenSpec.ofChange s with cond := some uptoSmall }

/-- 'stowagelaw17.VaultPlays', WHERE WHAT IT READS IS OF BULK AT MOST 1048576: true; the input reads as it did. -/
def vaultPlaysUptoRow : OpenClaim := { program := "ytbnhkplhmanmoaagreat", sum := "e6c156b13b6983955eaa11c984888003784f0ddd28678cff649bf84d771b8c1b", func := "stowage/stowagelaw17.VaultPlays", spec := "vaultPlays", unfollowed := true, recurses := true, apart := false, narrowed := true }
def VaultPlaysUptoSaid : Prop := vaultPlaysUptoRow.holds Tryz.pinned (OpenSpec.upto vaultPlaysSpec)

/-- 'stowagelaw17.VaultArgs', WHERE WHAT IT READS IS OF BULK AT MOST 1048576: true; the input reads as it did. -/
def vaultArgsUptoRow : OpenClaim := { program := "ytbnhkplhmanmoaagreat", sum := "e6c156b13b6983955eaa11c984888003784f0ddd28678cff649bf84d771b8c1b", func := "stowage/stowagelaw17.VaultArgs", spec := "vaultArgs", unfollowed := true, recurses := true, apart := false, narrowed := true }
def VaultArgsUptoSaid : Prop := vaultArgsUptoRow.holds Tryz.pinned (OpenSpec.upto vaultArgsSpec)

/-- 'stowagelaw17.VaultOwn', WHERE WHAT IT READS IS OF BULK AT MOST 1048576: true; the input reads as it did. -/
def vaultOwnUptoRow : OpenClaim := { program := "ytbnhkplhmanmoaagreat", sum := "e6c156b13b6983955eaa11c984888003784f0ddd28678cff649bf84d771b8c1b", func := "stowage/stowagelaw17.VaultOwn", spec := "vaultOwn", unfollowed := true, recurses := true, apart := false, narrowed := true }
def VaultOwnUptoSaid : Prop := vaultOwnUptoRow.holds Tryz.pinned (OpenSpec.upto vaultOwnSpec)

/-- 'stowagelaw17.VaultGrows', WHERE WHAT IT READS IS OF BULK AT MOST 1048576: true; the input reads as it did. -/
def vaultGrowsUptoRow : OpenClaim := { program := "ytbnhkplhmanmoaagreat", sum := "e6c156b13b6983955eaa11c984888003784f0ddd28678cff649bf84d771b8c1b", func := "stowage/stowagelaw17.VaultGrows", spec := "vaultGrows", unfollowed := true, recurses := true, apart := false, narrowed := true }
def VaultGrowsUptoSaid : Prop := vaultGrowsUptoRow.holds Tryz.pinned (OpenSpec.upto vaultGrowsSpec)

end Rows
end Go.Proofs.YtbnhkplhmanmoaaGreat
