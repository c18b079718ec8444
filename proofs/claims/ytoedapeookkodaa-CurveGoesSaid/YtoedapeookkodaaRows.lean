/-
  No cell of these rows narrows 'for every input' (looked for: loops, veiled, ifaces, maps, wideKeys, modest, calm, conditions, laid).
  DERIVED. THE GIVEN ROWS OF THIS SEAT. 7 by the template 'for every input the law returns true; each argument reads behind the call as it read before'; 0 by the template 'total and deterministic' (their statements: YtoedapeookkodaaTotals.lean).
  GIVEN WITH THE SEED: the statements are not yours to turn. If you find one false, say at which input.
  Laid BY PROGRAM, IN A SANDBOX (cutbox-rows.mjs): the forced cells as the released guide's own fill.sh prints them over the translation 0a43c4586095bc07… (all of the seat's roots in one cut). By AI agents, Wed Nov 11 2026. No macro, syntax, notation, axiom, sorry.
-/
import Derived.Test.YtoedapeookkodaaChecked
import GoSem.Claim
import GoSem.ClaimJoined
import GoSem.ClaimMapViews
import Derived.JoinedTies
import Derived.KernelRfl
namespace Go.Proofs.Ytoedapeookkodaa
/- THE CELL 'sum', in the pinned program and in every row, IS THE sha256 OF THE DUMP (.gsa) THAT YtoedapeookkodaaProg.lean LOADS. Nothing in Lean hashes anything: it is a label: what it is worth is what the hold of that sum in a sandbox is worth. -/
noncomputable def Try.pinned : Pinned := { name := "ytoedapeookkodaa", sum := "0a43c4586095bc078862ce5fc785e487fd70b1f57bff0fb6ce85a5b52ebbd91f", checked := Try.checked }
namespace Rows
def none {H : Type} : Left H := { results := [], args := [] }

/-- 'stowagelaw11.CurveMakes': WHATEVER THE INPUT: true; the input reads as it did. -/
def curveMakesSpec : ChangeSpec := { name := "curveMakes", fn := fun _ => fun
  | [d1, d2] => { results := [.lit (.bool true)], args := [d1, d2] }
  | _ => none }
def curveMakesRow : OpenClaim := { program := "ytoedapeookkodaa", sum := "0a43c4586095bc078862ce5fc785e487fd70b1f57bff0fb6ce85a5b52ebbd91f", func := "stowage/stowagelaw11.CurveMakes", spec := "curveMakes", apart := false }
def CurveMakesSaid : Prop := curveMakesRow.holds Try.pinned (OpenSpec.ofChange curveMakesSpec)

/-- ITS FALSE NEIGHBOUR: 'it returns false'. Refute it at one input. -/
def curveMakesWrong : ChangeSpec := { name := "curveMakes", fn := fun _ => fun
  | [d1, d2] => { results := [.lit (.bool false)], args := [d1, d2] }
  | _ => none }
def CurveMakesWrongFalsely : Prop := curveMakesRow.holds Try.pinned (OpenSpec.ofChange curveMakesWrong)

/-- 'stowagelaw11.CurveHulls': WHATEVER THE INPUT: true; the input reads as it did. -/
def curveHullsSpec : ChangeSpec := { name := "curveHulls", fn := fun _ => fun
  | [d] => { results := [.lit (.bool true)], args := [d] }
  | _ => none }
def curveHullsRow : OpenClaim := { program := "ytoedapeookkodaa", sum := "0a43c4586095bc078862ce5fc785e487fd70b1f57bff0fb6ce85a5b52ebbd91f", func := "stowage/stowagelaw11.CurveHulls", spec := "curveHulls", apart := false }
def CurveHullsSaid : Prop := curveHullsRow.holds Try.pinned (OpenSpec.ofChange curveHullsSpec)

/-- ITS FALSE NEIGHBOUR: 'it returns false'. Refute it at one input. -/
def curveHullsWrong : ChangeSpec := { name := "curveHulls", fn := fun _ => fun
  | [d] => { results := [.lit (.bool false)], args := [d] }
  | _ => none }
def CurveHullsWrongFalsely : Prop := curveHullsRow.holds Try.pinned (OpenSpec.ofChange curveHullsWrong)

/-- 'stowagelaw11.CurveTells': WHATEVER THE INPUT: true; the input reads as it did. -/
def curveTellsSpec : ChangeSpec := { name := "curveTells", fn := fun _ => fun
  | [d1, d2, d3] => { results := [.lit (.bool true)], args := [d1, d2, d3] }
  | _ => none }
def curveTellsRow : OpenClaim := { program := "ytoedapeookkodaa", sum := "0a43c4586095bc078862ce5fc785e487fd70b1f57bff0fb6ce85a5b52ebbd91f", func := "stowage/stowagelaw11.CurveTells", spec := "curveTells", inPlace := ["math.Float64frombits", "math.Float64bits"], apart := false }
def CurveTellsSaid : Prop := curveTellsRow.holds Try.pinned (OpenSpec.ofChange curveTellsSpec)

/-- ITS FALSE NEIGHBOUR: 'it returns false'. Refute it at one input. -/
def curveTellsWrong : ChangeSpec := { name := "curveTells", fn := fun _ => fun
  | [d1, d2, d3] => { results := [.lit (.bool false)], args := [d1, d2, d3] }
  | _ => none }
def CurveTellsWrongFalsely : Prop := curveTellsRow.holds Try.pinned (OpenSpec.ofChange curveTellsWrong)

/-- 'stowagelaw11.CurveParts': WHATEVER THE INPUT: true; the input reads as it did. -/
def curvePartsSpec : ChangeSpec := { name := "curveParts", fn := fun _ => fun
  | [d1, d2, d3, d4] => { results := [.lit (.bool true)], args := [d1, d2, d3, d4] }
  | _ => none }
def curvePartsRow : OpenClaim := { program := "ytoedapeookkodaa", sum := "0a43c4586095bc078862ce5fc785e487fd70b1f57bff0fb6ce85a5b52ebbd91f", func := "stowage/stowagelaw11.CurveParts", spec := "curveParts", inPlace := ["math.Float64frombits", "math.Float64bits"], apart := false }
def CurvePartsSaid : Prop := curvePartsRow.holds Try.pinned (OpenSpec.ofChange curvePartsSpec)

/-- ITS FALSE NEIGHBOUR: 'it returns false'. Refute it at one input. -/
def curvePartsWrong : ChangeSpec := { name := "curveParts", fn := fun _ => fun
  | [d1, d2, d3, d4] => { results := [.lit (.bool false)], args := [d1, d2, d3, d4] }
  | _ => none }
def CurvePartsWrongFalsely : Prop := curvePartsRow.holds Try.pinned (OpenSpec.ofChange curvePartsWrong)

/-- 'stowagelaw11.CurveCorners': WHATEVER THE INPUT: true; the input reads as it did. -/
def curveCornersSpec : ChangeSpec := { name := "curveCorners", fn := fun _ => fun
  | [d] => { results := [.lit (.bool true)], args := [d] }
  | _ => none }
def curveCornersRow : OpenClaim := { program := "ytoedapeookkodaa", sum := "0a43c4586095bc078862ce5fc785e487fd70b1f57bff0fb6ce85a5b52ebbd91f", func := "stowage/stowagelaw11.CurveCorners", spec := "curveCorners", apart := false }
def CurveCornersSaid : Prop := curveCornersRow.holds Try.pinned (OpenSpec.ofChange curveCornersSpec)

/-- ITS FALSE NEIGHBOUR: 'it returns false'. Refute it at one input. -/
def curveCornersWrong : ChangeSpec := { name := "curveCorners", fn := fun _ => fun
  | [d] => { results := [.lit (.bool false)], args := [d] }
  | _ => none }
def CurveCornersWrongFalsely : Prop := curveCornersRow.holds Try.pinned (OpenSpec.ofChange curveCornersWrong)

/-- 'stowagelaw11.CurveSteep': WHATEVER THE INPUT: true; the input reads as it did. -/
def curveSteepSpec : ChangeSpec := { name := "curveSteep", fn := fun _ => fun
  | [d1, d2] => { results := [.lit (.bool true)], args := [d1, d2] }
  | _ => none }
def curveSteepRow : OpenClaim := { program := "ytoedapeookkodaa", sum := "0a43c4586095bc078862ce5fc785e487fd70b1f57bff0fb6ce85a5b52ebbd91f", func := "stowage/stowagelaw11.CurveSteep", spec := "curveSteep", apart := false }
def CurveSteepSaid : Prop := curveSteepRow.holds Try.pinned (OpenSpec.ofChange curveSteepSpec)

/-- ITS FALSE NEIGHBOUR: 'it returns false'. Refute it at one input. -/
def curveSteepWrong : ChangeSpec := { name := "curveSteep", fn := fun _ => fun
  | [d1, d2] => { results := [.lit (.bool false)], args := [d1, d2] }
  | _ => none }
def CurveSteepWrongFalsely : Prop := curveSteepRow.holds Try.pinned (OpenSpec.ofChange curveSteepWrong)

/-- 'stowagelaw11.CurveGoes': WHATEVER THE INPUT: true; the input reads as it did. -/
def curveGoesSpec : ChangeSpec := { name := "curveGoes", fn := fun _ => fun
  | [d1, d2] => { results := [.lit (.bool true)], args := [d1, d2] }
  | _ => none }
def curveGoesRow : OpenClaim := { program := "ytoedapeookkodaa", sum := "0a43c4586095bc078862ce5fc785e487fd70b1f57bff0fb6ce85a5b52ebbd91f", func := "stowage/stowagelaw11.CurveGoes", spec := "curveGoes", apart := false }
def CurveGoesSaid : Prop := curveGoesRow.holds Try.pinned (OpenSpec.ofChange curveGoesSpec)

/-- ITS FALSE NEIGHBOUR: 'it returns false'. Refute it at one input. -/
def curveGoesWrong : ChangeSpec := { name := "curveGoes", fn := fun _ => fun
  | [d1, d2] => { results := [.lit (.bool false)], args := [d1, d2] }
  | _ => none }
def CurveGoesWrongFalsely : Prop := curveGoesRow.holds Try.pinned (OpenSpec.ofChange curveGoesWrong)

/- THE SECOND FORM. 'bulk': how many values and letters a reading holds, each counted each time it is reached (what is shared counts as often as it is met; a slice's spare places count too). A statement '..UptoSaid' is the law's where the arguments, and the package variables that the reading takes, are together of bulk at most 1048576: NARROWER than '..Said'. Prove '..Said' where nothing that the law and all that it calls make is longer than what came in: it says more and counts as full. Else prove '..UptoSaid'. A law counts once. -/
mutual
def uptoBulk {H : Type} : DataW H → Nat
  | .lit (.string bytes) => bytes.length + 1
  | .lit _ => 1
  | .nil => 1
  | .ptr d => uptoBulk d + 1
  | .slice elems spare => uptoBulkAll elems + uptoBulkAll spare + 1
  | .agg parts => uptoBulkAll parts + 1
  | .iface _ d => uptoBulk d + 1
  | .map entries => uptoBulkEntries entries + 1
  | .held _ => 1
def uptoBulkAll {H : Type} : List (DataW H) → Nat
  | [] => 0
  | d :: r => uptoBulk d + uptoBulkAll r
def uptoBulkEntries {H : Type} : List (Lit × DataW H) → Nat
  | [] => 0
  | x :: r => uptoBulkEntry x + uptoBulkEntries r
def uptoBulkEntry {H : Type} : Lit × DataW H → Nat
  | (.string bytes, d) => bytes.length + uptoBulk d + 1
  | (_, d) => uptoBulk d + 1
 end
def uptoSmall : (H : Type) → List (DataW H) → Bool := fun _ ds => decide (uptoBulkAll ds ≤ 1048576)
def OpenSpec.upto (s : _root_.Go.ChangeSpec) : _root_.Go.OpenSpec := { _root_.Go.OpenSpec.ofChange s with cond := some uptoSmall }

/-- 'stowagelaw11.CurveMakes', WHERE WHAT IT READS IS OF BULK AT MOST 1048576: true; the input reads as it did. -/
def curveMakesUptoRow : OpenClaim := { program := "ytoedapeookkodaa", sum := "0a43c4586095bc078862ce5fc785e487fd70b1f57bff0fb6ce85a5b52ebbd91f", func := "stowage/stowagelaw11.CurveMakes", spec := "curveMakes", apart := false, narrowed := true }
def CurveMakesUptoSaid : Prop := curveMakesUptoRow.holds Try.pinned (OpenSpec.upto curveMakesSpec)

/-- 'stowagelaw11.CurveHulls', WHERE WHAT IT READS IS OF BULK AT MOST 1048576: true; the input reads as it did. -/
def curveHullsUptoRow : OpenClaim := { program := "ytoedapeookkodaa", sum := "0a43c4586095bc078862ce5fc785e487fd70b1f57bff0fb6ce85a5b52ebbd91f", func := "stowage/stowagelaw11.CurveHulls", spec := "curveHulls", apart := false, narrowed := true }
def CurveHullsUptoSaid : Prop := curveHullsUptoRow.holds Try.pinned (OpenSpec.upto curveHullsSpec)

/-- 'stowagelaw11.CurveTells', WHERE WHAT IT READS IS OF BULK AT MOST 1048576: true; the input reads as it did. -/
def curveTellsUptoRow : OpenClaim := { program := "ytoedapeookkodaa", sum := "0a43c4586095bc078862ce5fc785e487fd70b1f57bff0fb6ce85a5b52ebbd91f", func := "stowage/stowagelaw11.CurveTells", spec := "curveTells", inPlace := ["math.Float64frombits", "math.Float64bits"], apart := false, narrowed := true }
def CurveTellsUptoSaid : Prop := curveTellsUptoRow.holds Try.pinned (OpenSpec.upto curveTellsSpec)

/-- 'stowagelaw11.CurveParts', WHERE WHAT IT READS IS OF BULK AT MOST 1048576: true; the input reads as it did. -/
def curvePartsUptoRow : OpenClaim := { program := "ytoedapeookkodaa", sum := "0a43c4586095bc078862ce5fc785e487fd70b1f57bff0fb6ce85a5b52ebbd91f", func := "stowage/stowagelaw11.CurveParts", spec := "curveParts", inPlace := ["math.Float64frombits", "math.Float64bits"], apart := false, narrowed := true }
def CurvePartsUptoSaid : Prop := curvePartsUptoRow.holds Try.pinned (OpenSpec.upto curvePartsSpec)

/-- 'stowagelaw11.CurveCorners', WHERE WHAT IT READS IS OF BULK AT MOST 1048576: true; the input reads as it did. -/
def curveCornersUptoRow : OpenClaim := { program := "ytoedapeookkodaa", sum := "0a43c4586095bc078862ce5fc785e487fd70b1f57bff0fb6ce85a5b52ebbd91f", func := "stowage/stowagelaw11.CurveCorners", spec := "curveCorners", apart := false, narrowed := true }
def CurveCornersUptoSaid : Prop := curveCornersUptoRow.holds Try.pinned (OpenSpec.upto curveCornersSpec)

/-- 'stowagelaw11.CurveSteep', WHERE WHAT IT READS IS OF BULK AT MOST 1048576: true; the input reads as it did. -/
def curveSteepUptoRow : OpenClaim := { program := "ytoedapeookkodaa", sum := "0a43c4586095bc078862ce5fc785e487fd70b1f57bff0fb6ce85a5b52ebbd91f", func := "stowage/stowagelaw11.CurveSteep", spec := "curveSteep", apart := false, narrowed := true }
def CurveSteepUptoSaid : Prop := curveSteepUptoRow.holds Try.pinned (OpenSpec.upto curveSteepSpec)

/-- 'stowagelaw11.CurveGoes', WHERE WHAT IT READS IS OF BULK AT MOST 1048576: true; the input reads as it did. -/
def curveGoesUptoRow : OpenClaim := { program := "ytoedapeookkodaa", sum := "0a43c4586095bc078862ce5fc785e487fd70b1f57bff0fb6ce85a5b52ebbd91f", func := "stowage/stowagelaw11.CurveGoes", spec := "curveGoes", apart := false, narrowed := true }
def CurveGoesUptoSaid : Prop := curveGoesUptoRow.holds Try.pinned (OpenSpec.upto curveGoesSpec)

end Rows
end Go.Proofs.Ytoedapeookkodaa
