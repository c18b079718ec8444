/-
  No cell of these rows narrows 'for every input' (looked for: loops, veiled, ifaces, maps, wideKeys, modest, calm, conditions, laid).
  DERIVED. THE GIVEN ROWS OF THIS SEAT. 11 by the template 'for every input the law returns true; each argument reads behind the call as it read before'; 0 by the template 'total and deterministic' (their statements: YtcliampjgbmeaaaTotals.lean).
  GIVEN WITH THE SEED: the statements are not yours to turn. If you find one false, say at which input.
  Laid BY PROGRAM, IN A SANDBOX (cutbox-rows.mjs): the forced cells as the released guide's own fill.sh prints them over the translation 7b065c25ecbb09f7… (all of the seat's roots in one cut). By AI agents, Wed Nov 11 2026. No macro, syntax, notation, axiom, sorry.
-/
import Derived.Test.YtcliampjgbmeaaaChecked
import GoSem.Claim
import GoSem.ClaimJoined
import GoSem.ClaimMapViews
import Derived.JoinedTies
import Derived.KernelRfl
namespace Go.Proofs.Ytcliampjgbmeaaa
/- THE CELL 'sum', in the pinned program and in every row, IS THE sha256 OF THE DUMP (.gsa) THAT YtcliampjgbmeaaaProg.lean LOADS. Nothing in Lean hashes anything: it is a label: what it is worth is what the hold of that sum in a sandbox is worth. -/
noncomputable def Try.pinned : Pinned := { name := "ytcliampjgbmeaaa", sum := "7b065c25ecbb09f72d38e67818d5e6f45c3e0e270f8ddbb962ffa276cbfd953a", checked := Try.checked }
namespace Rows
def none {H : Type} : Left H := { results := [], args := [] }

/-- 'stowagelaw09.RateFixed': WHATEVER THE INPUT: true; the input reads as it did. -/
def rateFixedSpec : ChangeSpec := { name := "rateFixed", fn := fun _ => fun
  | [d] => { results := [.lit (.bool true)], args := [d] }
  | _ => none }
def rateFixedRow : OpenClaim := { program := "ytcliampjgbmeaaa", sum := "7b065c25ecbb09f72d38e67818d5e6f45c3e0e270f8ddbb962ffa276cbfd953a", func := "stowage/stowagelaw09.RateFixed", spec := "rateFixed", inPlace := ["math.Float64frombits", "math.Float64bits"], apart := false }
def RateFixedSaid : Prop := rateFixedRow.holds Try.pinned (OpenSpec.ofChange rateFixedSpec)

/-- ITS FALSE NEIGHBOUR: 'it returns false'. Refute it at one input. -/
def rateFixedWrong : ChangeSpec := { name := "rateFixed", fn := fun _ => fun
  | [d] => { results := [.lit (.bool false)], args := [d] }
  | _ => none }
def RateFixedWrongFalsely : Prop := rateFixedRow.holds Try.pinned (OpenSpec.ofChange rateFixedWrong)

/-- 'stowagelaw09.RateFloat': WHATEVER THE INPUT: true; the input reads as it did. -/
def rateFloatSpec : ChangeSpec := { name := "rateFloat", fn := fun _ => fun
  | [d] => { results := [.lit (.bool true)], args := [d] }
  | _ => none }
def rateFloatRow : OpenClaim := { program := "ytcliampjgbmeaaa", sum := "7b065c25ecbb09f72d38e67818d5e6f45c3e0e270f8ddbb962ffa276cbfd953a", func := "stowage/stowagelaw09.RateFloat", spec := "rateFloat", inPlace := ["math.Float64bits"], apart := false }
def RateFloatSaid : Prop := rateFloatRow.holds Try.pinned (OpenSpec.ofChange rateFloatSpec)

/-- ITS FALSE NEIGHBOUR: 'it returns false'. Refute it at one input. -/
def rateFloatWrong : ChangeSpec := { name := "rateFloat", fn := fun _ => fun
  | [d] => { results := [.lit (.bool false)], args := [d] }
  | _ => none }
def RateFloatWrongFalsely : Prop := rateFloatRow.holds Try.pinned (OpenSpec.ofChange rateFloatWrong)

/-- 'stowagelaw09.RateNews': WHATEVER THE INPUT: true; the input reads as it did. -/
def rateNewsSpec : ChangeSpec := { name := "rateNews", fn := fun _ => fun
  | [d1, d2, d3] => { results := [.lit (.bool true)], args := [d1, d2, d3] }
  | _ => none }
def rateNewsRow : OpenClaim := { program := "ytcliampjgbmeaaa", sum := "7b065c25ecbb09f72d38e67818d5e6f45c3e0e270f8ddbb962ffa276cbfd953a", func := "stowage/stowagelaw09.RateNews", spec := "rateNews", apart := false }
def RateNewsSaid : Prop := rateNewsRow.holds Try.pinned (OpenSpec.ofChange rateNewsSpec)

/-- ITS FALSE NEIGHBOUR: 'it returns false'. Refute it at one input. -/
def rateNewsWrong : ChangeSpec := { name := "rateNews", fn := fun _ => fun
  | [d1, d2, d3] => { results := [.lit (.bool false)], args := [d1, d2, d3] }
  | _ => none }
def RateNewsWrongFalsely : Prop := rateNewsRow.holds Try.pinned (OpenSpec.ofChange rateNewsWrong)

/-- 'stowagelaw09.RateFills': WHATEVER THE INPUT: true; the input reads as it did. -/
def rateFillsSpec : ChangeSpec := { name := "rateFills", fn := fun _ => fun
  | [d1, d2] => { results := [.lit (.bool true)], args := [d1, d2] }
  | _ => none }
def rateFillsRow : OpenClaim := { program := "ytcliampjgbmeaaa", sum := "7b065c25ecbb09f72d38e67818d5e6f45c3e0e270f8ddbb962ffa276cbfd953a", func := "stowage/stowagelaw09.RateFills", spec := "rateFills", apart := false }
def RateFillsSaid : Prop := rateFillsRow.holds Try.pinned (OpenSpec.ofChange rateFillsSpec)

/-- ITS FALSE NEIGHBOUR: 'it returns false'. Refute it at one input. -/
def rateFillsWrong : ChangeSpec := { name := "rateFills", fn := fun _ => fun
  | [d1, d2] => { results := [.lit (.bool false)], args := [d1, d2] }
  | _ => none }
def RateFillsWrongFalsely : Prop := rateFillsRow.holds Try.pinned (OpenSpec.ofChange rateFillsWrong)

/-- 'stowagelaw09.RateTakes': WHATEVER THE INPUT: true; the input reads as it did. -/
def rateTakesSpec : ChangeSpec := { name := "rateTakes", fn := fun _ => fun
  | [d1, d2, d3] => { results := [.lit (.bool true)], args := [d1, d2, d3] }
  | _ => none }
def rateTakesRow : OpenClaim := { program := "ytcliampjgbmeaaa", sum := "7b065c25ecbb09f72d38e67818d5e6f45c3e0e270f8ddbb962ffa276cbfd953a", func := "stowage/stowagelaw09.RateTakes", spec := "rateTakes", apart := false }
def RateTakesSaid : Prop := rateTakesRow.holds Try.pinned (OpenSpec.ofChange rateTakesSpec)

/-- ITS FALSE NEIGHBOUR: 'it returns false'. Refute it at one input. -/
def rateTakesWrong : ChangeSpec := { name := "rateTakes", fn := fun _ => fun
  | [d1, d2, d3] => { results := [.lit (.bool false)], args := [d1, d2, d3] }
  | _ => none }
def RateTakesWrongFalsely : Prop := rateTakesRow.holds Try.pinned (OpenSpec.ofChange rateTakesWrong)

/-- 'stowagelaw09.RateReady': WHATEVER THE INPUT: true; the input reads as it did. -/
def rateReadySpec : ChangeSpec := { name := "rateReady", fn := fun _ => fun
  | [d1, d2, d3] => { results := [.lit (.bool true)], args := [d1, d2, d3] }
  | _ => none }
def rateReadyRow : OpenClaim := { program := "ytcliampjgbmeaaa", sum := "7b065c25ecbb09f72d38e67818d5e6f45c3e0e270f8ddbb962ffa276cbfd953a", func := "stowage/stowagelaw09.RateReady", spec := "rateReady", apart := false }
def RateReadySaid : Prop := rateReadyRow.holds Try.pinned (OpenSpec.ofChange rateReadySpec)

/-- ITS FALSE NEIGHBOUR: 'it returns false'. Refute it at one input. -/
def rateReadyWrong : ChangeSpec := { name := "rateReady", fn := fun _ => fun
  | [d1, d2, d3] => { results := [.lit (.bool false)], args := [d1, d2, d3] }
  | _ => none }
def RateReadyWrongFalsely : Prop := rateReadyRow.holds Try.pinned (OpenSpec.ofChange rateReadyWrong)

/-- 'stowagelaw09.RateSteps': WHATEVER THE INPUT: true; the input reads as it did. -/
def rateStepsSpec : ChangeSpec := { name := "rateSteps", fn := fun _ => fun
  | [d1, d2, d3] => { results := [.lit (.bool true)], args := [d1, d2, d3] }
  | _ => none }
def rateStepsRow : OpenClaim := { program := "ytcliampjgbmeaaa", sum := "7b065c25ecbb09f72d38e67818d5e6f45c3e0e270f8ddbb962ffa276cbfd953a", func := "stowage/stowagelaw09.RateSteps", spec := "rateSteps", apart := false }
def RateStepsSaid : Prop := rateStepsRow.holds Try.pinned (OpenSpec.ofChange rateStepsSpec)

/-- ITS FALSE NEIGHBOUR: 'it returns false'. Refute it at one input. -/
def rateStepsWrong : ChangeSpec := { name := "rateSteps", fn := fun _ => fun
  | [d1, d2, d3] => { results := [.lit (.bool false)], args := [d1, d2, d3] }
  | _ => none }
def RateStepsWrongFalsely : Prop := rateStepsRow.holds Try.pinned (OpenSpec.ofChange rateStepsWrong)

/-- 'stowagelaw09.RateBounds': WHATEVER THE INPUT: true; the input reads as it did. -/
def rateBoundsSpec : ChangeSpec := { name := "rateBounds", fn := fun _ => fun
  | [d1, d2, d3] => { results := [.lit (.bool true)], args := [d1, d2, d3] }
  | _ => none }
def rateBoundsRow : OpenClaim := { program := "ytcliampjgbmeaaa", sum := "7b065c25ecbb09f72d38e67818d5e6f45c3e0e270f8ddbb962ffa276cbfd953a", func := "stowage/stowagelaw09.RateBounds", spec := "rateBounds", apart := false }
def RateBoundsSaid : Prop := rateBoundsRow.holds Try.pinned (OpenSpec.ofChange rateBoundsSpec)

/-- ITS FALSE NEIGHBOUR: 'it returns false'. Refute it at one input. -/
def rateBoundsWrong : ChangeSpec := { name := "rateBounds", fn := fun _ => fun
  | [d1, d2, d3] => { results := [.lit (.bool false)], args := [d1, d2, d3] }
  | _ => none }
def RateBoundsWrongFalsely : Prop := rateBoundsRow.holds Try.pinned (OpenSpec.ofChange rateBoundsWrong)

/-- 'stowagelaw09.RateWaits': WHATEVER THE INPUT: true; the input reads as it did. -/
def rateWaitsSpec : ChangeSpec := { name := "rateWaits", fn := fun _ => fun
  | [d1, d2, d3] => { results := [.lit (.bool true)], args := [d1, d2, d3] }
  | _ => none }
def rateWaitsRow : OpenClaim := { program := "ytcliampjgbmeaaa", sum := "7b065c25ecbb09f72d38e67818d5e6f45c3e0e270f8ddbb962ffa276cbfd953a", func := "stowage/stowagelaw09.RateWaits", spec := "rateWaits", apart := false }
def RateWaitsSaid : Prop := rateWaitsRow.holds Try.pinned (OpenSpec.ofChange rateWaitsSpec)

/-- ITS FALSE NEIGHBOUR: 'it returns false'. Refute it at one input. -/
def rateWaitsWrong : ChangeSpec := { name := "rateWaits", fn := fun _ => fun
  | [d1, d2, d3] => { results := [.lit (.bool false)], args := [d1, d2, d3] }
  | _ => none }
def RateWaitsWrongFalsely : Prop := rateWaitsRow.holds Try.pinned (OpenSpec.ofChange rateWaitsWrong)

/-- 'stowagelaw09.RateIdle': WHATEVER THE INPUT: true; the input reads as it did. -/
def rateIdleSpec : ChangeSpec := { name := "rateIdle", fn := fun _ => fun
  | [d1, d2] => { results := [.lit (.bool true)], args := [d1, d2] }
  | _ => none }
def rateIdleRow : OpenClaim := { program := "ytcliampjgbmeaaa", sum := "7b065c25ecbb09f72d38e67818d5e6f45c3e0e270f8ddbb962ffa276cbfd953a", func := "stowage/stowagelaw09.RateIdle", spec := "rateIdle", apart := false }
def RateIdleSaid : Prop := rateIdleRow.holds Try.pinned (OpenSpec.ofChange rateIdleSpec)

/-- ITS FALSE NEIGHBOUR: 'it returns false'. Refute it at one input. -/
def rateIdleWrong : ChangeSpec := { name := "rateIdle", fn := fun _ => fun
  | [d1, d2] => { results := [.lit (.bool false)], args := [d1, d2] }
  | _ => none }
def RateIdleWrongFalsely : Prop := rateIdleRow.holds Try.pinned (OpenSpec.ofChange rateIdleWrong)

/-- 'stowagelaw09.RateOne': WHATEVER THE INPUT: true; the input reads as it did. -/
def rateOneSpec : ChangeSpec := { name := "rateOne", fn := fun _ => fun
  | [d1, d2, d3, d4] => { results := [.lit (.bool true)], args := [d1, d2, d3, d4] }
  | _ => none }
def rateOneRow : OpenClaim := { program := "ytcliampjgbmeaaa", sum := "7b065c25ecbb09f72d38e67818d5e6f45c3e0e270f8ddbb962ffa276cbfd953a", func := "stowage/stowagelaw09.RateOne", spec := "rateOne", apart := false }
def RateOneSaid : Prop := rateOneRow.holds Try.pinned (OpenSpec.ofChange rateOneSpec)

/-- ITS FALSE NEIGHBOUR: 'it returns false'. Refute it at one input. -/
def rateOneWrong : ChangeSpec := { name := "rateOne", fn := fun _ => fun
  | [d1, d2, d3, d4] => { results := [.lit (.bool false)], args := [d1, d2, d3, d4] }
  | _ => none }
def RateOneWrongFalsely : Prop := rateOneRow.holds Try.pinned (OpenSpec.ofChange rateOneWrong)

/- THE SECOND FORM. 'bulk': how many values and letters a reading holds, each counted each time it is reached (what is shared counts as often as it is met; a slice's spare places count too). A statement '..UptoSaid' is the law's where the arguments, and the package variables that the reading takes, are together of bulk at most 1048576: NARROWER than '..Said'. Prove '..Said' where nothing that the law and all that it calls make is longer than what came in: it says more and counts as full. Else prove '..UptoSaid'. A law counts once. -/
mutual
def uptoBulk {H : Type} : DataW H → Nat
  | .lit (.string bytes) => bytes.length + 1
  | .lit _ => 1
  | .nil => 1
  | .ptr d => uptoBulk d + 1
  | .slice elems spare => uptoBulkAll elems + uptoBulkAll spare + 1
  | .agg parts => uptoBulkAll parts + 1
  | .iface _ d => uptoBulk d + 1
  | .map entries => uptoBulkEntries entries + 1
  | .held _ => 1
def uptoBulkAll {H : Type} : List (DataW H) → Nat
  | [] => 0
  | d :: r => uptoBulk d + uptoBulkAll r
def uptoBulkEntries {H : Type} : List (Lit × DataW H) → Nat
  | [] => 0
  | x :: r => uptoBulkEntry x + uptoBulkEntries r
def uptoBulkEntry {H : Type} : Lit × DataW H → Nat
  | (.string bytes, d) => bytes.length + uptoBulk d + 1
  | (_, d) => uptoBulk d + 1
 end
def uptoSmall : (H : Type) → List (DataW H) → Bool := fun _ ds => decide (uptoBulkAll ds ≤ 1048576)
def OpenSpec.upto (s : _root_.Go.ChangeSpec) : _root_.Go.OpenSpec := { _root_.Go.OpenSpec.ofChange s with cond := some uptoSmall }

/-- 'stowagelaw09.RateFixed', WHERE WHAT IT READS IS OF BULK AT MOST 1048576: true; the input reads as it did. -/
def rateFixedUptoRow : OpenClaim := { program := "ytcliampjgbmeaaa", sum := "7b065c25ecbb09f72d38e67818d5e6f45c3e0e270f8ddbb962ffa276cbfd953a", func := "stowage/stowagelaw09.RateFixed", spec := "rateFixed", inPlace := ["math.Float64frombits", "math.Float64bits"], apart := false, narrowed := true }
def RateFixedUptoSaid : Prop := rateFixedUptoRow.holds Try.pinned (OpenSpec.upto rateFixedSpec)

/-- 'stowagelaw09.RateFloat', WHERE WHAT IT READS IS OF BULK AT MOST 1048576: true; the input reads as it did. -/
def rateFloatUptoRow : OpenClaim := { program := "ytcliampjgbmeaaa", sum := "7b065c25ecbb09f72d38e67818d5e6f45c3e0e270f8ddbb962ffa276cbfd953a", func := "stowage/stowagelaw09.RateFloat", spec := "rateFloat", inPlace := ["math.Float64bits"], apart := false, narrowed := true }
def RateFloatUptoSaid : Prop := rateFloatUptoRow.holds Try.pinned (OpenSpec.upto rateFloatSpec)

/-- 'stowagelaw09.RateNews', WHERE WHAT IT READS IS OF BULK AT MOST 1048576: true; the input reads as it did. -/
def rateNewsUptoRow : OpenClaim := { program := "ytcliampjgbmeaaa", sum := "7b065c25ecbb09f72d38e67818d5e6f45c3e0e270f8ddbb962ffa276cbfd953a", func := "stowage/stowagelaw09.RateNews", spec := "rateNews", apart := false, narrowed := true }
def RateNewsUptoSaid : Prop := rateNewsUptoRow.holds Try.pinned (OpenSpec.upto rateNewsSpec)

/-- 'stowagelaw09.RateFills', WHERE WHAT IT READS IS OF BULK AT MOST 1048576: true; the input reads as it did. -/
def rateFillsUptoRow : OpenClaim := { program := "ytcliampjgbmeaaa", sum := "7b065c25ecbb09f72d38e67818d5e6f45c3e0e270f8ddbb962ffa276cbfd953a", func := "stowage/stowagelaw09.RateFills", spec := "rateFills", apart := false, narrowed := true }
def RateFillsUptoSaid : Prop := rateFillsUptoRow.holds Try.pinned (OpenSpec.upto rateFillsSpec)

/-- 'stowagelaw09.RateTakes', WHERE WHAT IT READS IS OF BULK AT MOST 1048576: true; the input reads as it did. -/
def rateTakesUptoRow : OpenClaim := { program := "ytcliampjgbmeaaa", sum := "7b065c25ecbb09f72d38e67818d5e6f45c3e0e270f8ddbb962ffa276cbfd953a", func := "stowage/stowagelaw09.RateTakes", spec := "rateTakes", apart := false, narrowed := true }
def RateTakesUptoSaid : Prop := rateTakesUptoRow.holds Try.pinned (OpenSpec.upto rateTakesSpec)

/-- 'stowagelaw09.RateReady', WHERE WHAT IT READS IS OF BULK AT MOST 1048576: true; the input reads as it did. -/
def rateReadyUptoRow : OpenClaim := { program := "ytcliampjgbmeaaa", sum := "7b065c25ecbb09f72d38e67818d5e6f45c3e0e270f8ddbb962ffa276cbfd953a", func := "stowage/stowagelaw09.RateReady", spec := "rateReady", apart := false, narrowed := true }
def RateReadyUptoSaid : Prop := rateReadyUptoRow.holds Try.pinned (OpenSpec.upto rateReadySpec)

/-- 'stowagelaw09.RateSteps', WHERE WHAT IT READS IS OF BULK AT MOST 1048576: true; the input reads as it did. -/
def rateStepsUptoRow : OpenClaim := { program := "ytcliampjgbmeaaa", sum := "7b065c25ecbb09f72d38e67818d5e6f45c3e0e270f8ddbb962ffa276cbfd953a", func := "stowage/stowagelaw09.RateSteps", spec := "rateSteps", apart := false, narrowed := true }
def RateStepsUptoSaid : Prop := rateStepsUptoRow.holds Try.pinned (OpenSpec.upto rateStepsSpec)

/-- 'stowagelaw09.RateBounds', WHERE WHAT IT READS IS OF BULK AT MOST 1048576: true; the input reads as it did. -/
def rateBoundsUptoRow : OpenClaim := { program := "ytcliampjgbmeaaa", sum := "7b065c25ecbb09f72d38e67818d5e6f45c3e0e270f8ddbb962ffa276cbfd953a", func := "stowage/stowagelaw09.RateBounds", spec := "rateBounds", apart := false, narrowed := true }
def RateBoundsUptoSaid : Prop := rateBoundsUptoRow.holds Try.pinned (OpenSpec.upto rateBoundsSpec)

/-- 'stowagelaw09.RateWaits', WHERE WHAT IT READS IS OF BULK AT MOST 1048576: true; the input reads as it did. -/
def rateWaitsUptoRow : OpenClaim := { program := "ytcliampjgbmeaaa", sum := "7b065c25ecbb09f72d38e67818d5e6f45c3e0e270f8ddbb962ffa276cbfd953a", func := "stowage/stowagelaw09.RateWaits", spec := "rateWaits", apart := false, narrowed := true }
def RateWaitsUptoSaid : Prop := rateWaitsUptoRow.holds Try.pinned (OpenSpec.upto rateWaitsSpec)

/-- 'stowagelaw09.RateIdle', WHERE WHAT IT READS IS OF BULK AT MOST 1048576: true; the input reads as it did. -/
def rateIdleUptoRow : OpenClaim := { program := "ytcliampjgbmeaaa", sum := "7b065c25ecbb09f72d38e67818d5e6f45c3e0e270f8ddbb962ffa276cbfd953a", func := "stowage/stowagelaw09.RateIdle", spec := "rateIdle", apart := false, narrowed := true }
def RateIdleUptoSaid : Prop := rateIdleUptoRow.holds Try.pinned (OpenSpec.upto rateIdleSpec)

/-- 'stowagelaw09.RateOne', WHERE WHAT IT READS IS OF BULK AT MOST 1048576: true; the input reads as it did. -/
def rateOneUptoRow : OpenClaim := { program := "ytcliampjgbmeaaa", sum := "7b065c25ecbb09f72d38e67818d5e6f45c3e0e270f8ddbb962ffa276cbfd953a", func := "stowage/stowagelaw09.RateOne", spec := "rateOne", apart := false, narrowed := true }
def RateOneUptoSaid : Prop := rateOneUptoRow.holds Try.pinned (OpenSpec.upto rateOneSpec)

end Rows
end Go.Proofs.Ytcliampjgbmeaaa
