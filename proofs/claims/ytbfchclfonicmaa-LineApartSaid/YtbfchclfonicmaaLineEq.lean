/-
  Lines compared (==, !=).
-/
import Derived.Test.YtbfchclfonicmaaLineRef2
import Derived.Test.YtbfchclfonicmaaEq
namespace Go.Proofs.Ytbfchclfonicmaa
open Go.RowKit

set_option maxHeartbeats 400000 in
theorem eqLine_run (d : Nat) (x y : Ln) (w : World) : (Op.equalIn (d + 3) 25 (.agg (lnV x)) (.agg (lnV y))).run Try.prog w = .ok (decide (x = y)) w := by
  rw [run_equalIn_struct w (d + 2) 25 (lnV x) (lnV y) (by kernel_rfl) (by kernel_rfl), fieldsOf_of Try.underlying25]
  refine eqF_step (by decide) (by kernel_rfl) (by kernel_rfl) (eqI x.g y.g) (fun h0 => ?_) (fun h => by rw [decide_eq_false (fun e => by rw [e, decide_eq_true rfl] at h; cases h)])
  refine eqF_step (by decide) (by kernel_rfl) (by kernel_rfl) (eqI x.s y.s) (fun h1 => ?_) (fun h => by rw [decide_eq_false (fun e => by rw [e, decide_eq_true rfl] at h; cases h)])
  refine eqF_step (by decide) (by kernel_rfl) (by kernel_rfl) (eqB x.last y.last) (fun h2 => ?_) (fun h => by rw [decide_eq_false (fun e => by rw [e, beq_self_eq_true] at h; cases h)])
  refine eqF_step (by decide) (a := .agg (rcV x.r)) (b := .agg (rcV y.r)) (by kernel_rfl) (by kernel_rfl) (eqRec_run d x.r y.r w) (fun h3 => ?_) (fun h => by rw [decide_eq_false (fun e => by rw [e, decide_eq_true rfl] at h; cases h)])
  rw [decide_eq_true ((ln_ext x y).1 ⟨of_decide_eq_true h0, of_decide_eq_true h1, eq_of_beq h2, of_decide_eq_true h3⟩)]
  exact eqF_end
theorem eqLine_all (x y : Ln) (w : World) : (Op.equalIn 10000 25 (.agg (lnV x)) (.agg (lnV y))).run Try.prog w = .ok (decide (x = y)) w := eqLine_run 9997 x y w

end Go.Proofs.Ytbfchclfonicmaa
