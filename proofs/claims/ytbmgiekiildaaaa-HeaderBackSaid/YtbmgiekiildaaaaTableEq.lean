/-
  Tenants and volumes compared (==, !=).
-/
import Derived.Test.YtbmgiekiildaaaaTableRef2
import Derived.Test.YtbmgiekiildaaaaEq
namespace Go.Proofs.Ytbmgiekiildaaaa
open Go.RowKit

def tenV (x : Ten) : Array Value := #[.int .i64 x.id, .int .i64 x.quota, .int .i64 x.rate, .int .i64 x.burst, .string x.key, .bool x.dying]
def volV (x : Vol) : Array Value := #[.int .i64 x.id, .int .i64 x.ten, .int .i64 x.blocks, .int .i64 x.base]
theorem ten_ext (x y : Ten) : (x.id = y.id ∧ x.quota = y.quota ∧ x.rate = y.rate ∧ x.burst = y.burst ∧ x.key = y.key ∧ x.dying = y.dying) ↔ x = y := by
  constructor
  · obtain ⟨_, _, _, _, _, _⟩ := x
    obtain ⟨_, _, _, _, _, _⟩ := y
    rintro ⟨h1, h2, h3, h4, h5, h6⟩
    simp only at h1 h2 h3 h4 h5 h6
    subst h1 h2 h3 h4 h5 h6; rfl
  · rintro rfl; exact ⟨rfl, rfl, rfl, rfl, rfl, rfl⟩
instance : DecidableEq Ten := fun x y => decidable_of_iff _ (ten_ext x y)
theorem vol_ext (x y : Vol) : (x.id = y.id ∧ x.ten = y.ten ∧ x.blocks = y.blocks ∧ x.base = y.base) ↔ x = y := by
  constructor
  · obtain ⟨_, _, _, _⟩ := x
    obtain ⟨_, _, _, _⟩ := y
    rintro ⟨h1, h2, h3, h4⟩
    simp only at h1 h2 h3 h4
    subst h1 h2 h3 h4; rfl
  · rintro rfl; exact ⟨rfl, rfl, rfl, rfl⟩
instance : DecidableEq Vol := fun x y => decidable_of_iff _ (vol_ext x y)
theorem tab_ext (x y : Tab) : (x.ts = y.ts ∧ x.vs = y.vs ∧ x.os = y.os) ↔ x = y := by
  constructor
  · obtain ⟨_, _, _⟩ := x
    obtain ⟨_, _, _⟩ := y
    rintro ⟨h1, h2, h3⟩
    simp only at h1 h2 h3
    subst h1 h2 h3; rfl
  · rintro rfl; exact ⟨rfl, rfl, rfl⟩
instance : DecidableEq Tab := fun x y => decidable_of_iff _ (tab_ext x y)
set_option maxHeartbeats 400000 in
theorem eqTen_all (x y : Ten) (w : World) : (Op.equalIn 10000 83 (.agg (tenV x)) (.agg (tenV y))).run Try.prog w = .ok (decide (x = y)) w := by
  rw [run_equalIn_struct w 9999 83 (tenV x) (tenV y) (by kernel_rfl) (by kernel_rfl), fieldsOf_of Try.underlying83]
  refine eqF_step (by decide) (by kernel_rfl) (by kernel_rfl) (eqI x.id y.id) (fun h0 => ?_) (fun h => by rw [decide_eq_false (fun e => by rw [e, decide_eq_true rfl] at h; cases h)])
  refine eqF_step (by decide) (by kernel_rfl) (by kernel_rfl) (eqI x.quota y.quota) (fun h1 => ?_) (fun h => by rw [decide_eq_false (fun e => by rw [e, decide_eq_true rfl] at h; cases h)])
  refine eqF_step (by decide) (by kernel_rfl) (by kernel_rfl) (eqI x.rate y.rate) (fun h2 => ?_) (fun h => by rw [decide_eq_false (fun e => by rw [e, decide_eq_true rfl] at h; cases h)])
  refine eqF_step (by decide) (by kernel_rfl) (by kernel_rfl) (eqI x.burst y.burst) (fun h3 => ?_) (fun h => by rw [decide_eq_false (fun e => by rw [e, decide_eq_true rfl] at h; cases h)])
  refine eqF_step (by decide) (by kernel_rfl) (by kernel_rfl) (eqS x.key y.key) (fun h4 => ?_) (fun h => by rw [decide_eq_false (fun e => by rw [e, decide_eq_true rfl] at h; cases h)])
  refine eqF_step (by decide) (by kernel_rfl) (by kernel_rfl) (eqB x.dying y.dying) (fun h5 => ?_) (fun h => by rw [decide_eq_false (fun e => by rw [e, beq_self_eq_true] at h; cases h)])
  rw [decide_eq_true ((ten_ext x y).1 ⟨of_decide_eq_true h0, of_decide_eq_true h1, of_decide_eq_true h2, of_decide_eq_true h3, of_decide_eq_true h4, eq_of_beq h5⟩)]
  exact eqF_end
set_option maxHeartbeats 400000 in
theorem eqVol_all (x y : Vol) (w : World) : (Op.equalIn 10000 46 (.agg (volV x)) (.agg (volV y))).run Try.prog w = .ok (decide (x = y)) w := by
  rw [run_equalIn_struct w 9999 46 (volV x) (volV y) (by kernel_rfl) (by kernel_rfl), fieldsOf_of Try.underlying46]
  refine eqF_step (by decide) (by kernel_rfl) (by kernel_rfl) (eqI x.id y.id) (fun h0 => ?_) (fun h => by rw [decide_eq_false (fun e => by rw [e, decide_eq_true rfl] at h; cases h)])
  refine eqF_step (by decide) (by kernel_rfl) (by kernel_rfl) (eqI x.ten y.ten) (fun h1 => ?_) (fun h => by rw [decide_eq_false (fun e => by rw [e, decide_eq_true rfl] at h; cases h)])
  refine eqF_step (by decide) (by kernel_rfl) (by kernel_rfl) (eqI x.blocks y.blocks) (fun h2 => ?_) (fun h => by rw [decide_eq_false (fun e => by rw [e, decide_eq_true rfl] at h; cases h)])
  refine eqF_step (by decide) (by kernel_rfl) (by kernel_rfl) (eqI x.base y.base) (fun h3 => ?_) (fun h => by rw [decide_eq_false (fun e => by rw [e, decide_eq_true rfl] at h; cases h)])
  rw [decide_eq_true ((vol_ext x y).1 ⟨of_decide_eq_true h0, of_decide_eq_true h1, of_decide_eq_true h2, of_decide_eq_true h3⟩)]
  exact eqF_end

end Go.Proofs.Ytbmgiekiildaaaa
