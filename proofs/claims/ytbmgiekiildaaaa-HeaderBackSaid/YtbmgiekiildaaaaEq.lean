/-
  Structs compared (==, !=), field by field; records compared.
-/
import Derived.Test.YtbmgiekiildaaaaRec
import Derived.Test.YtbmgiekiildaaaaArrs
import Derived.Test.YtbmgiekiildaaaaChecked
namespace Go.Proofs.Ytbmgiekiildaaaa
open Go.RowKit

/-- A whole row is loaded, where a guard lets it. -/
theorem wpList_load_when {P : Program} {ops : Array Oper} {rest : List Oper} {o : Oper} {a : Act} {w : World} {Q : Exit → Act → World → Prop} (hw : Region.wanted o (yielded ops a.tmps) = true) (ty : TypeId) (x : Operand) (ho : o.op = .load ty x)
    (g : Nat) (hx : a.eval x = .pointer (some ⟨g, 0, none⟩)) (t : TypeId) (cs : Array Value) (hg : w.heap[g]? = some (.cells cs t (0, 0))) {d : TypeDesc} (hu : P.underlying ty = some d) (hd : d.isRow = true) (hi : (P.info? ty).map (·.size) = some cs.size)
    (h : wpList P ops Q rest (a.put o.dst (.agg cs)) w) : wpList P ops Q (o :: rest) a w :=
  wpList_when hw fun K hK => wp_load_mid ty x ho g 0 hx cs.toList d (fun j v hj => by rw [Nat.zero_add, cell_of_row _ _ _ _ _ _ hg, ← hj]; simp) hu hd (by rw [hi]; simp) (by rw [Array.toArray_toList]; exact hK _ _ h)
theorem fieldsOf_of {P : Program} {t : TypeId} {fs : Array Field} (h : P.underlying t = some (.struct fs)) : P.fieldsOf t = fs := by unfold Program.fieldsOf; rw [h]
theorem str_eq (a b : ByteArray) : (a.toList == b.toList) = decide (a = b) := by
  rw [Bool.eq_iff_iff, decide_eq_true_eq, beq_iff_eq, ByteArray.toList_eq, ByteArray.toList_eq]
  constructor
  · intro h
    obtain ⟨⟨x⟩⟩ := a
    obtain ⟨⟨y⟩⟩ := b
    simp only at h
    rw [h]
  · rintro rfl; rfl
/-- One field is compared. -/
theorem eqF_step {P : Program} {w : World} {d : Nat} {xs ys : Array Value} {f : Field} {fs : List Field} {a b : Value} {r : Bool} {R : Result Bool} (hn : f.name ≠ "_") (ha : (part f.type xs f.offset).run P w = .ok a w) (hb : (part f.type ys f.offset).run P w = .ok b w)
    (he : (Op.equalIn d f.type a b).run P w = .ok r w) (h : r = true → (Op.eqFields d xs ys fs).run P w = R) (hf : r = false → R = .ok false w) : (Op.eqFields d xs ys (f :: fs)).run P w = R := by
  unfold Op.eqFields
  rw [if_pos hn]
  simp only [Sem.run_bind, ha, hb, he, Result.andThen_ok]
  cases r
  · rw [hf rfl]; simp
  · simp; exact h rfl
theorem eqF_end {P : Program} {w : World} {d : Nat} {xs ys : Array Value} : (Op.eqFields d xs ys []).run P w = .ok true w := rfl
theorem eqI {w : World} {d : Nat} (a b : Int) : (Op.equalIn (d + 1) 3 (.int .i64 a) (.int .i64 b)).run Try.prog w = .ok (decide (a = b)) w := by
  rw [run_equalIn_int w d 3 .i64 .i64 a b Try.underlying3]
  congr 1
theorem eqB {w : World} {d : Nat} (a b : Bool) : (Op.equalIn (d + 1) 4 (.bool a) (.bool b)).run Try.prog w = .ok (a == b) w := run_equalIn_bool' w d 4 a b Try.underlying4
theorem eqS {w : World} {d : Nat} (a b : ByteArray) : (Op.equalIn (d + 1) 9 (.string a) (.string b)).run Try.prog w = .ok (decide (a = b)) w := by
  rw [run_equalIn_string w d 9 a b Try.underlying9, str_eq]
set_option maxHeartbeats 400000 in
theorem eqRec_run (d : Nat) (x y : Rc) (w : World) : (Op.equalIn (d + 2) 86 (.agg (rcV x)) (.agg (rcV y))).run Try.prog w = .ok (decide (x = y)) w := by
  rw [run_equalIn_struct w (d + 1) 86 (rcV x) (rcV y) (by kernel_rfl) (by kernel_rfl), fieldsOf_of Try.underlying86]
  refine eqF_step (by decide) (by kernel_rfl) (by kernel_rfl) (eqI x.k y.k) (fun h0 => ?_) (fun h => by rw [decide_eq_false (fun e => by rw [e, decide_eq_true rfl] at h; cases h)])
  refine eqF_step (by decide) (by kernel_rfl) (by kernel_rfl) (eqI x.a y.a) (fun h1 => ?_) (fun h => by rw [decide_eq_false (fun e => by rw [e, decide_eq_true rfl] at h; cases h)])
  refine eqF_step (by decide) (by kernel_rfl) (by kernel_rfl) (eqI x.b y.b) (fun h2 => ?_) (fun h => by rw [decide_eq_false (fun e => by rw [e, decide_eq_true rfl] at h; cases h)])
  refine eqF_step (by decide) (by kernel_rfl) (by kernel_rfl) (eqI x.c y.c) (fun h3 => ?_) (fun h => by rw [decide_eq_false (fun e => by rw [e, decide_eq_true rfl] at h; cases h)])
  refine eqF_step (by decide) (by kernel_rfl) (by kernel_rfl) (eqI x.d y.d) (fun h4 => ?_) (fun h => by rw [decide_eq_false (fun e => by rw [e, decide_eq_true rfl] at h; cases h)])
  refine eqF_step (by decide) (by kernel_rfl) (by kernel_rfl) (eqS x.key y.key) (fun h5 => ?_) (fun h => by rw [decide_eq_false (fun e => by rw [e, decide_eq_true rfl] at h; cases h)])
  rw [decide_eq_true ((rc_ext x y).1 ⟨of_decide_eq_true h0, of_decide_eq_true h1, of_decide_eq_true h2, of_decide_eq_true h3, of_decide_eq_true h4, of_decide_eq_true h5⟩)]
  exact eqF_end
theorem eqRec_all (x y : Rc) (w : World) : (Op.equalIn 10000 86 (.agg (rcV x)) (.agg (rcV y))).run Try.prog w = .ok (decide (x = y)) w := eqRec_run 9998 x y w

end Go.Proofs.Ytbmgiekiildaaaa
