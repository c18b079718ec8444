/-
  The statement of the law HeaderEncodes, proved: whatever its arguments are, the function returns true, and each argument reads afterwards as it read before. Conditions: none but those of the statement itself.
-/
import Derived.Test.YtbmgiekiildaaaaRows
import Derived.Test.YtbmgiekiildaaaaHdEndA
import Derived.WalkKit
import Derived.ProofKit
import Derived.OpenShut
import Derived.ShutString
import Derived.ChangeOld
import Derived.Below
import Derived.SizedLaws
namespace Go.Proofs.Ytbmgiekiildaaaa.headerEncodes
open Go.ChangeShapes Go.WideShapes Go.ChangeAt Go.RowKit
open Go.ChangeMaps (open_string shut_string)
set_option linter.unusedVariables false

theorem own : ownKnob Try.prog.godebug = none := by kernel_rfl
theorem laidOut : laidOutB Try.prog = true := by kernel_rfl

def IsRow (k : IntKind) (w : World) (a : Option Addr) (len cap : Nat) (zs : List Int) : Prop :=
  (a = none ∧ len = 0 ∧ cap = 0 ∧ zs = []) ∨
  ∃ x, a = some x ∧ len ≤ cap ∧ cap ≤ maxLen ∧ zs.length = cap ∧ (∀ i, i < zs.length → w.cell? (x.add i) = some (.int k (zs.getD i 0))) ∧ ∀ n ∈ zs, (Lit.int k n).wf = true

theorem walk (a0t a0v a0b a0s a0r : Int) (a0g : ByteArray) (w : World) (w0t : (Lit.int .i64 a0t).wf = true) (w0v : (Lit.int .i64 a0v).wf = true) (w0b : (Lit.int .i64 a0b).wf = true) (w0s : (Lit.int .i64 a0s).wf = true) (w0r : (Lit.int .i64 a0r).wf = true) (w0g : a0g.size ≤ maxLen) :
    Calls Try.prog 3 #[.agg #[.int .i64 a0t, .int .i64 a0v, .int .i64 a0b, .int .i64 a0s, .int .i64 a0r, .string a0g]] w fun e w' => e = .returned (.bool true) ∧ Below w.heap.size w w' := by
  exact headerEncodes_go ⟨a0t, a0v, a0b, a0s, a0r, a0g⟩ w (hd_spec w) trivial

set_option maxRecDepth 100000 in
theorem lifted (os : Os) (started : os.Started) (H : Type) (enc : TypeId × Value → H) :
    ReturnsInHanded {} Try.checked os 3 .any (Rows.headerEncodesSpec.pre6 enc Try.prog Try.f3 Rows.headerEncodesRow.domain false) (Rows.headerEncodesSpec.post enc Try.prog Try.f3 false true false false) := by
  refine returnsInHanded_of_change_sized (C := Try.checked) own started (by kernel_rfl) Try.func3
    (ChangeSpec.witness6 (enc := enc) (C := Try.checked) false ⟨#[], #[.agg #[.int .i64 0, .int .i64 0, .int .i64 0, .int .i64 0, .int .i64 0, .string ByteArray.empty]], []⟩ 8 (by kernel_rfl) (by kernel_rfl) (by kernel_rfl) (by kernel_rfl)) ?_
  intro W base args ds gs before hval0 hW hcnd hsz0 _
  have hval : ∀ (j : Nat) t v, Try.f3.params[j]? = some t → args[j]? = some v → Value.okWide Try.prog W .any base t v := hval0
  have hW' := hW
  obtain ⟨p, q, hA0, hV, rfl, hfz, hnd⟩ := hW
  have hA : DataW.TrodAll enc Try.prog W 0 (fun _ => true) true Try.f3.params.toList args.toList ds p := hA0
  have hsz : (DataW.weightsEach Try.prog (Try.f3.params.toList ++ Rows.headerEncodesSpec.plain.varTypes Try.prog) (ds ++ gs)).all (· ≤ reachBytes) = true := hsz0
  rw [Try.params3] at hA hval hsz
  obtain ⟨v0, vs0, d0, ds0, p0, q0, hargs, rfl, rfl, h0, r0⟩ := trodAll_cons hA
  obtain ⟨rfl, rfl, rfl⟩ := trodAll_nil r0
  obtain rfl : args = #[v0] := by cases args; simp_all
  obtain ⟨rfl, rfl⟩ := trodVars_none hV
  skip
  obtain ⟨f00, f01, f02, f03, f04, f05, T0⟩ := headType
  obtain ⟨a0t, a0v, a0b, a0s, a0r, a0g, rfl, rfl, rfl, w0t, w0v, w0b, w0s, w0r, w0g⟩ := open_head T0 (hval 0 23 v0 rfl rfl) h0
  clear hA0 hval0
  refine (walk a0t a0v a0b a0s a0r a0g W w0t w0v w0b w0s w0r w0g).mono fun e W' ⟨he, bel⟩ => ?_
  subst he
  exact ⟨_, rfl, _, _, _, [], _, [], hW', trodAll_mk1 (shut_bool Try.underlying4 _), (trodAll_cons_mk (shut_head T0 w0t w0v w0b w0s w0r w0g) (trodAll_mk0)), rfl, bel.frame _, fun h => by cases h⟩

theorem over : Rows.headerEncodesRow.holds Try.pinned (OpenSpec.ofChange Rows.headerEncodesSpec) :=
  OpenClaim.holds_of_wide 3 Try.f3 rfl rfl rfl rfl rfl rfl rfl ⟨rfl, rfl, rfl, rfl, rfl⟩ rfl rfl rfl rfl rfl (by kernel_rfl) Try.func3 (by kernel_rfl)
    (of_decide_eq_true (by kernel_rfl)) (by unfold Func.isWrapper; first | (rw [if_pos (by decide +kernel)]; kernel_rfl) | (rw [if_neg (by decide +kernel)]; exact ⟨rfl, rfl⟩))
    (fun os started H enc _ => lifted os started H enc)

theorem proved : Rows.HeaderEncodesSaid := over
#print axioms proved
end Go.Proofs.Ytbmgiekiildaaaa.headerEncodes
