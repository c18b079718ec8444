/-
  The statement of the law HeaderGaps, proved: whatever its arguments are, the function returns true, and each argument reads afterwards as it read before. Conditions: none but those of the statement itself.
-/
import Derived.Test.YtbmgiekiildaaaaRows
import Derived.Test.YtbmgiekiildaaaaRecArgG
import Derived.WalkKit
import Derived.ProofKit
import Derived.OpenShut
import Derived.ShutString
import Derived.ChangeOld
import Derived.Below
import Derived.SizedLaws
namespace Go.Proofs.Ytbmgiekiildaaaa.headerGaps
open Go.ChangeShapes Go.WideShapes Go.ChangeAt Go.RowKit
open Go.ChangeMaps (open_string shut_string)
set_option linter.unusedVariables false

theorem own : ownKnob Try.prog.godebug = none := by kernel_rfl
theorem laidOut : laidOutB Try.prog = true := by kernel_rfl

def IsRow (k : IntKind) (w : World) (a : Option Addr) (len cap : Nat) (zs : List Int) : Prop :=
  (a = none ∧ len = 0 ∧ cap = 0 ∧ zs = []) ∨
  ∃ x, a = some x ∧ len ≤ cap ∧ cap ≤ maxLen ∧ zs.length = cap ∧ (∀ i, i < zs.length → w.cell? (x.add i) = some (.int k (zs.getD i 0))) ∧ ∀ n ∈ zs, (Lit.int k n).wf = true

theorem walk (V0 : TabW) (t0 : Tab) (a1 : Option Addr) (len1 cap1 : Nat) (z1 : List Rc) (w : World) (w0 : TabAt w w.heap.size V0 t0 ∧ t0.ok) (w1 : z1.length = len1 ∧ len1 ≤ cap1 ∧ RecsAt w w.heap.size a1 z1 ∧ (∀ r ∈ z1, r.ok) ∧ z1.length * 56 ≤ 140737488351232) :
    Calls Try.prog 8 #[.agg (tabV V0 t0), .slice a1 len1 cap1] w fun e w' => e = .returned (.bool true) ∧ Below w.heap.size w w' := by
  obtain ⟨hl, hlc, hr, hok, hm⟩ := w1
  by_cases hs : t0.sound ∧ len1 = t0.os.length
  · subst hl; exact headerGaps_ok V0 t0 a1 cap1 z1 w w0.1 w0.2 hr (fun x hx => (hok x hx).d) hs.1 hs.2
  · exact headerGaps_no V0 t0 a1 cap1 _ w w0.1 w0.2 (by rcases Classical.em t0.sound with q | q; exact .inr (fun e => hs ⟨q, e⟩); exact .inl q)

set_option maxRecDepth 100000 in
theorem lifted (os : Os) (started : os.Started) (H : Type) (enc : TypeId × Value → H) :
    ReturnsInHanded {} Try.checked os 8 .any (Rows.headerGapsSpec.pre6 enc Try.prog Try.f8 Rows.headerGapsRow.domain false) (Rows.headerGapsSpec.post enc Try.prog Try.f8 false true false false) := by
  refine returnsInHanded_of_change_sized (C := Try.checked) own started (by kernel_rfl) Try.func8
    (ChangeSpec.witness6 (enc := enc) (C := Try.checked) false ⟨#[], #[.agg #[.slice none 0 0, .slice none 0 0, .slice none 0 0], .slice none 0 0], []⟩ 8 (by kernel_rfl) (by kernel_rfl) (by kernel_rfl) (by kernel_rfl)) ?_
  intro W base args ds gs before hval0 hW hcnd hsz0 _
  have hval : ∀ (j : Nat) t v, Try.f8.params[j]? = some t → args[j]? = some v → Value.okWide Try.prog W .any base t v := hval0
  have hW' := hW
  obtain ⟨p, q, hA0, hV, rfl, hfz, hnd⟩ := hW
  have hA : DataW.TrodAll enc Try.prog W 0 (fun _ => true) true Try.f8.params.toList args.toList ds p := hA0
  have hsz : (DataW.weightsEach Try.prog (Try.f8.params.toList ++ Rows.headerGapsSpec.plain.varTypes Try.prog) (ds ++ gs)).all (· ≤ reachBytes) = true := hsz0
  rw [Try.params8] at hA hval hsz
  obtain ⟨v0, vs0, d0, ds0, p0, q0, hargs, rfl, rfl, h0, r0⟩ := trodAll_cons hA
  obtain ⟨v1, vs1, d1, ds1, p1, q1, rfl, rfl, rfl, h1, r1⟩ := trodAll_cons r0
  obtain ⟨rfl, rfl, rfl⟩ := trodAll_nil r1
  obtain rfl : args = #[v0, v1] := by cases args; simp_all
  obtain ⟨rfl, rfl⟩ := trodVars_none hV
  skip
  have k0 := h0
  have lt0 : ∀ x ∈ p0, x.block < W.heap.size := by obtain ⟨m, hm⟩ := k0; exact DataW.trod_lt m _ _ _ hm
  obtain ⟨V0, t0, rfl, w0⟩ : ∃ (V : TabW) (t : Tab), v0 = .agg (tabV V t) ∧ TabAt W W.heap.size V t ∧ t.ok := by
    obtain ⟨f00, f01, f02, f03, f04, f05, T0⟩ := tenType
    obtain ⟨m00, m01, m02, m03, K0⟩ := volType
    obtain ⟨g00, g01, g02, L0⟩ := tabType
    obtain ⟨V, t, e, x, y⟩ := open_table L0 Try.underlying34 Try.underlying35 Try.underlying36 T0 K0 (by kernel_rfl) (by kernel_rfl) (hval 0 38 v0 rfl rfl) h0
    exact ⟨V, t, e, x, y⟩
  obtain ⟨a1, len1, cap1, rfl⟩ := okWide_slice Try.underlying39 (hval 1 39 v1 rfl rfl)
  have k1 := h1
  have lt1 : ∀ x ∈ p1, x.block < W.heap.size := by obtain ⟨m, hm⟩ := k1; exact DataW.trod_lt m _ _ _ hm
  obtain ⟨z1, w1⟩ : ∃ z1 : List Rc, z1.length = len1 ∧ len1 ≤ cap1 ∧ RecsAt W W.heap.size a1 z1 ∧ (∀ r ∈ z1, r.ok) ∧ z1.length * 56 ≤ 140737488351232 := by
    obtain ⟨fuel, hf⟩ := h1
    obtain ⟨f10, f11, f12, f13, f14, f15, T1⟩ := hdType
    have hw1 : ∀ n ∈ d1.weights Try.prog 39, n ≤ reachBytes := fun n hn => of_decide_eq_true (List.all_eq_true.1 hsz n (DataW.weights_mem_each (j := 1) (t := 39) rfl rfl n hn))
    obtain ⟨x, c, zs, hcs, hlc, hzs, hok, hm1⟩ := open_recs Try.underlying39 T1 (by kernel_rfl) hf
    simp only [Value.slice.injEq] at hcs
    obtain ⟨rfl, rfl, rfl⟩ := hcs
    exact ⟨zs, rfl, hlc, hzs, hok, hm1 hw1⟩
  clear hA0 hval0
  refine (walk V0 t0 a1 len1 cap1 z1 W w0 w1).mono fun e W' ⟨he, bel⟩ => ?_
  subst he
  exact ⟨_, rfl, _, _, _, [], _, [], hW', trodAll_mk1 (shut_bool Try.underlying4 _), (trodAll_cons_mk (Below.trod laidOut (by kernel_rfl) (of_decide_eq_true (by kernel_rfl)) k0 bel lt0) (trodAll_cons_mk (Below.trod laidOut (by kernel_rfl) (of_decide_eq_true (by kernel_rfl)) k1 bel lt1) (trodAll_mk0))), rfl, bel.frame _, fun h => by cases h⟩

theorem over : Rows.headerGapsRow.holds Try.pinned (OpenSpec.ofChange Rows.headerGapsSpec) :=
  OpenClaim.holds_of_wide 8 Try.f8 rfl rfl rfl rfl rfl rfl rfl ⟨rfl, rfl, rfl, rfl, rfl⟩ rfl rfl rfl rfl rfl (by kernel_rfl) Try.func8 (by kernel_rfl)
    (of_decide_eq_true (by kernel_rfl)) (by unfold Func.isWrapper; first | (rw [if_pos (by decide +kernel)]; kernel_rfl) | (rw [if_neg (by decide +kernel)]; exact ⟨rfl, rfl⟩))
    (fun os started H enc _ => lifted os started H enc)

theorem proved : Rows.HeaderGapsSaid := over
#print axioms proved
end Go.Proofs.Ytbmgiekiildaaaa.headerGaps
