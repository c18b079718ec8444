/-
  An argument that is a struct of five integers and a string, by value: opened, and shut again.
-/
import Derived.Test.YtbmgiekiildaaaaChecked
import Derived.WalkKit
import Derived.ProofKit
import Derived.OpenShut
import Derived.ShutString
import Derived.ChangeOld
import Derived.ChangeSame
namespace Go.Proofs.Ytbmgiekiildaaaa
open Go.ChangeShapes Go.WideShapes Go.ChangeAt Go.RowKit
open Go.ChangeMaps (open_string shut_string)

theorem array6 {α : Type} {cs : Array α} (h : cs.size = 6) : ∃ c0 c1 c2 c3 c4 c5, cs = #[c0, c1, c2, c3, c4, c5] := by
  obtain ⟨l⟩ := cs
  match l, h with
  | [c0, c1, c2, c3, c4, c5], _ => exact ⟨c0, c1, c2, c3, c4, c5, rfl⟩

section
variable {H : Type} {enc : TypeId × Value → H} {P : Program} {w : World} {base : Nat} {spare : Nat → Bool} {held : Bool}
/-- What is known of the type: its six fields, one cell each. -/
structure HeadType (P : Program) (t : TypeId) (f0 f1 f2 f3 f4 f5 : Field) : Prop where
  ty : P.underlying t = some (.struct #[f0, f1, f2, f3, f4, f5])
  cells : P.cellsOf t = 6
  off : f0.offset = 0 ∧ f1.offset = 1 ∧ f2.offset = 2 ∧ f3.offset = 3 ∧ f4.offset = 4 ∧ f5.offset = 5
  one : P.cellsOf f0.type = 1 ∧ P.cellsOf f1.type = 1 ∧ P.cellsOf f2.type = 1 ∧ P.cellsOf f3.type = 1 ∧ P.cellsOf f4.type = 1 ∧ P.cellsOf f5.type = 1
  int : P.underlying f0.type = some (.int .i64) ∧ P.underlying f1.type = some (.int .i64) ∧ P.underlying f2.type = some (.int .i64) ∧ P.underlying f3.type = some (.int .i64) ∧ P.underlying f4.type = some (.int .i64)
  str : P.underlying f5.type = some .string
variable {t : TypeId} {f0 f1 f2 f3 f4 f5 : Field}
theorem open_head {r : Reach} {b0 : Nat} {v : Value} {d : DataW H} {ps : List MemPlace} (T : HeadType P t f0 f1 f2 f3 f4 f5) (hv : Value.okWide P w r b0 t v) (h : DataW.Trod enc P w base spare held t v d ps) :
    ∃ (n0 n1 n2 n3 n4 : Int) (s : ByteArray), v = .agg #[.int .i64 n0, .int .i64 n1, .int .i64 n2, .int .i64 n3, .int .i64 n4, .string s] ∧
      d = .agg [.lit (.int .i64 n0), .lit (.int .i64 n1), .lit (.int .i64 n2), .lit (.int .i64 n3), .lit (.int .i64 n4), .lit (.string s.data.toList)] ∧ ps = [] ∧
      (Lit.int .i64 n0).wf = true ∧ (Lit.int .i64 n1).wf = true ∧ (Lit.int .i64 n2).wf = true ∧ (Lit.int .i64 n3).wf = true ∧ (Lit.int .i64 n4).wf = true ∧ s.size ≤ maxLen := by
  obtain ⟨cs, rfl, hsz⟩ := okWide_struct T.ty hv
  rw [T.cells] at hsz
  obtain ⟨c0, c1, c2, c3, c4, c5, rfl⟩ := array6 hsz
  obtain ⟨fuel, hf⟩ := h
  obtain ⟨xs, n, _, hx, _, hlen, hp⟩ := DataW.trod_struct T.ty hf
  obtain ⟨o0, o1, o2, o3, o4, o5⟩ := T.off
  obtain ⟨e0, e1, e2, e3, e4, e5⟩ := T.one
  obtain ⟨i0, i1, i2, i3, i4⟩ := T.int
  have g0 := hp 0 f0 rfl
  have g1 := hp 1 f1 rfl
  have g2 := hp 2 f2 rfl
  have g3 := hp 3 f3 rfl
  have g4 := hp 4 f4 rfl
  have g5 := hp 5 f5 rfl
  rw [o0, e0] at g0
  rw [o1, e1] at g1
  rw [o2, e2] at g2
  rw [o3, e3] at g3
  rw [o4, e4] at g4
  rw [o5, e5] at g5
  simp only [List.size_toArray, List.length_cons, List.length_nil] at hlen
  match xs, hlen with
  | [y0, y1, y2, y3, y4, y5], _ =>
    simp only [Value.cells, List.drop_zero, List.drop_succ_cons, List.take_succ_cons, List.take_zero, List.getElem?_cons_zero, List.getElem?_cons_succ] at g0 g1 g2 g3 g4 g5
    obtain ⟨n0, q0, z0, w0⟩ := DataW.trod_int i0 g0
    obtain ⟨n1, q1, z1, w1⟩ := DataW.trod_int i1 g1
    obtain ⟨n2, q2, z2, w2⟩ := DataW.trod_int i2 g2
    obtain ⟨n3, q3, z3, w3⟩ := DataW.trod_int i3 g3
    obtain ⟨n4, q4, z4, w4⟩ := DataW.trod_int i4 g4
    obtain ⟨s, q5, z5, w5⟩ := DataW.trod_string T.str g5
    simp only [List.cons.injEq, and_true] at q0 q1 q2 q3 q4 q5
    subst q0 q1 q2 q3 q4 q5 z0 z1 z2 z3 z4 z5
    simp only [List.map_cons, List.map_nil, List.flatMap_cons, List.flatMap_nil, List.append_nil, Prod.mk.injEq] at hx
    exact ⟨n0, n1, n2, n3, n4, s, rfl, hx.1, hx.2, w0, w1, w2, w3, w4, w5⟩
theorem shut_head {n0 n1 n2 n3 n4 : Int} {s : ByteArray} (T : HeadType P t f0 f1 f2 f3 f4 f5) (w0 : (Lit.int .i64 n0).wf = true) (w1 : (Lit.int .i64 n1).wf = true) (w2 : (Lit.int .i64 n2).wf = true) (w3 : (Lit.int .i64 n3).wf = true) (w4 : (Lit.int .i64 n4).wf = true) (ws : s.size ≤ maxLen) :
    DataW.Trod enc P w base spare held t (.agg #[.int .i64 n0, .int .i64 n1, .int .i64 n2, .int .i64 n3, .int .i64 n4, .string s]) (.agg [.lit (.int .i64 n0), .lit (.int .i64 n1), .lit (.int .i64 n2), .lit (.int .i64 n3), .lit (.int .i64 n4), .lit (.string s.data.toList)]) [] := by
  obtain ⟨o0, o1, o2, o3, o4, o5⟩ := T.off
  obtain ⟨e0, e1, e2, e3, e4, e5⟩ := T.one
  obtain ⟨i0, i1, i2, i3, i4⟩ := T.int
  have hs : DataW.trod enc P w base spare held 1 f5.type [.string s] = some (.lit (.string s.data.toList), []) := by simp [DataW.trod, T.str, ws]
  refine ⟨2, ?_⟩
  have := trod_struct_mk (enc := enc) (w := w) (base := base) (spare := spare) (held := held) (n := 1) (cs := [.int .i64 n0, .int .i64 n1, .int .i64 n2, .int .i64 n3, .int .i64 n4, .string s]) (xs := [(.lit (.int .i64 n0), []), (.lit (.int .i64 n1), []), (.lit (.int .i64 n2), []), (.lit (.int .i64 n3), []), (.lit (.int .i64 n4), []), (.lit (.string s.data.toList), [])]) T.ty (by rw [T.cells]; rfl)
    (by simp [o0, o1, o2, o3, o4, o5, e0, e1, e2, e3, e4, e5, trod_int_mk 0 i0 w0, trod_int_mk 0 i1 w1, trod_int_mk 0 i2 w2, trod_int_mk 0 i3 w3, trod_int_mk 0 i4 w4, hs])
  have h2 : DataW.trod enc P w base spare held 2 t [.int .i64 n0, .int .i64 n1, .int .i64 n2, .int .i64 n3, .int .i64 n4, .string s] = some (.agg [.lit (.int .i64 n0), .lit (.int .i64 n1), .lit (.int .i64 n2), .lit (.int .i64 n3), .lit (.int .i64 n4), .lit (.string s.data.toList)], []) := by simpa using this
  exact h2
end

theorem headType : ∃ f0 f1 f2 f3 f4 f5, HeadType Try.prog 23 f0 f1 f2 f3 f4 f5 :=
  ⟨_, _, _, _, _, _, ⟨Try.underlying23, by kernel_rfl, ⟨rfl, rfl, rfl, rfl, rfl, rfl⟩, ⟨by kernel_rfl, by kernel_rfl, by kernel_rfl, by kernel_rfl, by kernel_rfl, by kernel_rfl⟩, ⟨by kernel_rfl, by kernel_rfl, by kernel_rfl, by kernel_rfl, by kernel_rfl⟩, by kernel_rfl⟩⟩

end Go.Proofs.Ytbmgiekiildaaaa
