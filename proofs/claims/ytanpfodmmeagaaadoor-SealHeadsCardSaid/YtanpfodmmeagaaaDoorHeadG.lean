/-
  An argument that is a struct of five integers and a string, by value: opened, and shut again. The document's own digest (stowageref03), its smaller functions: what they answer; nothing that was there is changed.
-/
import Derived.Test.YtanpfodmmeagaaaDoorChecked
import Derived.WalkKit
import Derived.ProofKit
import Derived.OpenShut
import Derived.ShutString
import Derived.ChangeOld
import Derived.ChangeSame
import Derived.Test.YtanpfodmmeagaaaDoorWordsG
import Derived.Test.YtanpfodmmeagaaaDoorShaNumsG
import Derived.Tactics
import Derived.Tactics2
import Derived.LoopTactic
import Derived.WalkLawsBesides
import Derived.BigQuiet
import Derived.BigRegion
import Derived.Deep.RegionHeld3
import Derived.Deep.DeepCutAuto
namespace Go.Proofs.YtanpfodmmeagaaaDoor
open Go.ChangeShapes Go.WideShapes Go.ChangeAt Go.RowKit
open Go.ChangeMaps (open_string shut_string)

theorem array6 {α : Type} {cs : Array α} (h : cs.size = 6) : ∃ c0 c1 c2 c3 c4 c5, cs = #[c0, c1, c2, c3, c4, c5] := by
  obtain ⟨l⟩ := cs
  match l, h with
  | [c0, c1, c2, c3, c4, c5], _ => exact ⟨c0, c1, c2, c3, c4, c5, rfl⟩

section
variable {H : Type} {enc : TypeId × Value → H} {P : Program} {w : World} {base : Nat} {spare : Nat → Bool} {held : Bool}
/-- What is known of the type: its six fields, one cell each. -/
structure HeadType (P : Program) (t : TypeId) (f0 f1 f2 f3 f4 f5 : Field) : Prop where
  ty : P.underlying t = some (.struct #[f0, f1, f2, f3, f4, f5])
  cells : P.cellsOf t = 6
  off : f0.offset = 0 ∧ f1.offset = 1 ∧ f2.offset = 2 ∧ f3.offset = 3 ∧ f4.offset = 4 ∧ f5.offset = 5
  one : P.cellsOf f0.type = 1 ∧ P.cellsOf f1.type = 1 ∧ P.cellsOf f2.type = 1 ∧ P.cellsOf f3.type = 1 ∧ P.cellsOf f4.type = 1 ∧ P.cellsOf f5.type = 1
  int : P.underlying f0.type = some (.int .i64) ∧ P.underlying f1.type = some (.int .i64) ∧ P.underlying f2.type = some (.int .i64) ∧ P.underlying f3.type = some (.int .i64) ∧ P.underlying f4.type = some (.int .i64)
  str : P.underlying f5.type = some .string
variable {t : TypeId} {f0 f1 f2 f3 f4 f5 : Field}
theorem open_head {r : Reach} {b0 : Nat} {v : Value} {d : DataW H} {ps : List MemPlace} (T : HeadType P t f0 f1 f2 f3 f4 f5) (hv : Value.okWide P w r b0 t v) (h : DataW.Trod enc P w base spare held t v d ps) :
    ∃ (n0 n1 n2 n3 n4 : Int) (s : ByteArray), v = .agg #[.int .i64 n0, .int .i64 n1, .int .i64 n2, .int .i64 n3, .int .i64 n4, .string s] ∧
      d = .agg [.lit (.int .i64 n0), .lit (.int .i64 n1), .lit (.int .i64 n2), .lit (.int .i64 n3), .lit (.int .i64 n4), .lit (.string s.data.toList)] ∧ ps = [] ∧
      (Lit.int .i64 n0).wf = true ∧ (Lit.int .i64 n1).wf = true ∧ (Lit.int .i64 n2).wf = true ∧ (Lit.int .i64 n3).wf = true ∧ (Lit.int .i64 n4).wf = true ∧ s.size ≤ maxLen := by
  obtain ⟨cs, rfl, hsz⟩ := okWide_struct T.ty hv
  rw [T.cells] at hsz
  obtain ⟨c0, c1, c2, c3, c4, c5, rfl⟩ := array6 hsz
  obtain ⟨fuel, hf⟩ := h
  obtain ⟨xs, n, _, hx, _, hlen, hp⟩ := DataW.trod_struct T.ty hf
  obtain ⟨o0, o1, o2, o3, o4, o5⟩ := T.off
  obtain ⟨e0, e1, e2, e3, e4, e5⟩ := T.one
  obtain ⟨i0, i1, i2, i3, i4⟩ := T.int
  have g0 := hp 0 f0 rfl
  have g1 := hp 1 f1 rfl
  have g2 := hp 2 f2 rfl
  have g3 := hp 3 f3 rfl
  have g4 := hp 4 f4 rfl
  have g5 := hp 5 f5 rfl
  rw [o0, e0] at g0
  rw [o1, e1] at g1
  rw [o2, e2] at g2
  rw [o3, e3] at g3
  rw [o4, e4] at g4
  rw [o5, e5] at g5
  simp only [List.size_toArray, List.length_cons, List.length_nil] at hlen
  match xs, hlen with
  | [y0, y1, y2, y3, y4, y5], _ =>
    simp only [Value.cells, List.drop_zero, List.drop_succ_cons, List.take_succ_cons, List.take_zero, List.getElem?_cons_zero, List.getElem?_cons_succ] at g0 g1 g2 g3 g4 g5
    obtain ⟨n0, q0, z0, w0⟩ := DataW.trod_int i0 g0
    obtain ⟨n1, q1, z1, w1⟩ := DataW.trod_int i1 g1
    obtain ⟨n2, q2, z2, w2⟩ := DataW.trod_int i2 g2
    obtain ⟨n3, q3, z3, w3⟩ := DataW.trod_int i3 g3
    obtain ⟨n4, q4, z4, w4⟩ := DataW.trod_int i4 g4
    obtain ⟨s, q5, z5, w5⟩ := DataW.trod_string T.str g5
    simp only [List.cons.injEq, and_true] at q0 q1 q2 q3 q4 q5
    subst q0 q1 q2 q3 q4 q5 z0 z1 z2 z3 z4 z5
    simp only [List.map_cons, List.map_nil, List.flatMap_cons, List.flatMap_nil, List.append_nil, Prod.mk.injEq] at hx
    exact ⟨n0, n1, n2, n3, n4, s, rfl, hx.1, hx.2, w0, w1, w2, w3, w4, w5⟩
theorem shut_head {n0 n1 n2 n3 n4 : Int} {s : ByteArray} (T : HeadType P t f0 f1 f2 f3 f4 f5) (w0 : (Lit.int .i64 n0).wf = true) (w1 : (Lit.int .i64 n1).wf = true) (w2 : (Lit.int .i64 n2).wf = true) (w3 : (Lit.int .i64 n3).wf = true) (w4 : (Lit.int .i64 n4).wf = true) (ws : s.size ≤ maxLen) :
    DataW.Trod enc P w base spare held t (.agg #[.int .i64 n0, .int .i64 n1, .int .i64 n2, .int .i64 n3, .int .i64 n4, .string s]) (.agg [.lit (.int .i64 n0), .lit (.int .i64 n1), .lit (.int .i64 n2), .lit (.int .i64 n3), .lit (.int .i64 n4), .lit (.string s.data.toList)]) [] := by
  obtain ⟨o0, o1, o2, o3, o4, o5⟩ := T.off
  obtain ⟨e0, e1, e2, e3, e4, e5⟩ := T.one
  obtain ⟨i0, i1, i2, i3, i4⟩ := T.int
  have hs : DataW.trod enc P w base spare held 1 f5.type [.string s] = some (.lit (.string s.data.toList), []) := by simp [DataW.trod, T.str, ws]
  refine ⟨2, ?_⟩
  have := trod_struct_mk (enc := enc) (w := w) (base := base) (spare := spare) (held := held) (n := 1) (cs := [.int .i64 n0, .int .i64 n1, .int .i64 n2, .int .i64 n3, .int .i64 n4, .string s]) (xs := [(.lit (.int .i64 n0), []), (.lit (.int .i64 n1), []), (.lit (.int .i64 n2), []), (.lit (.int .i64 n3), []), (.lit (.int .i64 n4), []), (.lit (.string s.data.toList), [])]) T.ty (by rw [T.cells]; rfl)
    (by simp [o0, o1, o2, o3, o4, o5, e0, e1, e2, e3, e4, e5, trod_int_mk 0 i0 w0, trod_int_mk 0 i1 w1, trod_int_mk 0 i2 w2, trod_int_mk 0 i3 w3, trod_int_mk 0 i4 w4, hs])
  have h2 : DataW.trod enc P w base spare held 2 t [.int .i64 n0, .int .i64 n1, .int .i64 n2, .int .i64 n3, .int .i64 n4, .string s] = some (.agg [.lit (.int .i64 n0), .lit (.int .i64 n1), .lit (.int .i64 n2), .lit (.int .i64 n3), .lit (.int .i64 n4), .lit (.string s.data.toList)], []) := by simpa using this
  exact h2
end

theorem headType : ∃ f0 f1 f2 f3 f4 f5, HeadType Tryd.prog 23 f0 f1 f2 f3 f4 f5 :=
  ⟨_, _, _, _, _, _, ⟨Tryd.underlying23, by kernel_rfl, ⟨rfl, rfl, rfl, rfl, rfl, rfl⟩, ⟨by kernel_rfl, by kernel_rfl, by kernel_rfl, by kernel_rfl, by kernel_rfl, by kernel_rfl⟩, ⟨by kernel_rfl, by kernel_rfl, by kernel_rfl, by kernel_rfl, by kernel_rfl⟩, by kernel_rfl⟩⟩

end Go.Proofs.YtanpfodmmeagaaaDoor

namespace Go.Proofs.YtanpfodmmeagaaaDoor
open Go.RowKit

theorem u32_x (a b : Nat) (ha : a < 2 ^ 32) (hb : b < 2 ^ 32) : bits .xor .u32 (a : Int) (b : Int) = ((a ^^^ b : Nat) : Int) := u32_xor_nat a b (by omega) (by omega)
theorem u32_a (a b : Nat) (ha : a < 2 ^ 32) (hb : b < 2 ^ 32) : bits .and .u32 (a : Int) (b : Int) = ((a &&& b : Nat) : Int) := u32_and_nat a b (by omega) (by omega)
theorem u32_o (a b : Nat) (ha : a < 2 ^ 32) (hb : b < 2 ^ 32) : bits .or .u32 (a : Int) (b : Int) = ((a ||| b : Nat) : Int) := u32_or_nat a b (by omega) (by omega)
theorem u32_s (a b : Nat) : IntKind.u32.wrap ((a : Int) + (b : Int)) = ((add32 a b : Nat) : Int) := by
  rw [IntKind.wrap_u32]; unfold add32; omega
theorem u32_n (a : Nat) (ha : a < 2 ^ 32) : bits .xor .u32 IntKind.u32.max (a : Int) = ((not32 a : Nat) : Int) := by
  rw [show IntKind.u32.max = ((4294967295 : Nat) : Int) from rfl, u32_x _ _ (by decide) ha]; rfl

/-- 'rotr'. -/
theorem rotr_any (x n : Nat) (w : World) (hx : x < 2 ^ 32) (hn : n ≤ 32) :
    Calls Tryd.prog 80 #[.int .u32 (x : Int), .int .i64 (n : Int)] w fun e w' => e = .returned (.int .u32 (rotrN x n : Nat)) ∧ ∃ m, w' = w.drewN m := by
  have h1 : (n : Int) ≤ 32 := by omega
  have h2 : (0 : Int) ≤ (n : Int) := by omega
  have h3 : (0 : Int) ≤ 32 - (n : Int) := by omega
  have e1 : bits .or .u32 ((x : Int) / 2 ^ n) ((x : Int) * 2 ^ (32 - n) % 4294967296) = ((rotrN x n : Nat) : Int) := by
    have a1 : ((x : Int) / 2 ^ n) = ((x / 2 ^ n : Nat) : Int) := by rw [Int.natCast_ediv, Int.natCast_pow]; rfl
    have a2 : ((x : Int) * 2 ^ (32 - n) % 4294967296) = ((x * 2 ^ (32 - n) % 4294967296 : Nat) : Int) := by
      rw [Int.natCast_emod, Int.natCast_mul, Int.natCast_pow]; rfl
    rw [a1, a2, u32_o _ _ (div_lt hx) (by omega)]; rfl
  have HE := Lib.hid e1
  clear e1
  go_enter Tryd.func80, Tryd.ntmps80
  go_wp2
  go_quiet (fail)
  go_wp2
  go_ret
  exact ⟨ret_int HE.out, nq, rfl⟩

theorem Tryd.infoU32 : (Tryd.prog.info? 61).map (fun i => (i.zero, i.size, i.bytes)) = some (some (.int .u32 0), 1, 4) := by kernel_rfl

/-- 'roots'. -/
theorem roots_any (w : World) : Calls Tryd.prog 65 #[] w fun e w' => ∃ A c, e = .returned (.slice A 64 c) ∧ 64 ≤ c ∧ Ints w' w'.heap.size .u32 A (up shaK) ∧ Below w.heap.size w w' := by
  have HI := Lib.hid (fun cs (hcs : cs.toList = (up shaK).map (Value.int .u32)) => Ints.new w 61 .u32 (up shaK) cs hcs)
  go_enter Tryd.func65, Tryd.ntmps65
  go_wp2
  go_ret
  refine ⟨_, _, rfl, Nat.le_refl _, ?_, (Below.refl _ _).alloc (Nat.le_refl _) _⟩
  rw [World.size_alloc]
  exact HI.out _ rfl

end Go.Proofs.YtanpfodmmeagaaaDoor
