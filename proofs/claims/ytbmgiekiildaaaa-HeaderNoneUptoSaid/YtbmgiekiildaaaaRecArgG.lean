/-
  Arguments: a record by value, opened and shut again; a slice of records that came in. Arguments: a table by value, opened. Arguments: of a table by value whose bulk is bounded, how many owners there are; heads that came in. What the frames of HeaderNone, HeaderGaps and HeaderCounts import.
-/
import Derived.Test.YtbmgiekiildaaaaWordsG
import Derived.Test.YtbmgiekiildaaaaChecked
import Derived.ProofKit
import Derived.OpenShut
import Derived.ShutString
import Derived.ChangeOld
import Derived.ChangeSame
import Derived.Deep.Slices
import Derived.Test.YtbmgiekiildaaaaTableC3G
import Derived.Test.YtbmgiekiildaaaaRows
import Derived.Test.YtbmgiekiildaaaaHdNoneG
import Derived.Test.YtbmgiekiildaaaaHdLaw4G
import Derived.Test.YtbmgiekiildaaaaHdLaw5G
namespace Go.Proofs.Ytbmgiekiildaaaa
open Go.ChangeShapes Go.WideShapes Go.ChangeAt Go.RowKit
open Go.ChangeMaps (open_string shut_string)

theorem i64n_wf {n : Int} (h : (Lit.int .i64 n).wf = true) : I64n n := int_i64 h

section
variable {H : Type} {enc : TypeId × Value → H} {P : Program} {w : World} {base : Nat} {spare : Nat → Bool} {held : Bool}
/-- What is known of the type of records: six fields, one cell each. -/
structure RecType (P : Program) (t : TypeId) (f0 f1 f2 f3 f4 f5 : Field) : Prop where
  ty : P.underlying t = some (.struct #[f0, f1, f2, f3, f4, f5])
  cells : P.cellsOf t = 6
  off : f0.offset = 0 ∧ f1.offset = 1 ∧ f2.offset = 2 ∧ f3.offset = 3 ∧ f4.offset = 4 ∧ f5.offset = 5
  one : P.cellsOf f0.type = 1 ∧ P.cellsOf f1.type = 1 ∧ P.cellsOf f2.type = 1 ∧ P.cellsOf f3.type = 1 ∧ P.cellsOf f4.type = 1 ∧ P.cellsOf f5.type = 1
  int : P.underlying f0.type = some (.int .i64) ∧ P.underlying f1.type = some (.int .i64) ∧ P.underlying f2.type = some (.int .i64) ∧ P.underlying f3.type = some (.int .i64) ∧ P.underlying f4.type = some (.int .i64)
  str : P.underlying f5.type = some .string
variable {t : TypeId} {f0 f1 f2 f3 f4 f5 : Field}
/-- A record's datum. -/
def rcD (r : Rc) : DataW H := .agg [.lit (.int .i64 r.k), .lit (.int .i64 r.a), .lit (.int .i64 r.b), .lit (.int .i64 r.c), .lit (.int .i64 r.d), .lit (.string r.key.data.toList)]
structure Rc.wf (r : Rc) : Prop where
  k : (Lit.int .i64 r.k).wf = true
  a : (Lit.int .i64 r.a).wf = true
  b : (Lit.int .i64 r.b).wf = true
  c : (Lit.int .i64 r.c).wf = true
  d : (Lit.int .i64 r.d).wf = true
  key : r.key.size ≤ maxLen
theorem Rc.wf.ok {r : Rc} (h : r.wf) : r.ok := ⟨i64n_wf h.k, i64n_wf h.a, i64n_wf h.b, i64n_wf h.c, i64n_wf h.d, by have := h.key; unfold maxLen at this; omega⟩
theorem open_rec {fuel : Nat} {cs : List Value} {x : DataW H × List MemPlace} (T : RecType P t f0 f1 f2 f3 f4 f5) (hf : DataW.trod enc P w base spare held fuel t cs = some x) : ∃ r : Rc, cs = (rcV r).toList ∧ x = (rcD r, []) ∧ r.wf := by
  obtain ⟨xs, n, _, hx, hcl, hlen, hp⟩ := DataW.trod_struct T.ty hf
  rw [T.cells] at hcl
  match cs, hcl with
  | [v0, v1, v2, v3, v4, v5], _ =>
    obtain ⟨o0, o1, o2, o3, o4, o5⟩ := T.off
    obtain ⟨e0, e1, e2, e3, e4, e5⟩ := T.one
    obtain ⟨i0, i1, i2, i3, i4⟩ := T.int
    have g0 := hp 0 f0 rfl
    have g1 := hp 1 f1 rfl
    have g2 := hp 2 f2 rfl
    have g3 := hp 3 f3 rfl
    have g4 := hp 4 f4 rfl
    have g5 := hp 5 f5 rfl
    rw [o0, e0] at g0
    rw [o1, e1] at g1
    rw [o2, e2] at g2
    rw [o3, e3] at g3
    rw [o4, e4] at g4
    rw [o5, e5] at g5
    simp only [List.size_toArray, List.length_cons, List.length_nil] at hlen
    match xs, hlen with
    | [y0, y1, y2, y3, y4, y5], _ =>
      simp only [List.drop_zero, List.drop_succ_cons, List.take_succ_cons, List.take_zero, List.getElem?_cons_zero, List.getElem?_cons_succ] at g0 g1 g2 g3 g4 g5
      obtain ⟨n0, q0, z0, w0⟩ := DataW.trod_int i0 g0
      obtain ⟨n1, q1, z1, w1⟩ := DataW.trod_int i1 g1
      obtain ⟨n2, q2, z2, w2⟩ := DataW.trod_int i2 g2
      obtain ⟨n3, q3, z3, w3⟩ := DataW.trod_int i3 g3
      obtain ⟨n4, q4, z4, w4⟩ := DataW.trod_int i4 g4
      obtain ⟨s, q5, z5, w5⟩ := DataW.trod_string T.str g5
      simp only [List.cons.injEq, and_true] at q0 q1 q2 q3 q4 q5
      subst q0 q1 q2 q3 q4 q5 z0 z1 z2 z3 z4 z5
      simp only [List.map_cons, List.map_nil, List.flatMap_cons, List.flatMap_nil, List.append_nil] at hx
      exact ⟨⟨n0, n1, n2, n3, n4, s⟩, rfl, hx, ⟨w0, w1, w2, w3, w4, w5⟩⟩
theorem shut_rec {r : Rc} (T : RecType P t f0 f1 f2 f3 f4 f5) (h : r.wf) : DataW.trod enc P w base spare held 2 t (rcV r).toList = some (rcD r, []) := by
  obtain ⟨o0, o1, o2, o3, o4, o5⟩ := T.off
  obtain ⟨e0, e1, e2, e3, e4, e5⟩ := T.one
  obtain ⟨i0, i1, i2, i3, i4⟩ := T.int
  obtain ⟨w0, w1, w2, w3, w4, ws⟩ := h
  obtain ⟨n0, n1, n2, n3, n4, s⟩ := r
  simp only at w0 w1 w2 w3 w4 ws
  have hs : DataW.trod enc P w base spare held 1 f5.type [.string s] = some (.lit (.string s.data.toList), []) := by simp [DataW.trod, T.str, ws]
  have := trod_struct_mk (enc := enc) (w := w) (base := base) (spare := spare) (held := held) (n := 1) (cs := [.int .i64 n0, .int .i64 n1, .int .i64 n2, .int .i64 n3, .int .i64 n4, .string s]) (xs := [(.lit (.int .i64 n0), []), (.lit (.int .i64 n1), []), (.lit (.int .i64 n2), []), (.lit (.int .i64 n3), []), (.lit (.int .i64 n4), []), (.lit (.string s.data.toList), [])]) T.ty (by rw [T.cells]; rfl)
    (by simp [o0, o1, o2, o3, o4, o5, e0, e1, e2, e3, e4, e5, trod_int_mk 0 i0 w0, trod_int_mk 0 i1 w1, trod_int_mk 0 i2 w2, trod_int_mk 0 i3 w3, trod_int_mk 0 i4 w4, hs])
  have h2 : DataW.trod enc P w base spare held 2 t [.int .i64 n0, .int .i64 n1, .int .i64 n2, .int .i64 n3, .int .i64 n4, .string s] = some (.agg [.lit (.int .i64 n0), .lit (.int .i64 n1), .lit (.int .i64 n2), .lit (.int .i64 n3), .lit (.int .i64 n4), .lit (.string s.data.toList)], []) := by simpa using this
  exact h2
end

section
variable {H : Type} {enc : TypeId × Value → H} {P : Program} {w : World} {base : Nat} {held : Bool}
variable {t u e : TypeId} {f0 f1 f2 f3 f4 f5 : Field}
theorem weights_memL {e : TypeId} : ∀ {ds : List (DataW H)} {d : DataW H}, d ∈ ds → ∀ n ∈ d.weights P e, n ∈ DataW.weightsAll P e ds
  | d0 :: ds, d, hd, n, hn => by
    simp only [DataW.weightsAll, List.mem_append]
    rcases List.mem_cons.1 hd with h | h
    · exact .inl (h ▸ hn)
    · exact .inr (weights_memL h n hn)
  | [], _, hd, _, _ => absurd hd (by simp)
theorem addL (b off i : Nat) : (⟨b, off, none⟩ : Addr).add i = ⟨b, off + i, none⟩ := by unfold Addr.add; split <;> simp_all
instance : Inhabited Rc := ⟨⟨0, 0, 0, 0, 0, ⟨#[]⟩⟩⟩
/-- A transaction that came in. -/
theorem open_recs (hu : P.underlying u = some (.slice e)) (T : RecType P e f0 f1 f2 f3 f4 f5) (hb : P.bytesOf e = 56) {fuel : Nat} {v : Value} {x : DataW H × List MemPlace} (h : DataW.trod enc P w base (fun _ => true) held fuel u [v] = some x) :
    ∃ (A : Option Addr) (c : Nat) (rs : List Rc), v = .slice A rs.length c ∧ rs.length ≤ c ∧ RecsAt w w.heap.size A rs ∧ (∀ r ∈ rs, r.ok) ∧ ((∀ n ∈ (x.1).weights P u, n ≤ reachBytes) → rs.length * 56 ≤ 140737488351232) := by
  rcases Go.Deep.open_slice hu h with ⟨h0, _⟩ | ⟨a, len, cap, m, n, D, Pl, hcs, _, hl, _, hmm, rfl, hx⟩
  · simp only [List.cons.injEq, and_true] at h0
    exact ⟨none, 0, [], h0, Nat.le_refl _, RecsAt.nil _ _ _, by simp, fun _ => by simp⟩
  · simp only [List.cons.injEq, and_true] at hcs
    subst hcs
    simp only [if_true] at hmm
    rw [T.cells] at hx
    have each : ∀ i, i < len → ∃ r : Rc, r.ok ∧ w.cells? base (a.add (i * 6)) 6 = some (rcV r).toList := fun i hi => by
      obtain ⟨cs', hc, htr⟩ := hx i (by omega)
      obtain ⟨r, rfl, _, hw⟩ := open_rec T htr
      exact ⟨r, hw.ok, hc⟩
    obtain ⟨y, hy⟩ := Go.Deep.choose_lt each
    refine ⟨some a, cap, (List.range len).map y, by simp, by simpa using hl, fun k hk => ?_, fun r hr => ?_, fun hwt => ?_⟩
    · have hk' : k < len := by simpa using hk
      obtain ⟨_, hc⟩ := hy k hk'
      obtain ⟨_, _, hcell⟩ := World.cells?_some hc
      have k0 := hcell 0 (by decide)
      have k1 := hcell 1 (by decide)
      have k2 := hcell 2 (by decide)
      have k3 := hcell 3 (by decide)
      have k4 := hcell 4 (by decide)
      have k5 := hcell 5 (by decide)
      rw [Go.Deep.add_add] at k0 k1 k2 k3 k4 k5
      obtain ⟨b, off, spot⟩ := a
      have hspot : spot = none := by
        obtain ⟨_, hc9⟩ := hy 0 (by omega)
        have k9 := World.cell?_spot ((World.cells?_some hc9).2.2 0 (by decide))
        simpa [Addr.add] using k9
      subst hspot
      rw [addL] at k0 k1 k2 k3 k4 k5
      simp only [List.getElem_map, List.getElem_range]
      rw [Nat.mul_comm k 6] at k0 k1 k2 k3 k4 k5
      exact ⟨b, off, rfl, World.block_lt_of_cell? w _ k0, k0, k1, k2, k3, k4, k5⟩
    · obtain ⟨i, hi, rfl⟩ := List.mem_map.1 hr
      exact (hy i (List.mem_range.1 hi)).1
    · have := hwt (cap * 56) (by
        simp only [DataW.weights, hu, hb, List.mem_cons, List.length_map, List.length_range]
        left
        rw [hmm]; congr 1; omega)
      simp only [List.length_map, List.length_range]
      unfold reachBytes at this
      omega
end
theorem recType : ∃ f0 f1 f2 f3 f4 f5, RecType Try.prog 86 f0 f1 f2 f3 f4 f5 :=
  ⟨_, _, _, _, _, _, ⟨Try.underlying86, by kernel_rfl, ⟨rfl, rfl, rfl, rfl, rfl, rfl⟩, ⟨by kernel_rfl, by kernel_rfl, by kernel_rfl, by kernel_rfl, by kernel_rfl, by kernel_rfl⟩, ⟨by kernel_rfl, by kernel_rfl, by kernel_rfl, by kernel_rfl, by kernel_rfl⟩, by kernel_rfl⟩⟩

end Go.Proofs.Ytbmgiekiildaaaa

namespace Go.Proofs.Ytbmgiekiildaaaa
open Go.ChangeShapes Go.WideShapes Go.ChangeAt Go.RowKit
open Go.ChangeMaps (open_string shut_string)

section
variable {H : Type} {enc : TypeId × Value → H} {P : Program} {w : World} {base : Nat} {held : Bool}
variable {t u e : TypeId} {f0 f1 f2 f3 f4 f5 : Field}
/-- What is known of the type of tenants: six fields, one cell each. -/
structure TenType (P : Program) (t : TypeId) (f0 f1 f2 f3 f4 f5 : Field) : Prop where
  ty : P.underlying t = some (.struct #[f0, f1, f2, f3, f4, f5])
  cells : P.cellsOf t = 6
  off : f0.offset = 0 ∧ f1.offset = 1 ∧ f2.offset = 2 ∧ f3.offset = 3 ∧ f4.offset = 4 ∧ f5.offset = 5
  one : P.cellsOf f0.type = 1 ∧ P.cellsOf f1.type = 1 ∧ P.cellsOf f2.type = 1 ∧ P.cellsOf f3.type = 1 ∧ P.cellsOf f4.type = 1 ∧ P.cellsOf f5.type = 1
  int : P.underlying f0.type = some (.int .i64) ∧ P.underlying f1.type = some (.int .i64) ∧ P.underlying f2.type = some (.int .i64) ∧ P.underlying f3.type = some (.int .i64)
  str : P.underlying f4.type = some .string
  bl : P.underlying f5.type = some .bool
theorem open_ten {spare : Nat → Bool} {fuel : Nat} {cs : List Value} {x : DataW H × List MemPlace} (T : TenType P t f0 f1 f2 f3 f4 f5) (hf : DataW.trod enc P w base spare held fuel t cs = some x) : ∃ r : Ten, cs = [.int .i64 r.id, .int .i64 r.quota, .int .i64 r.rate, .int .i64 r.burst, .string r.key, .bool r.dying] ∧ r.ok := by
  obtain ⟨xs, n, _, hx, hcl, hlen, hp⟩ := DataW.trod_struct T.ty hf
  rw [T.cells] at hcl
  match cs, hcl with
  | [v0, v1, v2, v3, v4, v5], _ =>
    obtain ⟨o0, o1, o2, o3, o4, o5⟩ := T.off
    obtain ⟨e0, e1, e2, e3, e4, e5⟩ := T.one
    obtain ⟨i0, i1, i2, i3⟩ := T.int
    have g0 := hp 0 f0 rfl
    have g1 := hp 1 f1 rfl
    have g2 := hp 2 f2 rfl
    have g3 := hp 3 f3 rfl
    have g4 := hp 4 f4 rfl
    have g5 := hp 5 f5 rfl
    rw [o0, e0] at g0
    rw [o1, e1] at g1
    rw [o2, e2] at g2
    rw [o3, e3] at g3
    rw [o4, e4] at g4
    rw [o5, e5] at g5
    simp only [List.size_toArray, List.length_cons, List.length_nil] at hlen
    match xs, hlen with
    | [y0, y1, y2, y3, y4, y5], _ =>
      simp only [List.drop_zero, List.drop_succ_cons, List.take_succ_cons, List.take_zero, List.getElem?_cons_zero, List.getElem?_cons_succ] at g0 g1 g2 g3 g4 g5
      obtain ⟨n0, q0, _, w0⟩ := DataW.trod_int i0 g0
      obtain ⟨n1, q1, _, w1⟩ := DataW.trod_int i1 g1
      obtain ⟨n2, q2, _, w2⟩ := DataW.trod_int i2 g2
      obtain ⟨n3, q3, _, w3⟩ := DataW.trod_int i3 g3
      obtain ⟨s, q4, _, w4⟩ := DataW.trod_string T.str g4
      obtain ⟨bb, q5, _⟩ := DataW.trod_bool T.bl g5
      simp only [List.cons.injEq, and_true] at q0 q1 q2 q3 q4 q5
      subst q0 q1 q2 q3 q4 q5
      exact ⟨⟨n0, n1, n2, n3, s, bb⟩, rfl, ⟨i64n_wf w0, i64n_wf w1, i64n_wf w2, i64n_wf w3, by unfold maxLen at w4; show s.size ≤ _; omega⟩⟩
/-- What is known of the type of volumes: four integers. -/
structure VolType (P : Program) (t : TypeId) (f0 f1 f2 f3 : Field) : Prop where
  ty : P.underlying t = some (.struct #[f0, f1, f2, f3])
  cells : P.cellsOf t = 4
  off : f0.offset = 0 ∧ f1.offset = 1 ∧ f2.offset = 2 ∧ f3.offset = 3
  one : P.cellsOf f0.type = 1 ∧ P.cellsOf f1.type = 1 ∧ P.cellsOf f2.type = 1 ∧ P.cellsOf f3.type = 1
  int : P.underlying f0.type = some (.int .i64) ∧ P.underlying f1.type = some (.int .i64) ∧ P.underlying f2.type = some (.int .i64) ∧ P.underlying f3.type = some (.int .i64)
theorem open_vol {spare : Nat → Bool} {fuel : Nat} {cs : List Value} {x : DataW H × List MemPlace} (T : VolType P t f0 f1 f2 f3) (hf : DataW.trod enc P w base spare held fuel t cs = some x) : ∃ r : Vol, cs = [.int .i64 r.id, .int .i64 r.ten, .int .i64 r.blocks, .int .i64 r.base] ∧ r.ok := by
  obtain ⟨xs, n, _, hx, hcl, hlen, hp⟩ := DataW.trod_struct T.ty hf
  rw [T.cells] at hcl
  match cs, hcl with
  | [v0, v1, v2, v3], _ =>
    obtain ⟨o0, o1, o2, o3⟩ := T.off
    obtain ⟨e0, e1, e2, e3⟩ := T.one
    obtain ⟨i0, i1, i2, i3⟩ := T.int
    have g0 := hp 0 f0 rfl
    have g1 := hp 1 f1 rfl
    have g2 := hp 2 f2 rfl
    have g3 := hp 3 f3 rfl
    rw [o0, e0] at g0
    rw [o1, e1] at g1
    rw [o2, e2] at g2
    rw [o3, e3] at g3
    simp only [List.size_toArray, List.length_cons, List.length_nil] at hlen
    match xs, hlen with
    | [y0, y1, y2, y3], _ =>
      simp only [List.drop_zero, List.drop_succ_cons, List.take_succ_cons, List.take_zero, List.getElem?_cons_zero, List.getElem?_cons_succ] at g0 g1 g2 g3
      obtain ⟨n0, q0, _, w0⟩ := DataW.trod_int i0 g0
      obtain ⟨n1, q1, _, w1⟩ := DataW.trod_int i1 g1
      obtain ⟨n2, q2, _, w2⟩ := DataW.trod_int i2 g2
      obtain ⟨n3, q3, _, w3⟩ := DataW.trod_int i3 g3
      simp only [List.cons.injEq, and_true] at q0 q1 q2 q3
      subst q0 q1 q2 q3
      exact ⟨⟨n0, n1, n2, n3⟩, rfl, ⟨i64n_wf w0, i64n_wf w1, i64n_wf w2, i64n_wf w3⟩⟩
instance : Inhabited Ten := ⟨⟨0, 0, 0, 0, ⟨#[]⟩, false⟩⟩
instance : Inhabited Vol := ⟨⟨0, 0, 0, 0⟩⟩
theorem open_tens (hu : P.underlying u = some (.slice e)) (T : TenType P e f0 f1 f2 f3 f4 f5) {fuel : Nat} {v : Value} {x : DataW H × List MemPlace} (h : DataW.trod enc P w base (fun _ => true) held fuel u [v] = some x) :
    ∃ (A : Option Addr) (c : Nat) (rs : List Ten), v = .slice A rs.length c ∧ rs.length ≤ c ∧ c ≤ maxLen ∧ TensAt w w.heap.size A rs ∧ ∀ r ∈ rs, r.ok := by
  rcases Go.Deep.open_slice hu h with ⟨h0, _⟩ | ⟨a, len, cap, m, n, D, Pl, hcs, _, hl, hcm, hmm, rfl, hx⟩
  · simp only [List.cons.injEq, and_true] at h0
    exact ⟨none, 0, [], h0, Nat.le_refl _, Nat.zero_le _, TensAt.nil _ _ _, by simp⟩
  · simp only [List.cons.injEq, and_true] at hcs
    subst hcs
    simp only [if_true] at hmm
    rw [T.cells] at hx
    have each : ∀ i, i < len → ∃ r : Ten, r.ok ∧ w.cells? base (a.add (i * 6)) 6 = some [.int .i64 r.id, .int .i64 r.quota, .int .i64 r.rate, .int .i64 r.burst, .string r.key, .bool r.dying] := fun i hi => by
      obtain ⟨cs', hc, htr⟩ := hx i (by omega)
      obtain ⟨r, rfl, hw⟩ := open_ten T htr
      exact ⟨r, hw, hc⟩
    obtain ⟨y, hy⟩ := Go.Deep.choose_lt each
    refine ⟨some a, cap, (List.range len).map y, by simp, by simpa using hl, hcm, fun k hk => ?_, fun r hr => ?_⟩
    · have hk' : k < len := by simpa using hk
      obtain ⟨_, hc⟩ := hy k hk'
      obtain ⟨_, _, hcell⟩ := World.cells?_some hc
      have k0 := hcell 0 (by decide)
      have k1 := hcell 1 (by decide)
      have k2 := hcell 2 (by decide)
      have k3 := hcell 3 (by decide)
      have k4 := hcell 4 (by decide)
      have k5 := hcell 5 (by decide)
      rw [Go.Deep.add_add] at k0 k1 k2 k3 k4 k5
      obtain ⟨b, off, spot⟩ := a
      have hspot : spot = none := by
        obtain ⟨_, hc9⟩ := hy 0 (by omega)
        have k9 := World.cell?_spot ((World.cells?_some hc9).2.2 0 (by decide))
        simpa [Addr.add] using k9
      subst hspot
      rw [addL] at k0 k1 k2 k3 k4 k5
      simp only [List.getElem_map, List.getElem_range]
      exact ⟨b, off, rfl, World.block_lt_of_cell? w _ k0, k0, k1, k2, k3, k4, k5⟩
    · obtain ⟨i, hi, rfl⟩ := List.mem_map.1 hr
      exact (hy i (List.mem_range.1 hi)).1
theorem open_vols (hu : P.underlying u = some (.slice e)) (T : VolType P e f0 f1 f2 f3) {fuel : Nat} {v : Value} {x : DataW H × List MemPlace} (h : DataW.trod enc P w base (fun _ => true) held fuel u [v] = some x) :
    ∃ (A : Option Addr) (c : Nat) (rs : List Vol), v = .slice A rs.length c ∧ rs.length ≤ c ∧ c ≤ maxLen ∧ VolsAt w w.heap.size A rs ∧ ∀ r ∈ rs, r.ok := by
  rcases Go.Deep.open_slice hu h with ⟨h0, _⟩ | ⟨a, len, cap, m, n, D, Pl, hcs, _, hl, hcm, hmm, rfl, hx⟩
  · simp only [List.cons.injEq, and_true] at h0
    exact ⟨none, 0, [], h0, Nat.le_refl _, Nat.zero_le _, VolsAt.nil _ _ _, by simp⟩
  · simp only [List.cons.injEq, and_true] at hcs
    subst hcs
    simp only [if_true] at hmm
    rw [T.cells] at hx
    have each : ∀ i, i < len → ∃ r : Vol, r.ok ∧ w.cells? base (a.add (i * 4)) 4 = some [.int .i64 r.id, .int .i64 r.ten, .int .i64 r.blocks, .int .i64 r.base] := fun i hi => by
      obtain ⟨cs', hc, htr⟩ := hx i (by omega)
      obtain ⟨r, rfl, hw⟩ := open_vol T htr
      exact ⟨r, hw, hc⟩
    obtain ⟨y, hy⟩ := Go.Deep.choose_lt each
    refine ⟨some a, cap, (List.range len).map y, by simp, by simpa using hl, hcm, fun k hk => ?_, fun r hr => ?_⟩
    · have hk' : k < len := by simpa using hk
      obtain ⟨_, hc⟩ := hy k hk'
      obtain ⟨_, _, hcell⟩ := World.cells?_some hc
      have k0 := hcell 0 (by decide)
      have k1 := hcell 1 (by decide)
      have k2 := hcell 2 (by decide)
      have k3 := hcell 3 (by decide)
      rw [Go.Deep.add_add] at k0 k1 k2 k3
      obtain ⟨b, off, spot⟩ := a
      have hspot : spot = none := by
        obtain ⟨_, hc9⟩ := hy 0 (by omega)
        have k9 := World.cell?_spot ((World.cells?_some hc9).2.2 0 (by decide))
        simpa [Addr.add] using k9
      subst hspot
      rw [addL] at k0 k1 k2 k3
      simp only [List.getElem_map, List.getElem_range]
      exact ⟨b, off, rfl, World.block_lt_of_cell? w _ k0, k0, k1, k2, k3⟩
    · obtain ⟨i, hi, rfl⟩ := List.mem_map.1 hr
      exact (hy i (List.mem_range.1 hi)).1
theorem open_nums (hu : P.underlying u = some (.slice e)) (he : P.underlying e = some (.int .i64)) (h1 : P.cellsOf e = 1) {fuel : Nat} {v : Value} {x : DataW H × List MemPlace} (h : DataW.trod enc P w base (fun _ => true) held fuel u [v] = some x) :
    ∃ (A : Option Addr) (c : Nat) (rs : List Int), v = .slice A rs.length c ∧ rs.length ≤ c ∧ c ≤ maxLen ∧ Ints w w.heap.size .i64 A rs ∧ ∀ r ∈ rs, I64n r := by
  rcases Go.Deep.open_slice1 hu h1 h with ⟨h0, _⟩ | ⟨a, len, cap, m, n, V, D, Pl, hcs, _, hl, hcm, hmm, rfl, hx⟩
  · simp only [List.cons.injEq, and_true] at h0
    exact ⟨none, 0, [], h0, Nat.le_refl _, Nat.zero_le _, Ints.nil _ _ _ _, by simp⟩
  · simp only [List.cons.injEq, and_true] at hcs
    subst hcs
    simp only [if_true] at hmm
    have each : ∀ i, i < len → ∃ r : Int, I64n r ∧ w.cell? (a.add i) = some (.int .i64 r) := fun i hi => by
      obtain ⟨hc, htr⟩ := hx i (by omega)
      obtain ⟨z, q, _, hw⟩ := DataW.trod_int he htr
      simp only [List.cons.injEq, and_true] at q
      exact ⟨z, i64n_wf hw, q ▸ hc⟩
    obtain ⟨y, hy⟩ := Go.Deep.choose_lt each
    refine ⟨some a, cap, (List.range len).map y, by simp, by simpa using hl, hcm, fun k hk => ?_, fun r hr => ?_⟩
    · have hk' : k < len := by simpa using hk
      obtain ⟨_, hc⟩ := hy k hk'
      obtain ⟨b, off, spot⟩ := a
      have hspot : spot = none := by
        obtain ⟨_, hc9⟩ := hy 0 (by omega)
        have k9 := World.cell?_spot hc9
        simpa [Addr.add] using k9
      subst hspot
      rw [addL] at hc
      refine ⟨b, off, rfl, World.block_lt_of_cell? w _ hc, ?_⟩
      rw [hc]
      simp [List.getD, hk']
    · obtain ⟨i, hi, rfl⟩ := List.mem_map.1 hr
      exact (hy i (List.mem_range.1 hi)).1
/-- What is known of the type of tables: three slices. -/
structure TabType (P : Program) (t u1 u2 u3 : TypeId) (g0 g1 g2 : Field) : Prop where
  ty : P.underlying t = some (.struct #[g0, g1, g2])
  cells : P.cellsOf t = 3
  off : g0.offset = 0 ∧ g1.offset = 1 ∧ g2.offset = 2
  one : P.cellsOf u1 = 1 ∧ P.cellsOf u2 = 1 ∧ P.cellsOf u3 = 1
  of : g0.type = u1 ∧ g1.type = u2 ∧ g2.type = u3
variable {u1 u2 u3 e1 e2 e3 : TypeId} {g0 g1 g2 k0 k1 k2 k3 : Field}
/-- A table that came in. -/
theorem open_table {r : Reach} {b0 : Nat} {v : Value} {d : DataW H} {ps : List MemPlace} (L : TabType P t u1 u2 u3 g0 g1 g2) (hu1 : P.underlying u1 = some (.slice e1)) (hu2 : P.underlying u2 = some (.slice e2)) (hu3 : P.underlying u3 = some (.slice e3))
    (T : TenType P e1 f0 f1 f2 f3 f4 f5) (K : VolType P e2 k0 k1 k2 k3) (he : P.underlying e3 = some (.int .i64)) (h1 : P.cellsOf e3 = 1) (hv : Value.okWide P w r b0 t v) (h : DataW.Trod enc P w base (fun _ => true) held t v d ps) :
    ∃ (V : TabW) (tb : Tab), v = .agg (tabV V tb) ∧ TabAt w w.heap.size V tb ∧ tb.ok := by
  obtain ⟨cs, rfl, hsz⟩ := okWide_struct L.ty hv
  rw [L.cells] at hsz
  obtain ⟨fuel, hf⟩ := h
  obtain ⟨xs, n, _, hx, hcl, hlen, hp⟩ := DataW.trod_struct L.ty hf
  obtain ⟨o0, o1, o2⟩ := L.off
  obtain ⟨n0, n1, n2⟩ := L.one
  obtain ⟨t0, t1, t2⟩ := L.of
  have z0 := hp 0 g0 rfl
  have z1 := hp 1 g1 rfl
  have z2 := hp 2 g2 rfl
  rw [o0, t0, n0] at z0
  rw [o1, t1, n1] at z1
  rw [o2, t2, n2] at z2
  obtain ⟨l⟩ := cs
  match l, hsz with
  | [v0, v1, v2], _ =>
    simp only [List.size_toArray, List.length_cons, List.length_nil] at hlen
    match xs, hlen with
    | [y0, y1, y2], _ =>
      simp only [Value.cells, List.drop_zero, List.drop_succ_cons, List.take_succ_cons, List.take_zero, List.getElem?_cons_zero, List.getElem?_cons_succ] at z0 z1 z2
      obtain ⟨A1, c1, l1, rfl, p1, q1, r1, s1⟩ := open_tens hu1 T z0
      obtain ⟨A2, c2, l2, rfl, p2, q2, r2, s2⟩ := open_vols hu2 K z1
      obtain ⟨A3, c3, l3, rfl, p3, q3, r3, s3⟩ := open_nums hu3 he h1 z2
      unfold maxLen at q1 q2 q3
      exact ⟨⟨A1, c1, A2, c2, A3, c3⟩, ⟨l1, l2, l3⟩, rfl, ⟨r1, r2, r3, p1, p2, p3⟩, ⟨s1, s2, s3, by show l1.length ≤ _; omega, by show l2.length ≤ _; omega, by show l3.length ≤ _; omega⟩⟩
end
theorem tenType : ∃ f0 f1 f2 f3 f4 f5, TenType Try.prog 83 f0 f1 f2 f3 f4 f5 :=
  ⟨_, _, _, _, _, _, ⟨Try.underlying83, by kernel_rfl, ⟨rfl, rfl, rfl, rfl, rfl, rfl⟩, ⟨by kernel_rfl, by kernel_rfl, by kernel_rfl, by kernel_rfl, by kernel_rfl, by kernel_rfl⟩, ⟨by kernel_rfl, by kernel_rfl, by kernel_rfl, by kernel_rfl⟩, by kernel_rfl, by kernel_rfl⟩⟩
theorem volType : ∃ f0 f1 f2 f3, VolType Try.prog 46 f0 f1 f2 f3 :=
  ⟨_, _, _, _, ⟨Try.underlying46, by kernel_rfl, ⟨rfl, rfl, rfl, rfl⟩, ⟨by kernel_rfl, by kernel_rfl, by kernel_rfl, by kernel_rfl⟩, ⟨by kernel_rfl, by kernel_rfl, by kernel_rfl, by kernel_rfl⟩⟩⟩
theorem tabType : ∃ g0 g1 g2, TabType Try.prog 38 34 35 36 g0 g1 g2 :=
  ⟨_, _, _, ⟨Try.underlying38, by kernel_rfl, ⟨rfl, rfl, rfl⟩, ⟨by kernel_rfl, by kernel_rfl, by kernel_rfl⟩, ⟨rfl, rfl, rfl⟩⟩⟩

end Go.Proofs.Ytbmgiekiildaaaa

namespace Go.Proofs.Ytbmgiekiildaaaa
open Go.ChangeShapes Go.WideShapes Go.ChangeAt Go.RowKit
open Go.ChangeMaps (open_string shut_string)

section
variable {H : Type} {enc : TypeId × Value → H} {P : Program} {w : World} {base : Nat} {held : Bool}
variable {t u1 u2 u3 e3 : TypeId} {g0 g1 g2 : Field}
theorem bulk_slice (elems spare : List (DataW H)) : elems.length ≤ Rows.uptoBulk (.slice elems spare) := by
  have h : ∀ l : List (DataW H), l.length ≤ Rows.uptoBulkAll l := by
    intro l
    induction l with
    | nil => simp [Rows.uptoBulkAll]
    | cons x r ih =>
      have : 1 ≤ Rows.uptoBulk x := by
        cases x with
        | lit l => cases l <;> simp [Rows.uptoBulk]
        | _ => simp [Rows.uptoBulk]
      simp only [Rows.uptoBulkAll, List.length_cons]; omega
  have := h elems
  simp only [Rows.uptoBulk]; omega
theorem os_bound {V : TabW} {tb : Tab} {d : DataW H} {ps : List MemPlace} (L : TabType P t u1 u2 u3 g0 g1 g2) (hu3 : P.underlying u3 = some (.slice e3)) (h1 : P.cellsOf e3 = 1) (h : DataW.Trod enc P w base (fun _ => true) held t (.agg (tabV V tb)) d ps) : tb.os.length ≤ Rows.uptoBulk d := by
  obtain ⟨fuel, hf⟩ := h
  obtain ⟨xs, n, _, hx, hcl, hlen, hp⟩ := DataW.trod_struct L.ty hf
  obtain ⟨o0, o1, o2⟩ := L.off
  obtain ⟨n0, n1, n2⟩ := L.one
  obtain ⟨t0, t1, t2⟩ := L.of
  have z2 := hp 2 g2 rfl
  rw [o2, t2, n2] at z2
  simp only [List.size_toArray, List.length_cons, List.length_nil] at hlen
  match xs, hlen with
  | [y0, y1, y2], _ =>
    simp only [Value.cells, tabV, List.drop_zero, List.drop_succ_cons, List.take_succ_cons, List.take_zero, List.getElem?_cons_zero, List.getElem?_cons_succ] at z2
    simp only [List.map_cons, List.map_nil, Prod.mk.injEq] at hx
    rw [hx.1]
    simp only [Rows.uptoBulk, Rows.uptoBulkAll]
    rcases Go.Deep.open_slice1 hu3 h1 z2 with ⟨h0, _⟩ | ⟨a, len, cap, m, nn, VV, D, Pl, hcs, _, _, _, _, rfl, _⟩
    · simp only [List.cons.injEq, and_true, Value.slice.injEq] at h0
      omega
    · simp only [List.cons.injEq, and_true, Value.slice.injEq] at hcs
      have q := bulk_slice ((List.range len).map D) ((List.range (m - len)).map fun j => D (len + j))
      simp only [List.length_map, List.length_range] at q
      dsimp only
      omega
end
theorem hdType : ∃ f0 f1 f2 f3 f4 f5, RecType Try.prog 23 f0 f1 f2 f3 f4 f5 :=
  ⟨_, _, _, _, _, _, ⟨Try.underlying23, by kernel_rfl, ⟨rfl, rfl, rfl, rfl, rfl, rfl⟩, ⟨by kernel_rfl, by kernel_rfl, by kernel_rfl, by kernel_rfl, by kernel_rfl, by kernel_rfl⟩, ⟨by kernel_rfl, by kernel_rfl, by kernel_rfl, by kernel_rfl, by kernel_rfl⟩, by kernel_rfl⟩⟩

end Go.Proofs.Ytbmgiekiildaaaa
