/-
  A slice of calls that came in (two integers and a slice of integers each), opened whole.
-/
import Derived.Test.YtdfalnjdjkoofaaClockPlays
import Derived.Deep.Matrix
import Derived.WalkKit
import Derived.ProofKit
import Derived.OpenShut
import Derived.ChangeOld
import Derived.SizedLaws
namespace Go.Proofs.Ytdfalnjdjkoofaa
open Go.ChangeShapes Go.WideShapes Go.ChangeAt Go.RowKit

section
variable {H : Type} {enc : TypeId × Value → H} {P : Program} {w : World} {base : Nat} {held : Bool}
/-- What is known of the type: its three fields, one cell each. -/
structure ActType (P : Program) (t q : TypeId) (f0 f1 f2 : Field) : Prop where
  ty : P.underlying t = some (.struct #[f0, f1, f2])
  cells : P.cellsOf t = 3
  off : f0.offset = 0 ∧ f1.offset = 1 ∧ f2.offset = 2
  one : P.cellsOf f0.type = 1 ∧ P.cellsOf f1.type = 1 ∧ P.cellsOf f2.type = 1
  int : P.underlying f0.type = some (.int .i64) ∧ P.underlying f1.type = some (.int .i64)
  sl : P.underlying f2.type = some (.slice q)
  qi : P.underlying q = some (.int .i64)
  qc : P.cellsOf q = 1
theorem spot_none13 {w : World} {a : Addr} {v : Value} (h : w.cell? a = some v) : a.spot = none := World.cell?_spot h
theorem add_spot {w : World} {b off : Nat} {spot : Option Nat} {v : Value} (h : w.cell? ((⟨b, off, spot⟩ : Addr).add 0) = some v) : spot = none := World.cell?_spot (by simpa [Addr.add] using h)
def actD (n0 n1 : Int) (A : Option Addr) (L : Nat) (zs : List Int) : DataW H := .agg [.lit (.int .i64 n0), .lit (.int .i64 n1), Go.Deep.intRow .i64 A L zs]
variable {t e q : TypeId} {f0 f1 f2 : Field}
theorem open_act (T : ActType P e q f0 f1 f2) {fuel : Nat} {cs : List Value} {x : DataW H × List MemPlace} (h : DataW.trod enc P w base (fun _ => true) held fuel e cs = some x) :
    ∃ (n0 n1 : Int) (A : Option Addr) (L C : Nat) (zs : List Int), cs = [.int .i64 n0, .int .i64 n1, .slice A L C] ∧ x.1 = actD n0 n1 A L zs ∧ (Lit.int .i64 n0).wf = true ∧ (Lit.int .i64 n1).wf = true ∧ L ≤ C ∧ zs.length = C ∧
      (∀ n ∈ zs, (Lit.int .i64 n).wf = true) ∧ (A = none → C = 0) ∧ ∀ a', A = some a' → ∀ c, c < C → w.cell? (a'.add c) = some (.int .i64 (zs.getD c 0)) := by
  obtain ⟨xs, n, _, hx, hcl, hlen, hp⟩ := DataW.trod_struct T.ty h
  rw [T.cells] at hcl
  match cs, hcl with
  | [c0, c1, c2], _ =>
    obtain ⟨o0, o1, o2⟩ := T.off
    obtain ⟨e0, e1, e2⟩ := T.one
    obtain ⟨i0, i1⟩ := T.int
    have g0 := hp 0 f0 rfl
    have g1 := hp 1 f1 rfl
    have g2 := hp 2 f2 rfl
    rw [o0, e0] at g0
    rw [o1, e1] at g1
    rw [o2, e2] at g2
    simp only [List.size_toArray, List.length_cons, List.length_nil] at hlen
    match xs, hlen with
    | [y0, y1, y2], _ =>
      simp only [List.drop_zero, List.drop_succ_cons, List.take_succ_cons, List.take_zero, List.getElem?_cons_zero, List.getElem?_cons_succ] at g0 g1 g2
      obtain ⟨n0, q0, z0, w0⟩ := DataW.trod_int i0 g0
      obtain ⟨n1, q1, z1, w1⟩ := DataW.trod_int i1 g1
      simp only [List.cons.injEq, and_true] at q0 q1
      subst q0 q1 z0 z1
      rw [hx]
      rcases open_ints T.sl T.qi T.qc g2 with ⟨hcs, hy⟩ | ⟨a', len', cap', zs, hcs, _, hl', _, hz, hy, hcell, hwz⟩
      · simp only [List.cons.injEq, and_true] at hcs
        subst hcs hy
        exact ⟨n0, n1, none, 0, 0, [], rfl, rfl, w0, w1, Nat.le_refl _, rfl, by simp, fun _ => rfl, fun _ hh => by cases hh⟩
      · simp only [List.cons.injEq, and_true] at hcs
        simp only [if_true] at hz
        subst hcs hy
        refine ⟨n0, n1, some a', len', cap', zs, rfl, rfl, w0, w1, hl', hz, hwz, (fun hh => by cases hh), fun a'' hh => ?_⟩
        cases hh
        exact fun c hc => hcell c (by rw [hz]; exact hc)
theorem weights_mem_all {e : TypeId} : ∀ {ds : List (DataW H)} {d : DataW H}, d ∈ ds → ∀ n ∈ d.weights P e, n ∈ DataW.weightsAll P e ds
  | d0 :: ds, d, hd, n, hn => by
    simp only [DataW.weightsAll, List.mem_append]
    rcases List.mem_cons.1 hd with h | h
    · exact .inl (h ▸ hn)
    · exact .inr (weights_mem_all h n hn)
  | [], _, hd, _, _ => absurd hd (by simp)
theorem act_weight (T : ActType P e q f0 f1 f2) (hb : P.bytesOf q = 8) {n0 n1 : Int} {a : Addr} {L : Nat} {zs : List Int} (hL : L ≤ zs.length) : zs.length * 8 ∈ (actD (H := H) n0 n1 (some a) L zs).weights P e := by
  unfold actD Go.Deep.intRow
  simp only [DataW.weights, T.ty, List.map_cons, List.map_nil, DataW.weightsEach, T.sl, hb, List.nil_append, List.append_nil, List.mem_cons, Go.ChangeShapes.lits, List.length_map, List.length_take, List.length_drop]
  left
  rw [Nat.min_eq_left hL]
  congr 1
  omega
/-- An argument. -/
theorem open_acts (ht : P.underlying t = some (.slice e)) (T : ActType P e q f0 f1 f2) (hb : P.bytesOf q = 8) {fuel : Nat} {cs : List Value} {x : DataW H × List MemPlace} (h : DataW.trod enc P w base (fun _ => true) held fuel t cs = some x)
    (hsz : ∀ d, x.1 = d → ∀ n ∈ d.weights P t, n ≤ reachBytes) :
    cs = [.slice none 0 0] ∨ ∃ (a : Addr) (len cap : Nat) (zs : List Act13), cs = [.slice (some a) len cap] ∧ zs.length = len ∧ Acts w (some a) zs := by
  rcases Go.Deep.open_slice ht h with ⟨h0, _⟩ | ⟨a, len, cap, m, n, D, Pl, rfl, _, hl, _, hmm, rfl, hx⟩
  · exact .inl h0
  right
  simp only [if_true] at hmm
  rw [T.cells] at hx
  have each : ∀ r, r < len → ∃ z : Act13, D r = actD z.what z.thing z.A z.l.length (z.l ++ []) ∨ True := fun r _ => ⟨⟨0, 0, none, 0, []⟩, .inr trivial⟩
  clear each
  have each : ∀ r, r < len → ∃ y : Int × Int × Option Addr × Nat × Nat × List Int, D r = actD y.1 y.2.1 y.2.2.1 y.2.2.2.1 y.2.2.2.2.2 ∧ w.cell? (a.add (r * 3)) = some (.int .i64 y.1) ∧ w.cell? (a.add (r * 3 + 1)) = some (.int .i64 y.2.1) ∧ w.cell? (a.add (r * 3 + 2)) = some (.slice y.2.2.1 y.2.2.2.1 y.2.2.2.2.1) ∧
      (Lit.int .i64 y.2.1).wf = true ∧ y.2.2.2.1 ≤ y.2.2.2.2.1 ∧ y.2.2.2.2.2.length = y.2.2.2.2.1 ∧ (∀ n ∈ y.2.2.2.2.2, (Lit.int .i64 n).wf = true) ∧ (y.2.2.1 = none → y.2.2.2.2.1 = 0) ∧ ∀ a', y.2.2.1 = some a' → ∀ c, c < y.2.2.2.2.1 → w.cell? (a'.add c) = some (.int .i64 (y.2.2.2.2.2.getD c 0)) := by
    intro r hr
    obtain ⟨cs', hc, htr⟩ := hx r (by omega)
    obtain ⟨n0, n1, A, L, C, zs, hcs, hD, _, w1, q1, q2, q3, q4, q5⟩ := open_act T htr
    obtain ⟨_, _, hcell⟩ := World.cells?_some hc
    subst hcs
    have k0 := hcell 0 (by decide)
    have k1 := hcell 1 (by decide)
    have k2 := hcell 2 (by decide)
    rw [Go.Deep.add_add] at k0 k1 k2
    exact ⟨(n0, n1, A, L, C, zs), hD, k0, k1, k2, w1, q1, q2, q3, q4, q5⟩
  obtain ⟨y, hy⟩ := Go.Deep.choose_lt each
  refine ⟨a, len, cap, (List.range len).map fun r => ⟨(y r).1, (y r).2.1, (y r).2.2.1, (y r).2.2.2.2.1, (y r).2.2.2.2.2.take (y r).2.2.2.1⟩, rfl, by simp, fun i hi => ?_⟩
  have hi' : i < len := by simpa using hi
  obtain ⟨hD, k0, k1, k2, w1, q1, q2, q3, q4, q5⟩ := hy i hi'
  obtain ⟨b, off, spot⟩ := a
  have hspot : spot = none := add_spot (by have h0 := (hy 0 (by omega)).2.1; rw [Nat.zero_mul] at h0; exact h0)
  subst hspot
  have hadd : ∀ (b off i : Nat), (⟨b, off, none⟩ : Addr).add i = ⟨b, off + i, none⟩ := fun b off i => by unfold Addr.add; split <;> simp_all
  rw [hadd] at k0 k1 k2
  have hl8 : ∀ a', (y i).2.2.1 = some a' → (y i).2.2.2.2.2.length * 8 ≤ reachBytes := fun a' ha => by
    refine hsz _ rfl _ ?_
    simp only [DataW.weights, ht, List.mem_cons, List.mem_append]
    refine .inr (.inl (weights_mem_all (d := D i) (List.mem_map.2 ⟨i, List.mem_range.2 hi', rfl⟩) _ ?_))
    rw [hD, ha]
    exact act_weight T hb (by omega)
  have htl : ((y i).2.2.2.2.2.take (y i).2.2.2.1).length = (y i).2.2.2.1 := by rw [List.length_take]; omega
  simp only [List.getElem_map, List.getElem_range]
  refine ⟨b, off, rfl, World.block_lt_of_cell? w _ k0, k0, k1, by rw [htl]; exact k2, ⟨fun j hj => ?_, fun z hz => ?_, by simp only []; rw [htl]; exact q1, ?_, ?_⟩⟩
  · simp only [] at hj
    rw [htl] at hj
    rcases hA : (y i).2.2.1 with _ | a'
    · have := q4 hA; omega
    · obtain ⟨b', off', spot'⟩ := a'
      have hc := q5 _ hA j (by omega)
      have hspot' : spot' = none := add_spot (q5 _ hA 0 (by omega))
      subst hspot'
      rw [hadd] at hc
      refine ⟨b', off', rfl, World.block_lt_of_cell? w _ hc, ?_⟩
      rw [hc]
      simp [List.getD_eq_getElem?_getD, hj]
  · have := bounds_i64 (q3 z (List.mem_of_mem_take hz))
    exact this
  · simp only []
    rw [htl]
    rcases hA : (y i).2.2.1 with _ | a'
    · have := q4 hA; omega
    · have := hl8 a' hA
      unfold reachBytes at this
      omega
  · exact bounds_i64 w1
end
theorem actType : ∃ f0 f1 f2, ActType Try.prog 32 3 f0 f1 f2 :=
  ⟨_, _, _, ⟨Try.underlying32, by kernel_rfl, ⟨rfl, rfl, rfl⟩, ⟨by kernel_rfl, by kernel_rfl, by kernel_rfl⟩, ⟨by kernel_rfl, by kernel_rfl⟩, by kernel_rfl, by kernel_rfl, by kernel_rfl⟩⟩

end Go.Proofs.Ytdfalnjdjkoofaa
