/-
  Arguments: a line by value, opened and shut again; a slice of slices of records that came in, opened whole.
-/
import Derived.Test.YtbfchclfonicmaaLineCuts
import Derived.Test.YtbfchclfonicmaaRecArg
import Derived.ProofKit
import Derived.OpenShut
import Derived.ShutString
import Derived.ChangeOld
import Derived.ChangeSame
import Derived.Deep.Slices
namespace Go.Proofs.Ytbfchclfonicmaa
open Go.ChangeShapes Go.WideShapes Go.ChangeAt Go.RowKit
open Go.ChangeMaps (open_string shut_string)

theorem array9 {α : Type} {cs : Array α} (h : cs.size = 9) : ∃ c0 c1 c2 c3 c4 c5 c6 c7 c8, cs = #[c0, c1, c2, c3, c4, c5, c6, c7, c8] := by
  obtain ⟨l⟩ := cs
  match l, h with
  | [c0, c1, c2, c3, c4, c5, c6, c7, c8], _ => exact ⟨c0, c1, c2, c3, c4, c5, c6, c7, c8, rfl⟩

section
variable {H : Type} {enc : TypeId × Value → H} {P : Program} {w : World} {base : Nat} {spare : Nat → Bool} {held : Bool}
variable {t : TypeId} {f0 f1 f2 f3 f4 f5 : Field}
/-- What is known of the type of lines: two integers, a flag, a record. -/
structure LineType (P : Program) (t e : TypeId) (g0 g1 g2 g3 : Field) : Prop where
  ty : P.underlying t = some (.struct #[g0, g1, g2, g3])
  cells : P.cellsOf t = 9
  off : g0.offset = 0 ∧ g1.offset = 1 ∧ g2.offset = 2 ∧ g3.offset = 3
  one : P.cellsOf g0.type = 1 ∧ P.cellsOf g1.type = 1 ∧ P.cellsOf g2.type = 1
  int : P.underlying g0.type = some (.int .i64) ∧ P.underlying g1.type = some (.int .i64)
  bl : P.underlying g2.type = some .bool
  rc : g3.type = e ∧ P.cellsOf e = 6
variable {e : TypeId} {g0 g1 g2 g3 : Field}
def lnD (l : Ln) : DataW H := .agg [.lit (.int .i64 l.g), .lit (.int .i64 l.s), .lit (.bool l.last), rcD l.r]
structure Ln.wf (l : Ln) : Prop where
  g : (Lit.int .i64 l.g).wf = true
  s : (Lit.int .i64 l.s).wf = true
  r : l.r.wf
theorem Ln.wf.ok {l : Ln} (h : l.wf) : l.ok := ⟨i64n_wf h.g, i64n_wf h.s, h.r.ok⟩
theorem open_line {r : Reach} {b0 : Nat} {v : Value} {d : DataW H} {ps : List MemPlace} (L : LineType P t e g0 g1 g2 g3) (T : RecType P e f0 f1 f2 f3 f4 f5) (hv : Value.okWide P w r b0 t v) (h : DataW.Trod enc P w base spare held t v d ps) :
    ∃ l : Ln, v = .agg (lnV l) ∧ d = lnD l ∧ ps = [] ∧ l.wf := by
  obtain ⟨cs, rfl, hsz⟩ := okWide_struct L.ty hv
  rw [L.cells] at hsz
  obtain ⟨c0, c1, c2, c3, c4, c5, c6, c7, c8, rfl⟩ := array9 hsz
  obtain ⟨fuel, hf⟩ := h
  obtain ⟨xs, n, _, hx, _, hlen, hp⟩ := DataW.trod_struct L.ty hf
  obtain ⟨o0, o1, o2, o3⟩ := L.off
  obtain ⟨e0, e1, e2⟩ := L.one
  obtain ⟨i0, i1⟩ := L.int
  have k0 := hp 0 g0 rfl
  have k1 := hp 1 g1 rfl
  have k2 := hp 2 g2 rfl
  have k3 := hp 3 g3 rfl
  rw [o0, e0] at k0
  rw [o1, e1] at k1
  rw [o2, e2] at k2
  rw [o3, L.rc.1, L.rc.2] at k3
  simp only [List.size_toArray, List.length_cons, List.length_nil] at hlen
  match xs, hlen with
  | [y0, y1, y2, y3], _ =>
    simp only [Value.cells, List.drop_zero, List.drop_succ_cons, List.take_succ_cons, List.take_zero, List.getElem?_cons_zero, List.getElem?_cons_succ] at k0 k1 k2 k3
    obtain ⟨n0, q0, z0, w0⟩ := DataW.trod_int i0 k0
    obtain ⟨n1, q1, z1, w1⟩ := DataW.trod_int i1 k1
    obtain ⟨bb, q2, z2⟩ := DataW.trod_bool L.bl k2
    obtain ⟨rr, q3, z3, w3⟩ := open_rec T k3
    obtain ⟨rk, ra, rb, rc, rd, rs⟩ := rr
    simp only [rcV, List.cons.injEq, and_true] at q0 q1 q2 q3
    obtain ⟨r0, r1, r2, r3, r4, r5⟩ := q3
    subst q0 q1 q2 r0 r1 r2 r3 r4 r5 z0 z1 z2 z3
    simp only [List.map_cons, List.map_nil, List.flatMap_cons, List.flatMap_nil, List.append_nil, Prod.mk.injEq] at hx
    exact ⟨⟨n0, n1, bb, ⟨rk, ra, rb, rc, rd, rs⟩⟩, rfl, hx.1, hx.2, ⟨w0, w1, w3⟩⟩
theorem shut_line {l : Ln} (L : LineType P t e g0 g1 g2 g3) (T : RecType P e f0 f1 f2 f3 f4 f5) (h : l.wf) : DataW.Trod enc P w base spare held t (.agg (lnV l)) (lnD l) [] := by
  obtain ⟨o0, o1, o2, o3⟩ := L.off
  obtain ⟨e0, e1, e2⟩ := L.one
  obtain ⟨i0, i1⟩ := L.int
  obtain ⟨w0, w1, w3⟩ := h
  have hr := shut_rec (enc := enc) (w := w) (base := base) (spare := spare) (held := held) T w3
  obtain ⟨n0, n1, bb, ⟨rk, ra, rb, rc, rd, rs⟩⟩ := l
  simp only at w0 w1 hr
  have hbl : DataW.trod enc P w base spare held 2 g2.type [.bool bb] = some (.lit (.bool bb), []) := by simp [DataW.trod, L.bl]
  refine ⟨3, ?_⟩
  have := trod_struct_mk (enc := enc) (w := w) (base := base) (spare := spare) (held := held) (n := 2) (cs := [.int .i64 n0, .int .i64 n1, .bool bb, .int .i64 rk, .int .i64 ra, .int .i64 rb, .int .i64 rc, .int .i64 rd, .string rs]) (xs := [(.lit (.int .i64 n0), []), (.lit (.int .i64 n1), []), (.lit (.bool bb), []), (rcD ⟨rk, ra, rb, rc, rd, rs⟩, [])]) L.ty (by rw [L.cells]; rfl)
    (by
      have hr' : DataW.trod enc P w base spare held 2 e [.int .i64 rk, .int .i64 ra, .int .i64 rb, .int .i64 rc, .int .i64 rd, .string rs] = some (rcD ⟨rk, ra, rb, rc, rd, rs⟩, []) := hr
      simp [o0, o1, o2, o3, e0, e1, e2, L.rc.1, L.rc.2, trod_int_mk 1 i0 w0, trod_int_mk 1 i1 w1, hbl, hr'])
  have h2 : DataW.trod enc P w base spare held 3 t [.int .i64 n0, .int .i64 n1, .bool bb, .int .i64 rk, .int .i64 ra, .int .i64 rb, .int .i64 rc, .int .i64 rd, .string rs] = some (lnD ⟨n0, n1, bb, ⟨rk, ra, rb, rc, rd, rs⟩⟩, []) := by simpa [lnD] using this
  exact h2
end

section
variable {H : Type} {enc : TypeId × Value → H} {P : Program} {w : World} {base : Nat} {held : Bool}
variable {t u e : TypeId} {f0 f1 f2 f3 f4 f5 : Field}
/-- An argument of transactions. -/
theorem open_trans (ht : P.underlying t = some (.slice u)) (hu : P.underlying u = some (.slice e)) (hc1 : P.cellsOf u = 1) (T : RecType P e f0 f1 f2 f3 f4 f5) (hb : P.bytesOf e = 56) (hb2 : P.bytesOf u = 24) {fuel : Nat} {cs : List Value} {x : DataW H × List MemPlace} (h : DataW.trod enc P w base (fun _ => true) held fuel t cs = some x)
    (hsz : ∀ d, x.1 = d → ∀ n ∈ d.weights P t, n ≤ reachBytes) :
    ∃ (A : Option Addr) (c : Nat) (ts : List (List Rc)), cs = [.slice A ts.length c] ∧ ts.length ≤ c ∧ TransAt w w.heap.size A ts ∧ (∀ t ∈ ts, ∀ r ∈ t, r.ok) ∧ ts.length * 24 ≤ 140737488351232 ∧ ∀ t ∈ ts, t.length * 56 ≤ 140737488351232 := by
  rcases Go.Deep.open_slice ht h with ⟨h0, _⟩ | ⟨a, len, cap, m, n, D, Pl, rfl, _, hl, _, hmm, rfl, hx⟩
  · exact ⟨none, 0, [], h0, Nat.le_refl _, TransAt.nil _ _ _, by simp, by simp, by simp⟩
  · simp only [if_true] at hmm
    rw [hc1] at hx
    have each : ∀ i, i < len → ∃ z : Option Addr × Nat × List Rc, w.cells? base (a.add (i * 1)) 1 = some [.slice z.1 z.2.2.length z.2.1] ∧ z.2.2.length ≤ z.2.1 ∧ RecsAt w w.heap.size z.1 z.2.2 ∧ (∀ r ∈ z.2.2, r.ok) ∧ z.2.2.length * 56 ≤ 140737488351232 := fun i hi => by
      obtain ⟨cs', hc, htr⟩ := hx i (by omega)
      obtain ⟨hl1, _, _⟩ := World.cells?_some hc
      match cs', hl1 with
      | [v], _ =>
        obtain ⟨A, c, rs, rfl, q1, q2, q3, q4⟩ := open_recs hu T hb htr
        refine ⟨(A, c, rs), hc, q1, q2, q3, q4 fun n hn => hsz _ rfl _ ?_⟩
        simp only [DataW.weights, ht, List.mem_cons, List.mem_append]
        exact .inr (.inl (weights_memL (d := D i) (List.mem_map.2 ⟨i, List.mem_range.2 hi, rfl⟩) _ hn))
    obtain ⟨y, hy⟩ := Go.Deep.choose_lt each
    refine ⟨some a, cap, (List.range len).map fun i => (y i).2.2, by simp, by simpa using hl, fun i hi => ?_, fun t ht2 r hr => ?_, ?_, fun t ht2 => ?_⟩
    · have hi' : i < len := by simpa using hi
      obtain ⟨hc, q1, q2, _⟩ := hy i hi'
      obtain ⟨_, _, hcell⟩ := World.cells?_some hc
      have k0 := hcell 0 (by decide)
      rw [Go.Deep.add_add] at k0
      obtain ⟨b, off, spot⟩ := a
      have hspot : spot = none := by
        obtain ⟨hc9, _⟩ := hy 0 (by omega)
        have k9 := World.cell?_spot ((World.cells?_some hc9).2.2 0 (by decide))
        simpa [Addr.add] using k9
      subst hspot
      rw [addL] at k0
      simp only [List.getElem_map, List.getElem_range]
      rw [Nat.mul_one, Nat.add_zero] at k0
      exact ⟨b, off, (y i).1, (y i).2.1, rfl, World.block_lt_of_cell? w _ k0, k0, q1, q2⟩
    · obtain ⟨i, hi, rfl⟩ := List.mem_map.1 ht2
      exact (hy i (List.mem_range.1 hi)).2.2.2.1 r hr
    · have := hsz _ rfl (cap * 24) (by
        simp only [DataW.weights, ht, hb2, List.mem_cons, List.length_map, List.length_range]
        left
        rw [hmm]; congr 1; omega)
      simp only [List.length_map, List.length_range]
      unfold reachBytes at this
      omega
    · obtain ⟨i, hi, rfl⟩ := List.mem_map.1 ht2
      exact (hy i (List.mem_range.1 hi)).2.2.2.2
end
theorem lineType : ∃ g0 g1 g2 g3, LineType Try.prog 25 23 g0 g1 g2 g3 :=
  ⟨_, _, _, _, ⟨Try.underlying25, by kernel_rfl, ⟨rfl, rfl, rfl, rfl⟩, ⟨by kernel_rfl, by kernel_rfl, by kernel_rfl⟩, ⟨by kernel_rfl, by kernel_rfl⟩, by kernel_rfl, ⟨rfl, by kernel_rfl⟩⟩⟩

end Go.Proofs.Ytbfchclfonicmaa
