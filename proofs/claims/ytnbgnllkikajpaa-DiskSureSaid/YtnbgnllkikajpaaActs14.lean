/-
  A slice of calls that came in (two integers, a slice of bytes and a slice of flags each), opened whole.
-/
import Derived.Test.YtnbgnllkikajpaaDiskPlays
import Derived.Test.YtnbgnllkikajpaaBools
namespace Go.Proofs.Ytnbgnllkikajpaa
open Go.ChangeShapes Go.WideShapes Go.ChangeAt Go.RowKit

section
variable {H : Type} {enc : TypeId × Value → H} {P : Program} {w : World} {base : Nat} {held : Bool}
/-- What is known of the type: its four fields, one cell each. -/
structure ActType14 (P : Program) (t q r : TypeId) (f0 f1 f2 f3 : Field) : Prop where
  ty : P.underlying t = some (.struct #[f0, f1, f2, f3])
  cells : P.cellsOf t = 4
  off : f0.offset = 0 ∧ f1.offset = 1 ∧ f2.offset = 2 ∧ f3.offset = 3
  one : P.cellsOf f0.type = 1 ∧ P.cellsOf f1.type = 1 ∧ P.cellsOf f2.type = 1 ∧ P.cellsOf f3.type = 1
  int : P.underlying f0.type = some (.int .i64) ∧ P.underlying f1.type = some (.int .i64)
  sl : P.underlying f2.type = some (.slice q)
  qi : P.underlying q = some (.int .u8)
  qc : P.cellsOf q = 1
  qb : P.bytesOf q = 1
  bl : P.underlying f3.type = some (.slice r)
  ri : P.underlying r = some .bool
  rc : P.cellsOf r = 1
  rb : P.bytesOf r = 1
variable {t e q r : TypeId} {f0 f1 f2 f3 : Field}
/-- One of them, as it was read. -/
structure Read14 (w : World) (P : Program) (e : TypeId) (cs : List Value) (d : DataW H) (z : Act14) : Prop where
  cs4 : cs = [.int .i64 z.what, .int .i64 z.n, .slice z.A z.t.length z.c, .slice z.B z.l.length z.k]
  n64 : I64c z.n
  ints : Ints w w.heap.size .u8 z.A (up z.t)
  byte : ∀ y ∈ z.t, y < 256
  le : z.t.length ≤ z.c
  nil : z.A = none → z.c = 0
  len : (∀ n ∈ d.weights P e, n ≤ reachBytes) → z.t.length ≤ 140737488351232
  bools : Bools w w.heap.size z.B z.l
  ble : z.l.length ≤ z.k
  blen : (∀ n ∈ d.weights P e, n ≤ reachBytes) → z.l.length ≤ 140737488351232
theorem open_act14 (T : ActType14 P e q r f0 f1 f2 f3) {fuel : Nat} {cs : List Value} {x : DataW H × List MemPlace} (h : DataW.trod enc P w base (fun _ => true) held fuel e cs = some x) : ∃ z : Act14, Read14 w P e cs x.1 z := by
  obtain ⟨xs, n, _, hx, hcl, hlen, hp⟩ := DataW.trod_struct T.ty h
  rw [T.cells] at hcl
  match cs, hcl with
  | [v0, v1, v2, v3], _ =>
    obtain ⟨o0, o1, o2, o3⟩ := T.off
    obtain ⟨e0, e1, e2, e3⟩ := T.one
    obtain ⟨i0, i1⟩ := T.int
    have g0 := hp 0 f0 rfl
    have g1 := hp 1 f1 rfl
    have g2 := hp 2 f2 rfl
    have g3 := hp 3 f3 rfl
    rw [o0, e0] at g0
    rw [o1, e1] at g1
    rw [o2, e2] at g2
    rw [o3, e3] at g3
    simp only [List.size_toArray, List.length_cons, List.length_nil] at hlen
    match xs, hlen with
    | [y0, y1, y2, y3], _ =>
      simp only [List.drop_zero, List.drop_succ_cons, List.take_succ_cons, List.take_zero, List.getElem?_cons_zero, List.getElem?_cons_succ] at g0 g1 g2 g3
      obtain ⟨n0, q0, z0, w0⟩ := DataW.trod_int i0 g0
      obtain ⟨n1, q1, z1, w1⟩ := DataW.trod_int i1 g1
      simp only [List.cons.injEq, and_true] at q0 q1
      subst q0 q1 z0 z1
      have hb1 : I64c n1 := bounds_i64 w1
      -- the bytes
      have hT : ∃ (A : Option Addr) (c : Nat) (tt : List Nat), v2 = .slice A tt.length c ∧ Ints w w.heap.size .u8 A (up tt) ∧ (∀ y ∈ tt, y < 256) ∧ tt.length ≤ c ∧ (A = none → c = 0) ∧ ((∀ n ∈ (y2.1).weights P f2.type, n ≤ reachBytes) → tt.length ≤ 140737488351232) := by
        rcases open_ints T.sl T.qi T.qc g2 with ⟨hcs, hy⟩ | ⟨a', len', cap', zs, hcs, _, hl', _, hz, hy, hcell, hwz⟩
        · simp only [List.cons.injEq, and_true] at hcs
          exact ⟨none, 0, [], hcs, Ints.nil _ _ _ _, by simp, Nat.le_refl _, fun _ => rfl, fun _ => Nat.zero_le _⟩
        · simp only [List.cons.injEq, and_true] at hcs
          simp only [if_true] at hz
          obtain ⟨tl, hlen, hle, _, hI, hwf⟩ := ints_of_row (k := .u8) (w := w) (a := some a') (len := len') (cap := cap') (zs := zs) (.inr ⟨a', rfl, hl', by assumption, hz, fun i hi => hcell i hi, hwz⟩)
          have hz2 : ∀ z ∈ tl, 0 ≤ z ∧ z ≤ 255 := fun z hz => bounds_u8 (hwf z hz)
          refine ⟨some a', cap', tl.map Int.toNat, by rw [hcs, List.length_map, hlen], by rw [up_toNat hz2]; exact hI, fun y hy => ?_, by rw [List.length_map, hlen]; exact hl', (fun e => by cases e), fun hwt => ?_⟩
          · obtain ⟨z, h1, rfl⟩ := List.mem_map.1 hy
            have := hz2 z h1
            omega
          · have := hwt (zs.length * 1) (by
              rw [hy]
              simp only [DataW.weights, T.sl, T.qb, List.mem_cons, Go.ChangeShapes.lits, List.length_map, List.length_take, List.length_drop]
              left
              omega)
            rw [List.length_map, hlen]
            unfold reachBytes at this
            omega
      have hB : ∃ (A : Option Addr) (c : Nat) (ll : List Bool), v3 = .slice A ll.length c ∧ Bools w w.heap.size A ll ∧ ll.length ≤ c ∧ ((∀ n ∈ (y3.1).weights P f3.type, n ≤ reachBytes) → ll.length ≤ 140737488351232) := by
        rcases open_bools T.bl T.ri T.rc g3 with hcs | ⟨a', len', cap', zs, D, hcs, hl', _, hz, hy, hBB⟩
        · simp only [List.cons.injEq, and_true] at hcs
          exact ⟨none, 0, [], hcs, Bools.none _ _ _, Nat.le_refl _, fun _ => Nat.zero_le _⟩
        · simp only [List.cons.injEq, and_true] at hcs
          refine ⟨some a', cap', zs, by rw [hcs, hz], hBB, by omega, fun hwt => ?_⟩
          have := hwt (cap' * 1) (by
            rw [hy]
            simp only [DataW.weights, T.bl, T.rb, List.mem_cons, List.length_map, List.length_range]
            left
            omega)
          unfold reachBytes at this
          omega
      obtain ⟨A, c, tt, rfl, t1, t2, t3, t4, t5⟩ := hT
      obtain ⟨B, k, ll, rfl, b1, b2, b3⟩ := hB
      have hwe : ∀ n, (n ∈ (y2.1).weights P f2.type ∨ n ∈ (y3.1).weights P f3.type) → n ∈ (x.1).weights P e := fun n hn => by
        rw [hx]
        simp only [DataW.weights, T.ty, List.map_cons, List.map_nil, DataW.weightsEach, List.mem_append]
        rcases hn with h | h <;> simp [h]
      exact ⟨⟨n0, n1, A, c, tt, B, k, ll⟩, rfl, hb1, t1, t2, t3, t4, fun hr => t5 fun n hn => hr n (hwe n (.inl hn)), b1, b2, fun hr => b3 fun n hn => hr n (hwe n (.inr hn))⟩
theorem weights_mem14 {e : TypeId} : ∀ {ds : List (DataW H)} {d : DataW H}, d ∈ ds → ∀ n ∈ d.weights P e, n ∈ DataW.weightsAll P e ds
  | d0 :: ds, d, hd, n, hn => by
    simp only [DataW.weightsAll, List.mem_append]
    rcases List.mem_cons.1 hd with h | h
    · exact .inl (h ▸ hn)
    · exact .inr (weights_mem14 h n hn)
  | [], _, hd, _, _ => absurd hd (by simp)
instance : Inhabited Act14 := ⟨⟨0, 0, none, 0, [], none, 0, []⟩⟩
/-- An argument. -/
theorem open_acts14 (ht : P.underlying t = some (.slice e)) (T : ActType14 P e q r f0 f1 f2 f3) {fuel : Nat} {cs : List Value} {x : DataW H × List MemPlace} (h : DataW.trod enc P w base (fun _ => true) held fuel t cs = some x)
    (hsz : ∀ d, x.1 = d → ∀ n ∈ d.weights P t, n ≤ reachBytes) :
    cs = [.slice none 0 0] ∨ ∃ (a : Addr) (len cap : Nat) (zs : List Act14), cs = [.slice (some a) len cap] ∧ zs.length = len ∧ Acts14 w (some a) zs := by
  rcases Go.Deep.open_slice ht h with ⟨h0, _⟩ | ⟨a, len, cap, m, n, D, Pl, rfl, _, hl, _, hmm, rfl, hx⟩
  · exact .inl h0
  right
  simp only [if_true] at hmm
  rw [T.cells] at hx
  have each : ∀ i, i < len → ∃ z : Act14, ∃ cs', w.cells? base (a.add (i * 4)) 4 = some cs' ∧ Read14 w P e cs' (D i) z := fun i hi => by
    obtain ⟨cs', hc, htr⟩ := hx i (by omega)
    obtain ⟨z, hz⟩ := open_act14 T htr
    exact ⟨z, cs', hc, hz⟩
  obtain ⟨y, hy⟩ := Go.Deep.choose_lt each
  refine ⟨a, len, cap, (List.range len).map y, rfl, by simp, fun i hi => ?_⟩
  have hi' : i < len := by simpa using hi
  obtain ⟨cs', hc, hz⟩ := hy i hi'
  obtain ⟨_, _, hcell⟩ := World.cells?_some hc
  have hc4 := hz.cs4
  subst hc4
  have k0 := hcell 0 (by decide)
  have k1 := hcell 1 (by decide)
  have k2 := hcell 2 (by decide)
  have k3 := hcell 3 (by decide)
  rw [Go.Deep.add_add] at k0 k1 k2 k3
  obtain ⟨b, off, spot⟩ := a
  have hspot : spot = none := by
    obtain ⟨cs0, hc0, hz0⟩ := hy 0 (by omega)
    obtain ⟨_, _, hcell0⟩ := World.cells?_some hc0
    have h4 := hz0.cs4
    subst h4
    have k9 := World.cell?_spot (hcell0 0 (by decide))
    rw [Nat.zero_mul] at k9
    simpa [Addr.add] using k9
  subst hspot
  have hadd : ∀ (b off i : Nat), (⟨b, off, none⟩ : Addr).add i = ⟨b, off + i, none⟩ := fun b off i => by unfold Addr.add; split <;> simp_all
  rw [hadd] at k0 k1 k2 k3
  have hw : ∀ n ∈ (D i).weights P e, n ≤ reachBytes := fun n hn => by
    refine hsz _ rfl _ ?_
    simp only [DataW.weights, ht, List.mem_cons, List.mem_append]
    exact .inr (.inl (weights_mem14 (d := D i) (List.mem_map.2 ⟨i, List.mem_range.2 hi', rfl⟩) _ hn))
  simp only [List.getElem_map, List.getElem_range]
  exact ⟨b, off, rfl, World.block_lt_of_cell? w _ k0, k0, k1, k2, k3, ⟨hz.n64, hz.ints, hz.byte, hz.le, hz.nil, hz.len hw, hz.bools, hz.ble, hz.blen hw⟩⟩
end
theorem actType14 : ∃ f0 f1 f2 f3, ActType14 Try.prog 33 5 4 f0 f1 f2 f3 :=
  ⟨_, _, _, _, ⟨Try.underlying33, by kernel_rfl, ⟨rfl, rfl, rfl, rfl⟩, ⟨by kernel_rfl, by kernel_rfl, by kernel_rfl, by kernel_rfl⟩, ⟨by kernel_rfl, by kernel_rfl⟩, by kernel_rfl, by kernel_rfl, by kernel_rfl, by kernel_rfl, by kernel_rfl, by kernel_rfl, by kernel_rfl, by kernel_rfl⟩⟩

end Go.Proofs.Ytnbgnllkikajpaa
