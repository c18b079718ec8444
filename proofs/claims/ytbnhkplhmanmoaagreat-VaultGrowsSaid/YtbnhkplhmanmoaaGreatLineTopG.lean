/-
  All that is asked of the layer line, of the landed code. What is asked of the landed table. Arguments: a record by value, opened and shut again; a slice of records that came in. The vault's lower layers are as asked: for the ends of the vault's laws.
-/
import Derived.Test.YtbnhkplhmanmoaaGreatLineRowG
import Derived.Test.YtbnhkplhmanmoaaGreatTableC21G
import Derived.Test.YtbnhkplhmanmoaaGreatDiskNumsG
import Derived.Test.YtbnhkplhmanmoaaGreatChecked
import Derived.ProofKit
import Derived.OpenShut
import Derived.ShutString
import Derived.ChangeOld
import Derived.ChangeSame
import Derived.Deep.Slices
import Derived.Test.YtbnhkplhmanmoaaGreatVaultOwnG
import Derived.Test.YtbnhkplhmanmoaaGreatDiskCDG
namespace Go.Proofs.YtbnhkplhmanmoaaGreat
open Go.RowKit

theorem line_spec (w : World) : LineSpec w :=
  ⟨fun l W _ _ hE => encode_yes l W hE,
   fun l W _ _ hE => encode_no l W hE,
   fun A c b W _ h hz hc _ => decode_any A c b W h hz hc,
   fun A c ps g W _ h _ hm hg => replay_any A c ps g W h (by omega) hg⟩

end Go.Proofs.YtbnhkplhmanmoaaGreat

namespace Go.Proofs.YtbnhkplhmanmoaaGreat
open Go.RowKit

theorem table_spec (w0 : World) : TableSpec w0 where
  new := fun n w _ h1 h2 => new_yes n w h1 h2
  newNo := fun n w _ _ hr => new_no n w hr
  check := fun V t w _ h ho hs => by
    have := check_any V t w h ho true (by simp [hs])
    exact this
  checkNo := fun V t w _ h ho hs => by
    have := check_any V t w h ho false (by simp [hs])
    exact this
  owned := fun V t id w _ h ho _ => owned_any V t id w h ho.no
  apply := fun V t A c l w _ h ho hl _ _ hm => by
    by_cases hs : t.sound
    · rw [apply_one hs]
      exact apply_yes V t A c l w h hl hs hm
    · exact apply_no V t A c l w h ho hs
  image := fun V t w _ h _ hs => image_yes V t w h hs
  imageNo := fun V t w _ h ho hs => image_no V t w h ho hs

end Go.Proofs.YtbnhkplhmanmoaaGreat

namespace Go.Proofs.YtbnhkplhmanmoaaGreat
open Go.ChangeShapes Go.WideShapes Go.ChangeAt Go.RowKit
open Go.ChangeMaps (open_string shut_string)

theorem i64n_wf {n : Int} (h : (Lit.int .i64 n).wf = true) : I64n n := int_i64 h

section
variable {H : Type} {enc : TypeId × Value → H} {P : Program} {w : World} {base : Nat} {spare : Nat → Bool} {held : Bool}
/-- What is known of the type of records: six fields, one cell each. -/
structure RecType (P : Program) (t : TypeId) (f0 f1 f2 f3 f4 f5 : Field) : Prop where
  ty : P.underlying t = some (.struct #[f0, f1, f2, f3, f4, f5])
  cells : P.cellsOf t = 6
  off : f0.offset = 0 ∧ f1.offset = 1 ∧ f2.offset = 2 ∧ f3.offset = 3 ∧ f4.offset = 4 ∧ f5.offset = 5
  one : P.cellsOf f0.type = 1 ∧ P.cellsOf f1.type = 1 ∧ P.cellsOf f2.type = 1 ∧ P.cellsOf f3.type = 1 ∧ P.cellsOf f4.type = 1 ∧ P.cellsOf f5.type = 1
  int : P.underlying f0.type = some (.int .i64) ∧ P.underlying f1.type = some (.int .i64) ∧ P.underlying f2.type = some (.int .i64) ∧ P.underlying f3.type = some (.int .i64) ∧ P.underlying f4.type = some (.int .i64)
  str : P.underlying f5.type = some .string
variable {t : TypeId} {f0 f1 f2 f3 f4 f5 : Field}
/-- A record's datum. -/
def rcD (r : Rc) : DataW H := .agg [.lit (.int .i64 r.k), .lit (.int .i64 r.a), .lit (.int .i64 r.b), .lit (.int .i64 r.c), .lit (.int .i64 r.d), .lit (.string r.key.data.toList)]
structure Rc.wf (r : Rc) : Prop where
  k : (Lit.int .i64 r.k).wf = true
  a : (Lit.int .i64 r.a).wf = true
  b : (Lit.int .i64 r.b).wf = true
  c : (Lit.int .i64 r.c).wf = true
  d : (Lit.int .i64 r.d).wf = true
  key : r.key.size ≤ maxLen
theorem Rc.wf.ok {r : Rc} (h : r.wf) : r.ok := ⟨i64n_wf h.k, i64n_wf h.a, i64n_wf h.b, i64n_wf h.c, i64n_wf h.d, by have := h.key; unfold maxLen at this; omega⟩
theorem open_rec {fuel : Nat} {cs : List Value} {x : DataW H × List MemPlace} (T : RecType P t f0 f1 f2 f3 f4 f5) (hf : DataW.trod enc P w base spare held fuel t cs = some x) : ∃ r : Rc, cs = (rcV r).toList ∧ x = (rcD r, []) ∧ r.wf := by
  obtain ⟨xs, n, _, hx, hcl, hlen, hp⟩ := DataW.trod_struct T.ty hf
  rw [T.cells] at hcl
  match cs, hcl with
  | [v0, v1, v2, v3, v4, v5], _ =>
    obtain ⟨o0, o1, o2, o3, o4, o5⟩ := T.off
    obtain ⟨e0, e1, e2, e3, e4, e5⟩ := T.one
    obtain ⟨i0, i1, i2, i3, i4⟩ := T.int
    have g0 := hp 0 f0 rfl
    have g1 := hp 1 f1 rfl
    have g2 := hp 2 f2 rfl
    have g3 := hp 3 f3 rfl
    have g4 := hp 4 f4 rfl
    have g5 := hp 5 f5 rfl
    rw [o0, e0] at g0
    rw [o1, e1] at g1
    rw [o2, e2] at g2
    rw [o3, e3] at g3
    rw [o4, e4] at g4
    rw [o5, e5] at g5
    simp only [List.size_toArray, List.length_cons, List.length_nil] at hlen
    match xs, hlen with
    | [y0, y1, y2, y3, y4, y5], _ =>
      simp only [List.drop_zero, List.drop_succ_cons, List.take_succ_cons, List.take_zero, List.getElem?_cons_zero, List.getElem?_cons_succ] at g0 g1 g2 g3 g4 g5
      obtain ⟨n0, q0, z0, w0⟩ := DataW.trod_int i0 g0
      obtain ⟨n1, q1, z1, w1⟩ := DataW.trod_int i1 g1
      obtain ⟨n2, q2, z2, w2⟩ := DataW.trod_int i2 g2
      obtain ⟨n3, q3, z3, w3⟩ := DataW.trod_int i3 g3
      obtain ⟨n4, q4, z4, w4⟩ := DataW.trod_int i4 g4
      obtain ⟨s, q5, z5, w5⟩ := DataW.trod_string T.str g5
      simp only [List.cons.injEq, and_true] at q0 q1 q2 q3 q4 q5
      subst q0 q1 q2 q3 q4 q5 z0 z1 z2 z3 z4 z5
      simp only [List.map_cons, List.map_nil, List.flatMap_cons, List.flatMap_nil, List.append_nil] at hx
      exact ⟨⟨n0, n1, n2, n3, n4, s⟩, rfl, hx, ⟨w0, w1, w2, w3, w4, w5⟩⟩
theorem shut_rec {r : Rc} (T : RecType P t f0 f1 f2 f3 f4 f5) (h : r.wf) : DataW.trod enc P w base spare held 2 t (rcV r).toList = some (rcD r, []) := by
  obtain ⟨o0, o1, o2, o3, o4, o5⟩ := T.off
  obtain ⟨e0, e1, e2, e3, e4, e5⟩ := T.one
  obtain ⟨i0, i1, i2, i3, i4⟩ := T.int
  obtain ⟨w0, w1, w2, w3, w4, ws⟩ := h
  obtain ⟨n0, n1, n2, n3, n4, s⟩ := r
  simp only at w0 w1 w2 w3 w4 ws
  have hs : DataW.trod enc P w base spare held 1 f5.type [.string s] = some (.lit (.string s.data.toList), []) := by simp [DataW.trod, T.str, ws]
  have := trod_struct_mk (enc := enc) (w := w) (base := base) (spare := spare) (held := held) (n := 1) (cs := [.int .i64 n0, .int .i64 n1, .int .i64 n2, .int .i64 n3, .int .i64 n4, .string s]) (xs := [(.lit (.int .i64 n0), []), (.lit (.int .i64 n1), []), (.lit (.int .i64 n2), []), (.lit (.int .i64 n3), []), (.lit (.int .i64 n4), []), (.lit (.string s.data.toList), [])]) T.ty (by rw [T.cells]; rfl)
    (by simp [o0, o1, o2, o3, o4, o5, e0, e1, e2, e3, e4, e5, trod_int_mk 0 i0 w0, trod_int_mk 0 i1 w1, trod_int_mk 0 i2 w2, trod_int_mk 0 i3 w3, trod_int_mk 0 i4 w4, hs])
  have h2 : DataW.trod enc P w base spare held 2 t [.int .i64 n0, .int .i64 n1, .int .i64 n2, .int .i64 n3, .int .i64 n4, .string s] = some (.agg [.lit (.int .i64 n0), .lit (.int .i64 n1), .lit (.int .i64 n2), .lit (.int .i64 n3), .lit (.int .i64 n4), .lit (.string s.data.toList)], []) := by simpa using this
  exact h2
end

section
variable {H : Type} {enc : TypeId × Value → H} {P : Program} {w : World} {base : Nat} {held : Bool}
variable {t u e : TypeId} {f0 f1 f2 f3 f4 f5 : Field}
theorem weights_memL {e : TypeId} : ∀ {ds : List (DataW H)} {d : DataW H}, d ∈ ds → ∀ n ∈ d.weights P e, n ∈ DataW.weightsAll P e ds
  | d0 :: ds, d, hd, n, hn => by
    simp only [DataW.weightsAll, List.mem_append]
    rcases List.mem_cons.1 hd with h | h
    · exact .inl (h ▸ hn)
    · exact .inr (weights_memL h n hn)
  | [], _, hd, _, _ => absurd hd (by simp)
theorem addL (b off i : Nat) : (⟨b, off, none⟩ : Addr).add i = ⟨b, off + i, none⟩ := by unfold Addr.add; split <;> simp_all
instance : Inhabited Rc := ⟨⟨0, 0, 0, 0, 0, ⟨#[]⟩⟩⟩
/-- A transaction that came in. -/
theorem open_recs (hu : P.underlying u = some (.slice e)) (T : RecType P e f0 f1 f2 f3 f4 f5) (hb : P.bytesOf e = 56) {fuel : Nat} {v : Value} {x : DataW H × List MemPlace} (h : DataW.trod enc P w base (fun _ => true) held fuel u [v] = some x) :
    ∃ (A : Option Addr) (c : Nat) (rs : List Rc), v = .slice A rs.length c ∧ rs.length ≤ c ∧ RecsAt w w.heap.size A rs ∧ (∀ r ∈ rs, r.ok) ∧ ((∀ n ∈ (x.1).weights P u, n ≤ reachBytes) → rs.length * 56 ≤ 140737488351232) := by
  rcases Go.Deep.open_slice hu h with ⟨h0, _⟩ | ⟨a, len, cap, m, n, D, Pl, hcs, _, hl, _, hmm, rfl, hx⟩
  · simp only [List.cons.injEq, and_true] at h0
    exact ⟨none, 0, [], h0, Nat.le_refl _, RecsAt.nil _ _ _, by simp, fun _ => by simp⟩
  · simp only [List.cons.injEq, and_true] at hcs
    subst hcs
    simp only [if_true] at hmm
    rw [T.cells] at hx
    have each : ∀ i, i < len → ∃ r : Rc, r.ok ∧ w.cells? base (a.add (i * 6)) 6 = some (rcV r).toList := fun i hi => by
      obtain ⟨cs', hc, htr⟩ := hx i (by omega)
      obtain ⟨r, rfl, _, hw⟩ := open_rec T htr
      exact ⟨r, hw.ok, hc⟩
    obtain ⟨y, hy⟩ := Go.Deep.choose_lt each
    refine ⟨some a, cap, (List.range len).map y, by simp, by simpa using hl, fun k hk => ?_, fun r hr => ?_, fun hwt => ?_⟩
    · have hk' : k < len := by simpa using hk
      obtain ⟨_, hc⟩ := hy k hk'
      obtain ⟨_, _, hcell⟩ := World.cells?_some hc
      have k0 := hcell 0 (by decide)
      have k1 := hcell 1 (by decide)
      have k2 := hcell 2 (by decide)
      have k3 := hcell 3 (by decide)
      have k4 := hcell 4 (by decide)
      have k5 := hcell 5 (by decide)
      rw [Go.Deep.add_add] at k0 k1 k2 k3 k4 k5
      obtain ⟨b, off, spot⟩ := a
      have hspot : spot = none := by
        obtain ⟨_, hc9⟩ := hy 0 (by omega)
        have k9 := World.cell?_spot ((World.cells?_some hc9).2.2 0 (by decide))
        simpa [Addr.add] using k9
      subst hspot
      rw [addL] at k0 k1 k2 k3 k4 k5
      simp only [List.getElem_map, List.getElem_range]
      rw [Nat.mul_comm k 6] at k0 k1 k2 k3 k4 k5
      exact ⟨b, off, rfl, World.block_lt_of_cell? w _ k0, k0, k1, k2, k3, k4, k5⟩
    · obtain ⟨i, hi, rfl⟩ := List.mem_map.1 hr
      exact (hy i (List.mem_range.1 hi)).1
    · have := hwt (cap * 56) (by
        simp only [DataW.weights, hu, hb, List.mem_cons, List.length_map, List.length_range]
        left
        rw [hmm]; congr 1; omega)
      simp only [List.length_map, List.length_range]
      unfold reachBytes at this
      omega
end
theorem recType : ∃ f0 f1 f2 f3 f4 f5, RecType Tryz.prog 56 f0 f1 f2 f3 f4 f5 :=
  ⟨_, _, _, _, _, _, ⟨Tryz.underlying56, by kernel_rfl, ⟨rfl, rfl, rfl, rfl, rfl, rfl⟩, ⟨by kernel_rfl, by kernel_rfl, by kernel_rfl, by kernel_rfl, by kernel_rfl, by kernel_rfl⟩, ⟨by kernel_rfl, by kernel_rfl, by kernel_rfl, by kernel_rfl, by kernel_rfl⟩, by kernel_rfl⟩⟩

end Go.Proofs.YtbnhkplhmanmoaaGreat

namespace Go.Proofs.YtbnhkplhmanmoaaGreat
open Go.RowKit

theorem vault_lows : Lows DiskRep := ⟨fun w => disk_spec w, fun w => line_spec w, fun w => table_spec w⟩

end Go.Proofs.YtbnhkplhmanmoaaGreat
