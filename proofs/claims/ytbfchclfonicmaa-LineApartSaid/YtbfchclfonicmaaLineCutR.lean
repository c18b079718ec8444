/-
  Three rows that grow side by side: sectors, transactions, ends.
-/
import Derived.Test.YtbfchclfonicmaaLineRow
namespace Go.Proofs.Ytbfchclfonicmaa
open Go.RowKit

def secV (p : Sec) : Value := .slice p.A p.b.length p.c
/-- A sector that lies in new memory, in none of three rows' blocks. -/
def SecOff (base : Nat) (w : World) (vs vw ve : Value) (p : Sec) : Prop := p.ok w w.heap.size ∧ ∃ g o, p.A = some ⟨g, o, none⟩ ∧ base ≤ g ∧ g < w.heap.size ∧ some g ≠ vs.ownBlock ∧ some g ≠ vw.ownBlock ∧ some g ≠ ve.ownBlock
structure CutS (ts tw te : TypeId) (w wr : World) (vs vw ve : Value) (ps : List Sec) (Vw : List Value) (es : List Int) : Prop where
  below : Below w.heap.size w wr
  rs : wr.ownsRow w.heap.size ts 1 vs ps.length (ps.map secV)
  rw : wr.ownsRow w.heap.size tw 1 vw Vw.length Vw
  re : wr.ownsRow w.heap.size te 1 ve es.length (es.map (Value.int .i64))
  a1 : Apart vs vw
  a2 : Apart vs ve
  a3 : Apart vw ve
  secs : ∀ p ∈ ps, SecOff w.heap.size wr vs vw ve p

section
variable {ts tw te : TypeId} {w wr w' : World} {vs vw ve v' : Value} {ps : List Sec} {Vw : List Value} {es : List Int}
theorem Ints.keepB {B B' : Nat} {k : IntKind} {A : Option Addr} {zs : List Int} {a b : World} (h : Ints a B k A zs) (hB : B ≤ B') (hk : ∀ g o, A = some ⟨g, o, none⟩ → g < B → b.heap[g]? = a.heap[g]?) : Ints b B' k A zs := fun i hi => by
  obtain ⟨g, o, e, hb, hc⟩ := h i hi
  exact ⟨g, o, e, by omega, by rw [World.cell?_of_block (hk g o e hb)]; exact hc⟩
theorem SecOff.later {base : Nat} {p : Sec} (h : SecOff base wr vs vw ve p) (hb : Below wr.heap.size wr w') : SecOff base w' vs vw ve p := by
  obtain ⟨h1, g, o, e, h2, h3, h4⟩ := h
  exact ⟨(h1.below hb).more hb.size, g, o, e, h2, Nat.lt_of_lt_of_le h3 hb.size, h4⟩
theorem CutS.later (h : CutS ts tw te w wr vs vw ve ps Vw es) (hb : Below wr.heap.size wr w') : CutS ts tw te w w' vs vw ve ps Vw es :=
  ⟨chain h.below hb, own_below h.rs hb, own_below h.rw hb, own_below h.re hb, h.a1, h.a2, h.a3, fun p hp => (h.secs p hp).later hb⟩
/-- A world in which one row has grown keeps the sectors. -/
theorem SecOff.grown {base : Nat} {p : Sec} {row : Option Nat} {vs2 vw2 ve2 : Value} (h : SecOff base wr vs vw ve p) (hg : wr.grownBy w' row) (hr : row = vs.ownBlock ∨ row = vw.ownBlock ∨ row = ve.ownBlock)
    (h1 : vs2.ownBlock = vs.ownBlock ∨ vs2.ownBlock = some wr.heap.size) (h2 : vw2.ownBlock = vw.ownBlock ∨ vw2.ownBlock = some wr.heap.size) (h3 : ve2.ownBlock = ve.ownBlock ∨ ve2.ownBlock = some wr.heap.size) : SecOff base w' vs2 vw2 ve2 p := by
  obtain ⟨hok, g, o, e, hb, hlt, n1, n2, n3⟩ := h
  have hne : some g ≠ row := by rcases hr with hr | hr | hr <;> rw [hr] <;> assumption
  have key : ∀ {v v2 : Value}, some g ≠ v.ownBlock → (v2.ownBlock = v.ownBlock ∨ v2.ownBlock = some wr.heap.size) → some g ≠ v2.ownBlock := fun hn hq q => by
    rcases hq with hq | hq
    · exact hn (q.trans hq)
    · rw [hq] at q; injection q with q; omega
  refine ⟨⟨hok.ints.keepB hg.size fun g' o' e' hl => ?_, hok.byte, hok.le, hok.len⟩, g, o, e, hb, Nat.lt_of_lt_of_le hlt hg.size, key n1 h1, key n2 h2, key n3 h3⟩
  rw [e] at e'
  injection e' with e'
  injection e' with e5 _
  subst e5
  exact hg.block g hl hne
/-- A sector more. -/
theorem CutS.pushS (h : CutS ts tw te w wr vs vw ve ps Vw es) {p : Sec} (hp : SecOff w.heap.size wr vs vw ve p) (hown : w'.ownsRow w.heap.size ts 1 v' (ps.length + 1) (ps.map secV ++ [secV p])) (hg : wr.grownBy w' vs.ownBlock) (hv : v'.ownBlock = vs.ownBlock ∨ v'.ownBlock = some wr.heap.size) :
    CutS ts tw te w w' v' vw ve (ps ++ [p]) Vw es := by
  refine ⟨h.below.grown hg h.below.size fun q hq => (h.rs.lt q hq).1, by rw [List.length_append, List.map_append]; exact hown, own_kept h.rw hg fun q hq e => h.a1 q hq e, own_kept h.re hg fun q hq e => h.a2 q hq e, ?_, ?_, h.a3, fun x hx => ?_⟩
  · exact h.a1.grown (fun q hq => (h.rw.lt q hq).2) hv
  · exact h.a2.grown (fun q hq => (h.re.lt q hq).2) hv
  · rcases List.mem_append.1 hx with hx | hx
    · exact (h.secs x hx).grown hg (.inl rfl) hv (.inl rfl) (.inl rfl)
    · have : x = p := by simpa using hx
      rw [this]
      exact hp.grown hg (.inl rfl) hv (.inl rfl) (.inl rfl)
/-- A transaction more. -/
theorem CutS.pushW (h : CutS ts tw te w wr vs vw ve ps Vw es) {u : Value} (hown : w'.ownsRow w.heap.size tw 1 v' (Vw.length + 1) (Vw ++ [u])) (hg : wr.grownBy w' vw.ownBlock) (hv : v'.ownBlock = vw.ownBlock ∨ v'.ownBlock = some wr.heap.size) :
    CutS ts tw te w w' vs v' ve ps (Vw ++ [u]) es := by
  refine ⟨h.below.grown hg h.below.size fun q hq => (h.rw.lt q hq).1, own_kept h.rs hg fun q hq e => h.a1 q e hq, by rw [List.length_append]; exact hown, own_kept h.re hg fun q hq e => h.a3 q hq e, ?_, h.a2, ?_, fun x hx => (h.secs x hx).grown hg (.inr (.inl rfl)) (.inl rfl) hv (.inl rfl)⟩
  · exact (h.a1.symm.grown (fun q hq => (h.rs.lt q hq).2) hv).symm
  · exact h.a3.grown (fun q hq => (h.re.lt q hq).2) hv
/-- An end more. -/
theorem CutS.pushE (h : CutS ts tw te w wr vs vw ve ps Vw es) {n : Int} (hown : w'.ownsRow w.heap.size te 1 v' (es.length + 1) (es.map (Value.int .i64) ++ [.int .i64 n])) (hg : wr.grownBy w' ve.ownBlock) (hv : v'.ownBlock = ve.ownBlock ∨ v'.ownBlock = some wr.heap.size) :
    CutS ts tw te w w' vs vw v' ps Vw (es ++ [n]) := by
  refine ⟨h.below.grown hg h.below.size fun q hq => (h.re.lt q hq).1, own_kept h.rs hg fun q hq e => h.a2 q e hq, own_kept h.rw hg fun q hq e => h.a3 q e hq, by rw [List.length_append, List.map_append]; exact hown, h.a1, ?_, ?_, fun x hx => (h.secs x hx).grown hg (.inr (.inr rfl)) (.inl rfl) (.inl rfl) hv⟩
  · exact (h.a2.symm.grown (fun q hq => (h.rs.lt q hq).2) hv).symm
  · exact (h.a3.symm.grown (fun q hq => (h.rw.lt q hq).2) hv).symm
/-- The sectors as they are asked. -/
theorem CutS.toSecs {A : Option Addr} {n c : Nat} (h : CutS ts tw te w wr (.slice A n c) vw ve ps Vw es) (hn : n = ps.length) : Secs wr wr.heap.size A ps := fun i hi => by
  subst hn
  obtain ⟨g, cap, hv, _, hlt⟩ := h.rs.form (by omega)
  injection hv with hA _ _
  subst hA
  have hx := h.rs.cells (g := g) rfl i (secV ps[i]) (by rw [List.getElem?_map, List.getElem?_eq_getElem hi]; rfl)
  have hadd : (⟨g, 0, none⟩ : Addr).add i = ⟨g, 0 + i, none⟩ := by unfold Addr.add; split <;> simp_all
  rw [hadd] at hx
  exact ⟨g, 0, rfl, hlt, hx, (h.secs _ (List.getElem_mem hi)).1⟩
theorem CutS.start (ts tw te : TypeId) (w : World) (o1 o2 o3 : Nat) (n12 : o1 ≠ o2) (n13 : o1 ≠ o3) (n23 : o2 ≠ o3) (hb : Below w.heap.size w wr) (h1 : w.heap.size ≤ o1) (h2 : w.heap.size ≤ o2) (h3 : w.heap.size ≤ o3)
    (g1 : wr.heap[o1]? = some (.cells #[] ts (0, 0))) (g2 : wr.heap[o2]? = some (.cells #[] tw (0, 0))) (g3 : wr.heap[o3]? = some (.cells #[] te (0, 0))) :
    CutS ts tw te w wr (.slice (some ⟨o1, 0, none⟩) 0 0) (.slice (some ⟨o2, 0, none⟩) 0 0) (.slice (some ⟨o3, 0, none⟩) 0 0) [] [] [] := by
  have ap : ∀ {a b : Nat}, a ≠ b → Apart (.slice (some ⟨a, 0, none⟩) 0 0) (.slice (some ⟨b, 0, none⟩) 0 0) := fun hne q hq hq2 => by
    injection hq with hq
    injection hq2 with hq2
    exact hne (by simpa using hq.trans hq2.symm)
  exact ⟨hb, ⟨rfl, .inr ⟨o1, 0, #[], rfl, h1, g1, Nat.le_refl _, Nat.zero_le _, rfl, rfl⟩⟩, ⟨rfl, .inr ⟨o2, 0, #[], rfl, h2, g2, Nat.le_refl _, Nat.zero_le _, rfl, rfl⟩⟩, ⟨rfl, .inr ⟨o3, 0, #[], rfl, h3, g3, Nat.le_refl _, Nat.zero_le _, rfl, rfl⟩⟩, ap n12, ap n13, ap n23, fun p hp => absurd hp (by simp)⟩
end

end Go.Proofs.Ytbfchclfonicmaa
