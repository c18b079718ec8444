/-
  Transactions that a call makes by append: the row of those that are whole, and the row of the records that come next.
-/
import Derived.Test.YtbfchclfonicmaaLineAsk
import Derived.Test.YtbfchclfonicmaaSide
import Derived.Deep.OwnRows
namespace Go.Proofs.Ytbfchclfonicmaa
open Go.RowKit

def rcCells (rs : List Rc) : List Value := rs.flatMap fun r => (rcV r).toList
theorem rcCells_len : ∀ rs : List Rc, (rcCells rs).length = rs.length * 6
  | [] => rfl
  | r :: rs => by
    have ih := rcCells_len rs
    unfold rcCells at ih ⊢
    rw [List.flatMap_cons, List.length_append, ih, List.length_cons]
    show 6 + _ = _
    omega
theorem rcCells_snoc (rs : List Rc) (r : Rc) : rcCells (rs ++ [r]) = rcCells rs ++ (rcV r).toList := by simp [rcCells]
theorem rcCells_at : ∀ (rs : List Rc) (k : Nat) (h : k < rs.length) (j : Nat), j < 6 → (rcCells rs)[6 * k + j]? = (rcV rs[k]).toList[j]?
  | r :: rs, 0, _, j, hj => by
    unfold rcCells
    rw [List.flatMap_cons, List.getElem?_append_left (by show _ < 6; omega)]
    simp
  | r :: rs, k + 1, h, j, hj => by
    have ih := rcCells_at rs k (by simpa using h) j hj
    unfold rcCells at ih ⊢
    rw [List.flatMap_cons, List.getElem?_append_right (by show 6 ≤ _; omega)]
    show (List.flatMap _ rs)[6 * (k + 1) + j - 6]? = _
    rw [show 6 * (k + 1) + j - 6 = 6 * k + j by omega, ih]; rfl
/-- A row of records of one's own reads as records. -/
theorem recs_of_own {w : World} {base e n c : Nat} {A : Option Addr} {rs : List Rc} (h : w.ownsRow base e 6 (.slice A n c) n (rcCells rs)) (hn : n = rs.length) : RecsAt w w.heap.size A rs := fun k hk => by
  obtain ⟨g, cap, hv, _, hlt⟩ := h.form (by omega)
  injection hv with hA _ _
  subst hA
  have hc : ∀ j, j < 6 → w.cell? ⟨g, 0 + 6 * k + j, none⟩ = (rcV rs[k]).toList[j]? := fun j hj => by
    have e := rcCells_at rs k hk j hj
    have e6 : (rcV rs[k]).toList.length = 6 := rfl
    obtain ⟨v, hv⟩ : ∃ v, (rcV rs[k]).toList[j]? = some v := ⟨_, List.getElem?_eq_getElem (by rw [e6]; exact hj)⟩
    rw [hv] at e ⊢
    have hx := h.cells (g := g) rfl (6 * k + j) _ e
    have hadd : (⟨g, 0, none⟩ : Addr).add (6 * k + j) = ⟨g, 0 + 6 * k + j, none⟩ := by unfold Addr.add; split <;> simp_all
    rwa [hadd] at hx
  exact ⟨g, 0, rfl, hlt, hc 0 (by decide), hc 1 (by decide), hc 2 (by decide), hc 3 (by decide), hc 4 (by decide), hc 5 (by decide)⟩
/-- Records lie as they lay where their block does. -/
theorem RecsAt.keep {w w' : World} {B B' : Nat} {A : Option Addr} {rs : List Rc} (h : RecsAt w B A rs) (hB : B ≤ B') (hk : ∀ b o, A = some ⟨b, o, none⟩ → b < B → w'.heap[b]? = w.heap[b]?) : RecsAt w' B' A rs := fun k hk2 => by
  obtain ⟨b, off, e, hl, c0, c1, c2, c3, c4, c5⟩ := h k hk2
  have hb := hk b off e hl
  exact ⟨b, off, e, by omega, by rw [World.cell?_of_block hb]; exact c0, by rw [World.cell?_of_block hb]; exact c1, by rw [World.cell?_of_block hb]; exact c2, by rw [World.cell?_of_block hb]; exact c3, by rw [World.cell?_of_block hb]; exact c4, by rw [World.cell?_of_block hb]; exact c5⟩

/-- The whole transactions ts in a row of one's own, of which none lies in the blocks of that row or of the value vn. -/
structure TransO (t : TypeId) (base : Nat) (w : World) (vo vn : Value) (ts : List (List Rc)) : Prop where
  row : ∃ Vs : List Value, w.ownsRow base t 1 vo ts.length Vs ∧ ∀ i, (h : i < ts.length) → ∃ Ai ci, Vs[i]? = some (.slice Ai ts[i].length ci) ∧ ts[i].length ≤ ci ∧ RecsAt w w.heap.size Ai ts[i] ∧ ∀ b o, Ai = some ⟨b, o, none⟩ → b < w.heap.size ∧ some b ≠ vo.ownBlock ∧ some b ≠ vn.ownBlock
/-- Those, and the row of the records that come next. -/
structure RepS (t e : TypeId) (w wr : World) (vo vn : Value) (ts : List (List Rc)) (rs : List Rc) : Prop where
  below : Below w.heap.size w wr
  out : TransO t w.heap.size wr vo vn ts
  now : wr.ownsRow w.heap.size e 6 vn rs.length (rcCells rs)
  apart : Apart vo vn

section
variable {t e : TypeId} {w wr w' : World} {vo vn vo' vn' : Value} {ts : List (List Rc)} {rs : List Rc}
theorem TransO.trans {base n c : Nat} {A : Option Addr} (h : TransO t base wr (.slice A n c) vn ts) (hn : n = ts.length) : TransAt wr wr.heap.size A ts := fun i hi => by
  obtain ⟨Vs, ho, hr⟩ := h.row
  obtain ⟨Ai, ci, e1, e2, e3, _⟩ := hr i hi
  obtain ⟨g, cap, hv, _, hlt⟩ := ho.form (by omega)
  injection hv with hA _ _
  subst hA
  have hx := ho.cells (g := g) rfl i _ e1
  have hadd : (⟨g, 0, none⟩ : Addr).add i = ⟨g, 0 + i, none⟩ := by unfold Addr.add; split <;> simp_all
  rw [hadd] at hx
  exact ⟨g, 0, Ai, ci, rfl, hlt, hx, e2, e3⟩
theorem own_below {base size n : Nat} {v : Value} {xs : List Value} (h : wr.ownsRow base e size v n xs) (hb : Below wr.heap.size wr w') : w'.ownsRow base e size v n xs := by
  refine ⟨h.1, ?_⟩
  rcases h.2 with hn | ⟨g, cap, cur, hv, hbg, hg, rest⟩
  · exact .inl hn
  · exact .inr ⟨g, cap, cur, hv, hbg, (hb.block g (Array.getElem?_eq_some_iff.1 hg).1).trans hg, rest⟩
theorem RepS.later (h : RepS t e w wr vo vn ts rs) (hb : Below wr.heap.size wr w') : RepS t e w w' vo vn ts rs := by
  refine ⟨chain h.below hb, ⟨?_⟩, own_below h.now hb, h.apart⟩
  obtain ⟨Vs, ho, hr⟩ := h.out.row
  exact ⟨Vs, own_below ho hb, fun i hi => by
    obtain ⟨Ai, ci, e1, e2, e3, e4⟩ := hr i hi
    exact ⟨Ai, ci, e1, e2, e3.keep hb.size (fun b _ _ hl => hb.block b hl), fun b o ea => ⟨Nat.lt_of_lt_of_le (e4 b o ea).1 hb.size, (e4 b o ea).2⟩⟩⟩
theorem RepS.start (t e : TypeId) (w : World) (o1 o2 : Nat) (hne : o1 ≠ o2) (hb : Below w.heap.size w wr) (h1 : w.heap.size ≤ o1) (h2 : w.heap.size ≤ o2) (g1 : wr.heap[o1]? = some (.cells #[] t (0, 0))) (g2 : wr.heap[o2]? = some (.cells #[] e (0, 0))) :
    RepS t e w wr (.slice (some ⟨o1, 0, none⟩) 0 0) (.slice (some ⟨o2, 0, none⟩) 0 0) [] [] :=
  ⟨hb, ⟨⟨[], ⟨rfl, .inr ⟨o1, 0, #[], rfl, h1, g1, Nat.le_refl _, Nat.zero_le _, rfl, rfl⟩⟩, fun i hi => absurd hi (Nat.not_lt_zero i)⟩⟩, ⟨rfl, .inr ⟨o2, 0, #[], rfl, h2, g2, Nat.le_refl _, Nat.zero_le _, rfl, rfl⟩⟩,
    fun q hq hq2 => by
      injection hq with hq
      injection hq2 with hq2
      exact hne (by simpa using hq.trans hq2.symm)⟩
/-- A record more. -/
theorem RepS.push (h : RepS t e w wr vo vn ts rs) {r : Rc} (hown : w'.ownsRow w.heap.size e 6 vn' (rs.length + 1) (rcCells rs ++ (rcV r).toList)) (hg : wr.grownBy w' vn.ownBlock) (hv : vn'.ownBlock = vn.ownBlock ∨ vn'.ownBlock = some wr.heap.size) : RepS t e w w' vo vn' ts (rs ++ [r]) := by
  have hne : ∀ q, vn.ownBlock = some q → vo.ownBlock ≠ some q := fun q hq ho => h.apart q ho hq
  obtain ⟨Vs, ho, hr⟩ := h.out.row
  refine ⟨h.below.grown hg h.below.size fun q hq => (h.now.lt q hq).1, ⟨Vs, own_kept ho hg hne, fun i hi => ?_⟩, by rw [rcCells_snoc, List.length_append]; exact hown, ?_⟩
  · obtain ⟨Ai, ci, e1, e2, e3, e4⟩ := hr i hi
    refine ⟨Ai, ci, e1, e2, e3.keep hg.size (fun b o ea hl => hg.block b hl (e4 b o ea).2.2), fun b o ea => ⟨Nat.lt_of_lt_of_le (e4 b o ea).1 hg.size, (e4 b o ea).2.1, fun q => ?_⟩⟩
    rcases hv with hv | hv
    · exact (e4 b o ea).2.2 (q.trans hv)
    · have := (e4 b o ea).1
      rw [hv] at q; injection q with q
      omega
  · exact (h.apart.symm.grown (fun q hq => (ho.lt q hq).2) hv).symm
/-- The records are a transaction: the next ones begin in new memory. -/
theorem RepS.flush {A : Option Addr} {n c : Nat} (h : RepS t e w wr vo (.slice A n c) ts rs) (hn : n = rs.length) {Vs : List Value} (hVs : ∃ X, wr.ownsRow w.heap.size t 1 vo ts.length X ∧ Vs = X) (hr : ∀ i, (h : i < ts.length) → ∃ Ai ci, Vs[i]? = some (.slice Ai ts[i].length ci) ∧ ts[i].length ≤ ci ∧ RecsAt wr wr.heap.size Ai ts[i] ∧ ∀ b o, Ai = some ⟨b, o, none⟩ → b < wr.heap.size ∧ some b ≠ vo.ownBlock ∧ some b ≠ (Value.slice A n c).ownBlock)
    (hown : w'.ownsRow w.heap.size t 1 vo' (ts.length + 1) (Vs ++ [.slice A n c])) (hg : wr.grownBy w' vo.ownBlock) (hv : vo'.ownBlock = vo.ownBlock ∨ vo'.ownBlock = some wr.heap.size) :
    RepS t e w (w'.alloc (.cells #[] e)) vo' (.slice (some ⟨w'.heap.size, 0, none⟩) 0 0) (ts ++ [rs]) [] := by
  subst hn
  have hb' : Below w.heap.size w w' := h.below.grown hg h.below.size fun q hq => by
    obtain ⟨X, hX, _⟩ := hVs
    exact (hX.lt q hq).1
  have hlo : ∀ q, vo'.ownBlock = some q → q < w'.heap.size := fun q hq => (hown.lt q hq).2
  have key : ∀ b, b < wr.heap.size → some b ≠ vo.ownBlock → some b ≠ vo'.ownBlock := fun b hb hne q => by
    rcases hv with hv | hv
    · exact hne (q.trans hv)
    · rw [hv] at q; injection q with q; omega
  refine ⟨hb'.alloc hb'.size _, ⟨⟨Vs ++ [.slice A rs.length c], ?_, fun i hi => ?_⟩⟩, ?_, fun q hq hq2 => ?_⟩
  · rw [List.length_append]; exact hown.alloc _
  · have hl : Vs.length = ts.length := by obtain ⟨X, hX, rfl⟩ := hVs; have := hX.1; omega
    by_cases hi2 : i < ts.length
    · obtain ⟨Ai, ci, e1, e2, e3, e4⟩ := hr i hi2
      rw [List.getElem?_append_left (by omega), List.getElem_append_left hi2]
      refine ⟨Ai, ci, e1, e2, e3.keep (Nat.le_trans hg.size (by simp)) (fun b o ea hl => ?_), fun b o ea => ⟨?_, key b (e4 b o ea).1 (e4 b o ea).2.1, fun q => ?_⟩⟩
      · rw [Below.heap_alloc _ _ _ (Nat.lt_of_lt_of_le hl hg.size)]; exact hg.block b hl (e4 b o ea).2.1
      · have := (e4 b o ea).1; have := hg.size; simp; omega
      · have h1 : b = w'.heap.size := by injection q
        have := (e4 b o ea).1; have := hg.size; omega
    · have hi3 : i = ts.length := by rw [List.length_append] at hi; simp at hi; omega
      subst hi3
      rw [List.getElem?_append_right (by omega), List.getElem_append_right (Nat.le_refl _)]
      refine ⟨A, c, by simp [hl], ?_, ?_, fun b o ea => ?_⟩
      · simp only [Nat.sub_self, List.getElem_cons_zero]
        rcases h.now.2 with ⟨hv, h0⟩ | ⟨g, cap, cur, hv, _, _, hle, _⟩
        · omega
        · injection hv with _ _ h3; omega
      · simp only [Nat.sub_self, List.getElem_cons_zero]
        have hR := recs_of_own h.now rfl
        refine hR.keep (Nat.le_trans hg.size (by simp)) fun b o ea hl => ?_
        rw [Below.heap_alloc _ _ _ (Nat.lt_of_lt_of_le hl hg.size)]
        exact hg.block b hl fun q => h.apart b q.symm (by rw [ea]; rfl)
      · have hob : (Value.slice A rs.length c).ownBlock = some b := by rw [ea]; rfl
        have hlt := (h.now.lt b hob).2
        refine ⟨by have := hg.size; simp; omega, key b hlt (fun q => h.apart b q.symm hob), fun q => ?_⟩
        have h1 : b = w'.heap.size := by injection q
        have := hg.size; omega
  · exact ⟨rfl, .inr ⟨w'.heap.size, 0, #[], rfl, hb'.size, heap_alloc_new _ _, Nat.le_refl _, Nat.zero_le _, rfl, rfl⟩⟩
  · have h1 : w'.heap.size = q := by injection hq2
    have := hlo q hq
    omega

end
end Go.Proofs.Ytbfchclfonicmaa
