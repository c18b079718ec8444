/-
  Plain: things by a number, sorted by putting in (equal ones in their order); a store of a whole thing into a row of one's own.
-/
import Derived.Test.YtnenpafofplbhaaGreatTableDr
import Derived.Deep.RegionLaw
namespace Go.Proofs.YtnenpafofplbhaaGreat
open Go.RowKit

section
variable {α : Type} (k : α → Int)
def AscK (l : List α) : Prop := l.Pairwise fun a b => k a ≤ k b
def insF (l : List α) : List α := l.foldl (fun acc x => insK k x acc) []
theorem insF_snoc (l : List α) (x : α) : insF k (l ++ [x]) = insK k x (insF k l) := by unfold insF; rw [List.foldl_append]; rfl
theorem insK_length (x : α) : ∀ l : List α, (insK k x l).length = l.length + 1
  | [] => rfl
  | z :: l => by
    unfold insK
    split
    · rfl
    · rw [List.length_cons, insK_length x l, List.length_cons]
theorem insF_len (l : List α) : (insF k l).length = l.length := by
  have : ∀ (r : List α), (insF k r.reverse).length = r.length := fun r => by
    induction r with
    | nil => rfl
    | cons x r ih => rw [List.reverse_cons, insF_snoc, insK_length, ih, List.length_cons]
  have h := this l.reverse
  rwa [List.reverse_reverse, List.length_reverse] at h
theorem insK_asc {x : α} : ∀ {l : List α}, AscK k l → AscK k (insK k x l)
  | [], _ => List.pairwise_singleton _ _
  | z :: l, h => by
    obtain ⟨h1, h2⟩ := List.pairwise_cons.1 h
    unfold insK
    split
    · rename_i hlt
      refine List.pairwise_cons.2 ⟨fun y hy => ?_, h⟩
      rcases List.mem_cons.1 hy with rfl | hy
      · omega
      · have := h1 y hy; omega
    · rename_i hlt
      refine List.pairwise_cons.2 ⟨fun y hy => ?_, insK_asc h2⟩
      rcases (insK_mem k).1 hy with rfl | hy
      · omega
      · exact h1 y hy
theorem insF_asc (l : List α) : AscK k (insF k l) := by
  have : ∀ r : List α, AscK k (insF k r.reverse) := fun r => by
    induction r with
    | nil => exact List.Pairwise.nil
    | cons x r ih => rw [List.reverse_cons, insF_snoc]; exact insK_asc k ih
  have h := this l.reverse
  rwa [List.reverse_reverse] at h
theorem insF_mem {l : List α} {y : α} : y ∈ insF k l ↔ y ∈ l := by
  have : ∀ r : List α, (y ∈ insF k r.reverse ↔ y ∈ r.reverse) := fun r => by
    induction r with
    | nil => exact Iff.rfl
    | cons x r ih => rw [List.reverse_cons, insF_snoc, insK_mem, ih]; simp [or_comm]
  have h := this l.reverse
  rwa [List.reverse_reverse] at h
/-- Put in behind all that are not greater. -/
theorem insK_mid {x : α} : ∀ {M1 M2 : List α}, AscK k (M1 ++ M2) → (∀ y ∈ M2, k x < k y) → (∀ y ∈ M1, k y ≤ k x) → M1 ++ x :: M2 = insK k x (M1 ++ M2)
  | [], [], _, _, _ => rfl
  | [], y :: M2, _, h2, _ => by
    show x :: y :: M2 = insK k x (y :: M2)
    unfold insK
    rw [if_pos (h2 y (by simp))]
  | z :: M1, M2, h, h2, h1 => by
    have hz := h1 z (by simp)
    show z :: (M1 ++ x :: M2) = insK k x (z :: (M1 ++ M2))
    unfold insK
    rw [if_neg (by omega), insK_mid (List.pairwise_cons.1 h).2 h2 fun y hy => h1 y (by simp [hy])]
/-- What is sorted stays. -/
theorem insF_sorted {l : List α} (h : l.Pairwise fun a b => k a < k b) : insF k l = l := by
  have : ∀ r : List α, (r.reverse.Pairwise fun a b => k a < k b) → insF k r.reverse = r.reverse := fun r => by
    induction r with
    | nil => intro _; rfl
    | cons x r ih =>
      intro hp
      rw [List.reverse_cons] at hp ⊢
      obtain ⟨a, b, c⟩ := List.pairwise_append.1 hp
      rw [insF_snoc, ih a, insK_last k fun y hy => c y hy x (by simp)]
  have h2 := this l.reverse
  rw [List.reverse_reverse] at h2
  exact h2 h
end
theorem set_two {α : Type} (A B : List α) (y x y' : α) {p j : Nat} (hp : p = A.length) (hj : j = p + 1) (hx : (A ++ y :: x :: B)[p]? = some y') : ((A ++ y :: x :: B).set j y').set p x = A ++ x :: y :: B := by
  subst hp hj
  have : y' = y := by
    rw [List.getElem?_append_right (Nat.le_refl _), Nat.sub_self] at hx
    injection hx with hx; exact hx.symm
  subst this
  rw [List.set_append_right (h := by omega), show A.length + 1 - A.length = 1 by omega, List.set_append_right (h := by omega), Nat.sub_self]
  rfl

/-- A whole thing is stored into a row of one's own, as a step of a region that draws. -/
theorem step_put {P : Program} {ops : Array Oper} {o : Oper} {a : Act} {w : World} {K : Act → World → Prop} {Q : Exit → Act → World → Prop} {E' : Prop} (hgd : o.guard = none) (ty : TypeId) (x y : Operand) (ho : o.op = .store ty x y)
    {α : Type} {E : α → List Value} {e base t n g c k : Nat} {A : Option Addr} {l : List α} (hE : ∀ x, (E x).length = e) (h1 : ∀ x, ∀ u ∈ E x, u.oneCell' = true) (h : w.ownsRow base t e (.slice A n c) n (flat E l)) (hA : A = some ⟨g, 0, none⟩) (hn : n = l.length) (hk : k < l.length)
    (off : Nat) (hoff : off = k * e) (z : α) (hx : a.eval x = .pointer (some ⟨g, off, none⟩)) (cs : Array Value) (hcs : cs = (E z).toArray) (hy : a.eval y = .agg cs) (hi : (P.info? ty).map (·.size) = some e)
    (hK : ∀ W : World, W.ownsRow base t e (.slice A n c) n (flat E (l.set k z)) → w.grownBy W (some g) → K (a.put o.dst undef) W) :
    if Region.wanted o (yielded ops a.tmps) = true then Oper.wp P o a w K Q else E' := by
  have hw : Region.wanted o (yielded ops a.tmps) = true := by simp [Region.wanted, hgd]
  rw [if_pos hw]
  subst hoff hcs
  have hs : ((E z).toArray).size = e := by rw [List.size_toArray, hE]
  have hth : w.there g (k * e) ((E z).toArray).size := fun j hj => by
    rw [hs] at hj
    obtain ⟨g2, hA2, _, _, _, hc, hf⟩ := own_at hE h hn hk
    have : g2 = g := by rw [hA] at hA2; injection hA2 with q; injection q with q; exact q.symm
    subst this
    refine ⟨?_, hf _⟩
    rw [hc j _ (List.getElem?_eq_getElem (by rw [hE]; exact hj))]; rfl
  refine wp_store_mid ty x y ho g (k * e) _ hx hy hth (by rw [hs]; exact hi) (all_oneCell_toArray (h1 z)) (hK _ ?_ ?_)
  · exact own_put hE h hA hn hk z
  · exact setCells_grown w g (k * e) (E z)

end Go.Proofs.YtnenpafofplbhaaGreat
