/-
  Plain: what is taken, row by row. No program is spoken of here.
-/
import Derived.Test.YtnpdffcplgjbnaaSolvePlanN
namespace Go.Proofs.Ytnpdffcplgjbnaa
open Go.RowKit

theorem takesOf_len : ∀ (ls : List Int) (cs : List (List Int)) (K : Nat), ls.length = cs.length → (takesOf ls cs K).length = cs.length
  | [], [], _, _ => rfl
  | l :: ls, c :: cs, K, h => by
    show (takesOf ls cs K).length + 1 = _
    rw [takesOf_len ls cs K (by simpa using h)]; rfl
theorem takesOf_at : ∀ (ls : List Int) (cs : List (List Int)) (K : Nat), ls.length = cs.length → ∀ k, k < cs.length → ((takesOf ls cs K).getD k []).length = K ∧ ∀ i, i < K → 0 ≤ ((takesOf ls cs K).getD k []).getD i 0 ∧ ((takesOf ls cs K).getD k []).getD i 0 ≤ (i : Int)
  | [], [], _, _, k, hk => absurd hk (by simp)
  | l :: ls, c :: cs, K, h, k, hk => by
    have hb := bringsOf_len ls cs K
    cases k with
    | zero =>
      show (aheadT c l (bringsOf ls cs K)).length = K ∧ ∀ i, i < K → 0 ≤ (aheadT c l (bringsOf ls cs K)).getD i 0 ∧ (aheadT c l (bringsOf ls cs K)).getD i 0 ≤ (i : Int)
      exact ⟨by rw [aheadT_len, hb], fun i hi => aheadT_bounds c l _ (by omega)⟩
    | succ k => exact takesOf_at ls cs K (by simpa using h) k (by simpa using hk)
theorem leftAt_le (ts : List (List Int)) (K : Nat) : ∀ i, leftAt ts K i ≤ K
  | 0 => Nat.le_refl _
  | i + 1 => by
    have := leftAt_le ts K i
    show leftAt ts K i - _ ≤ K
    omega
theorem drop_eq {α : Type} (d : α) {l : List α} {i : Nat} (h : i < l.length) : l.drop i = l.getD i d :: l.drop (i + 1) := by
  rw [List.drop_eq_getElem_cons h, List.getD_eq_getElem?_getD, List.getElem?_eq_getElem h]; rfl
theorem bringsOf_drop {ls : List Int} {cs : List (List Int)} (K : Nat) (h : ls.length = cs.length) {i : Nat} (hi : i < cs.length) : bringsOf (ls.drop i) (cs.drop i) K = aheadB (cs.getD i []) (ls.getD i 0) (bringsOf (ls.drop (i + 1)) (cs.drop (i + 1)) K) := by
  rw [drop_eq 0 (show i < ls.length by omega), drop_eq [] hi]; rfl
theorem takesOf_drop {ls : List Int} {cs : List (List Int)} (K : Nat) (h : ls.length = cs.length) {i : Nat} (hi : i < cs.length) : takesOf (ls.drop i) (cs.drop i) K = aheadT (cs.getD i []) (ls.getD i 0) (bringsOf (ls.drop (i + 1)) (cs.drop (i + 1)) K) :: takesOf (ls.drop (i + 1)) (cs.drop (i + 1)) K := by
  rw [drop_eq 0 (show i < ls.length by omega), drop_eq [] hi]; rfl
theorem takesOf_none (ls : List Int) (cs : List (List Int)) (K : Nat) (h : ls.length = cs.length) : takesOf (ls.drop cs.length) (cs.drop cs.length) K = [] := by
  rw [List.drop_length, ← h, List.drop_length]; rfl
theorem bringsOf_none (ls : List Int) (cs : List (List Int)) (K : Nat) (h : ls.length = cs.length) : bringsOf (ls.drop cs.length) (cs.drop cs.length) K = List.replicate K 0 := by
  rw [List.drop_length, ← h, List.drop_length]; rfl
theorem map_set_drop {α β : Type} (f : α → β) (l : List α) {i : Nat} (p : α) (h : i < l.length) : ((l.set i p).drop i).map f = f p :: (l.drop (i + 1)).map f := by
  rw [List.drop_eq_getElem_cons (by simpa using h), List.getElem_set_self, List.map_cons, List.drop_set_of_lt (by omega)]
theorem shareAt_bounds {ls : List Int} {ts : List (List Int)} {K i : Nat} (hl : ∀ z ∈ ls, 0 ≤ z ∧ z ≤ 512) {j : Nat} (hj : j < ls.length) (hji : i ≤ j) : 0 ≤ (shareAt ls ts K i).getD j 0 ∧ (shareAt ls ts K i).getD j 0 ≤ 512 := by
  have e : (shareAt ls ts K i).getD j 0 = ls.getD j 0 := by
    simp only [shareAt, List.getD_eq_getElem?_getD, List.getElem?_map, List.getElem?_range hj, Option.map_some, Option.getD_some]
    rw [if_neg (by omega)]
  rw [e]
  exact hl _ (by rw [List.getD_eq_getElem?_getD, List.getElem?_eq_getElem hj]; exact List.getElem_mem hj)

end Go.Proofs.Ytnpdffcplgjbnaa
