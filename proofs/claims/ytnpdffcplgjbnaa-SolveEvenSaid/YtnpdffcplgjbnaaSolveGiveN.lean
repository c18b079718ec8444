/-
  Plain: what is given slot by slot, as lists: the sum, the least; as the plain sharing of XSolveNums.
-/
import Derived.Test.YtnpdffcplgjbnaaSolveGreedy
namespace Go.Proofs.Ytnpdffcplgjbnaa
open Go.RowKit

theorem sum_setI : ∀ (l : List Int) (b : Nat) (d : Int), b < l.length → (l.set b (l.getD b 0 + d)).sum = l.sum + d
  | [], b, d, h => absurd h (by simp)
  | a :: l, 0, d, _ => by
    show ((a + d) :: l).sum = _
    rw [List.sum_cons, List.sum_cons]; omega
  | a :: l, b + 1, d, h => by
    have ih := sum_setI l b d (by simpa using h)
    show (a :: l.set b (l.getD b 0 + d)).sum = _
    rw [List.sum_cons, List.sum_cons, ih]; omega
theorem giveL_sum (cs : List (List Int)) (X : List Int) (h : cs.length = X.length) (h1 : 1 ≤ cs.length) : ∀ j : Nat, (giveL cs X j).sum = X.sum + (j : Int)
  | 0 => by simp [giveL]
  | j + 1 => by
    have ih := giveL_sum cs X h h1 j
    show (oneMore cs (giveL cs X j)).sum = _
    unfold oneMore
    have hb := bestAt_le cs (giveL cs X j) (cs.length - 1)
    rw [sum_setI _ _ _ (by rw [giveL_len]; omega), ih]
    omega
theorem giveL_ge (cs : List (List Int)) (X : List Int) : ∀ j i : Nat, i < X.length → X.getD i 0 ≤ (giveL cs X j).getD i 0
  | 0, i, _ => Int.le_refl _
  | j + 1, i, hi => by
    have ih := giveL_ge cs X j i hi
    show _ ≤ (oneMore cs (giveL cs X j)).getD i 0
    unfold oneMore
    rw [getD_setI]
    split
    · rename_i q
      rw [q.1]; omega
    · exact ih
/-- As numbers of slots. -/
theorem bestG_same {f g : Nat → Int} : ∀ k : Nat, (∀ i, i ≤ k → f i = g i) → bestG f k = bestG g k
  | 0, _ => rfl
  | k + 1, h => by
    have ih := bestG_same k fun i hi => h i (by omega)
    unfold bestG
    rw [ih, h (k + 1) (Nat.le_refl _), h _ (by have := bestG_le g k; omega)]
theorem giveL_fun (cs : List (List Int)) (X : List Int) (h : cs.length = X.length) (h1 : 1 ≤ cs.length) (h0 : ∀ i, i < X.length → 0 ≤ X.getD i 0) : ∀ j i : Nat, i < X.length →
    (giveL cs X j).getD i 0 = ((greedyS (fun i n => atN (cs.getD i []) (n : Int)) (cs.length - 1) j (fun i => (X.getD i 0).toNat) i : Nat) : Int)
  | 0, i, hi => by
    have := h0 i hi
    show X.getD i 0 = (((X.getD i 0).toNat : Nat) : Int)
    omega
  | j + 1, i, hi => by
    have ih := giveL_fun cs X h h1 h0 j
    obtain ⟨z, hz⟩ : ∃ z, z = greedyS (fun i n => atN (cs.getD i []) (n : Int)) (cs.length - 1) j (fun i => (X.getD i 0).toNat) := ⟨_, rfl⟩
    rw [← hz] at ih
    have hb : bestAt cs (giveL cs X j) (cs.length - 1) = bestG (fun i => gainF (fun n => atN (cs.getD i []) (n : Int)) (z i)) (cs.length - 1) := by
      unfold bestAt
      refine bestG_same _ fun i hi => ?_
      rw [ih i (by omega)]
      rfl
    show (oneMore cs (giveL cs X j)).getD i 0 = ((stepS (fun i n => atN (cs.getD i []) (n : Int)) (cs.length - 1) (greedyS (fun i n => atN (cs.getD i []) (n : Int)) (cs.length - 1) j (fun i => (X.getD i 0).toNat)) i : Nat) : Int)
    rw [← hz]
    unfold oneMore stepS
    rw [getD_setI, giveL_len, hb]
    by_cases hib : i = bestG (fun i => gainF (fun n => atN (cs.getD i []) (n : Int)) (z i)) (cs.length - 1)
    · rw [if_pos ⟨hib.symm, hi⟩, if_pos hib, ← hib, ih i hi]; omega
    · rw [if_neg (fun q => hib q.1.symm), if_neg hib, ih i hi]

end Go.Proofs.Ytnpdffcplgjbnaa
