/-
  Plain: the least of each, shares that are tried. No program is spoken of here.
-/
import Derived.Test.YtnpdffcplgjbnaaSolveGiveN
import Derived.Test.YtnpdffcplgjbnaaSolveGreedyL
namespace Go.Proofs.Ytnpdffcplgjbnaa
open Go.RowKit

def lowF (l : List Int) (i : Nat) : Int := if i < l.length then l.getD i 0 % 8 else 0
def lowL (l : List Int) (n : Nat) : List Int := (List.range n).map (lowF l)
theorem lowL_succ (l : List Int) (n : Nat) : lowL l (n + 1) = lowL l n ++ [lowF l n] := by unfold lowL; rw [List.range_succ, List.map_append]; rfl
theorem lowL_len (l : List Int) (n : Nat) : (lowL l n).length = n := by simp [lowL]
theorem lowF_val (l : List Int) (i : Nat) : 0 ≤ lowF l i ∧ lowF l i ≤ 7 := by
  unfold lowF
  split <;> omega
theorem lowL_val (l : List Int) (n : Nat) : ∀ z ∈ lowL l n, 0 ≤ z ∧ z ≤ 7 := fun z hz => by
  obtain ⟨i, _, e⟩ := List.mem_map.1 hz
  rw [← e]; exact lowF_val l i
theorem le_sum : ∀ {l : List Int}, (∀ z ∈ l, 0 ≤ z) → ∀ x ∈ l, x ≤ l.sum
  | [], _, x, hx => absurd hx (by simp)
  | a :: l, h, x, hx => by
    have h1 := sum_nonneg (l := l) fun z hz => h z (List.mem_cons_of_mem _ hz)
    have h2 := h a (List.mem_cons_self ..)
    rw [List.sum_cons]
    rcases List.mem_cons.1 hx with e | e
    · omega
    · have := le_sum (fun z hz => h z (List.mem_cons_of_mem _ hz)) x e
      omega
theorem Good.give {total : Int} {least : List Int} {cs : List (List Int)} (h : Good total least cs) : Shares least total (giveL cs least (total - least.sum).toNat) :=
  ⟨giveL_len _ _ _, by rw [giveL_sum cs least h.len.symm h.pos]; have := h.sum; omega, fun i hi => giveL_ge cs least _ i hi⟩
/-- Each is no more than the total. -/
theorem Shares.entry {ls : List Int} {t : Int} {xs : List Int} (h : Shares ls t xs) (h0 : ∀ z ∈ ls, 0 ≤ z) {i : Nat} (hi : i < ls.length) : ls.getD i 0 ≤ xs.getD i 0 ∧ 0 ≤ xs.getD i 0 ∧ xs.getD i 0 ≤ t := by
  have hx : ∀ z ∈ xs, 0 ≤ z := fun z hz => by
    obtain ⟨j, hj, e⟩ := List.getElem_of_mem hz
    have h1 := h.low j (by rw [← h.len]; exact hj)
    have h2 := h0 (ls.getD j 0) (by rw [List.getD_eq_getElem?_getD, List.getElem?_eq_getElem (by rw [← h.len]; exact hj)]; exact List.getElem_mem _)
    rw [List.getD_eq_getElem?_getD, List.getD_eq_getElem?_getD, List.getElem?_eq_getElem hj] at h1
    rw [List.getD_eq_getElem?_getD] at h2
    simp only [Option.getD_some] at h1
    rw [e] at h1
    omega
  have hm : xs.getD i 0 ∈ xs := by rw [List.getD_eq_getElem?_getD, List.getElem?_eq_getElem (by rw [h.len]; exact hi)]; exact List.getElem_mem _
  have h3 := le_sum hx _ hm
  have h4 := hx _ hm
  rw [h.sum] at h3
  exact ⟨h.low i hi, h4, h3⟩
theorem Shares.sums {ls : List Int} {t : Int} {xs : List Int} (h : Shares ls t xs) (h0 : ∀ z ∈ ls, 0 ≤ z) (ht : t ≤ 1048576) {k : Nat} (hk : k ≤ ls.length) : 0 ≤ sumK xs k ∧ sumK xs k ≤ 1048576 * (k : Int) := by
  refine sumK_bounds (l := xs) (fun z hz => ?_) k (by rw [h.len]; exact hk)
  obtain ⟨j, hj, e⟩ := List.getElem_of_mem hz
  have h1 := h.entry h0 (i := j) (by rw [← h.len]; exact hj)
  rw [List.getD_eq_getElem?_getD, List.getD_eq_getElem?_getD, List.getElem?_eq_getElem hj] at h1
  simp only [Option.getD_some] at h1
  rw [e] at h1
  omega
/-- One slot more to somebody. -/
theorem tried_more {ls Y : List Int} {j : Int} (hl : Y.length = ls.length) (hs : Y.sum = ls.sum + j) (hw : ∀ i, i < ls.length → ls.getD i 0 ≤ Y.getD i 0) {d : Nat} (hd : d < ls.length) :
    (Y.set d (Y.getD d 0 + 1)).length = ls.length ∧ (Y.set d (Y.getD d 0 + 1)).sum = ls.sum + (j + 1) ∧ ∀ i, i < ls.length → ls.getD i 0 ≤ (Y.set d (Y.getD d 0 + 1)).getD i 0 := by
  refine ⟨by rw [List.length_set, hl], by rw [sum_setI _ _ _ (by rw [hl]; exact hd), hs]; omega, fun i hi => ?_⟩
  rw [getD_setI]
  have := hw i hi
  split
  · rename_i q
    rw [q.1]; omega
  · exact this

end Go.Proofs.Ytnpdffcplgjbnaa
