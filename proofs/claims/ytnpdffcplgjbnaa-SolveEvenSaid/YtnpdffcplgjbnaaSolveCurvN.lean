/-
  Curves in a row of one's own; the same curve several times, shared slot by slot.
-/
import Derived.Test.YtnpdffcplgjbnaaSolveEvenN
import Derived.Test.YtnpdffcplgjbnaaSolveAllN
import Derived.Test.YtnpdffcplgjbnaaSide
namespace Go.Proofs.Ytnpdffcplgjbnaa
open Go.RowKit

def Cur.V (p : Cur) : Value := .slice p.A p.l.length p.c
theorem Curs.of_own {w : World} {base t n c : Nat} {A : Option Addr} {ps : List Cur} (h : w.ownsRow base t 1 (.slice A n c) ps.length (ps.map Cur.V)) (hok : ∀ p ∈ ps, p.ok w w.heap.size) : Curs w w.heap.size A ps := fun i hi => by
  obtain ⟨g, cap, hv, _, hgl⟩ := h.form (by omega)
  injection hv with h1 h2 h3
  subst h1
  refine ⟨g, 0, rfl, hgl, ?_, hok _ (List.getElem_mem hi)⟩
  subst h3
  have hx := h.cells (g := g) rfl i (ps[i].V) (by rw [List.getElem?_map, List.getElem?_eq_getElem hi]; rfl)
  have hadd : (⟨g, 0, none⟩ : Addr).add i = ⟨g, 0 + i, none⟩ := by unfold Addr.add; split <;> simp_all
  rw [hadd] at hx
  exact hx

/-! ### One curve with gains that fall -/
def evenV : Nat → Int
  | 0 => 0
  | i + 1 => evenV i + 700 - (i : Int)
def evenC (n : Nat) : List Int := (List.range (n + 1)).map evenV
theorem evenC_succ (n : Nat) : evenC (n + 1) = evenC n ++ [evenV (n + 1)] := by unfold evenC; rw [List.range_succ, List.map_append]; rfl
theorem evenC_len (n : Nat) : (evenC n).length = n + 1 := by simp [evenC]
theorem evenC_at {n i : Nat} (h : i ≤ n) : (evenC n).getD i 0 = evenV i := by
  unfold evenC
  rw [List.getD_eq_getElem?_getD, List.getElem?_map, List.getElem?_range (by omega)]; rfl
theorem evenV_bounds : ∀ i : Nat, i ≤ 600 → 0 ≤ evenV i ∧ evenV i ≤ 700 * (i : Int)
  | 0, _ => by simp [evenV]
  | i + 1, h => by
    have := evenV_bounds i (by omega)
    unfold evenV
    omega
theorem even_sound : soundL (evenC 600) = true := by
  rw [soundL_iff]
  refine ⟨by rw [evenC_len]; decide, by rw [evenC_len]; decide, by rw [evenC_at (by decide)]; decide, fun i hi => ?_⟩
  rw [evenC_len] at hi
  have := evenV_bounds i (by omega)
  unfold soundAt
  rw [Bool.and_eq_true, Bool.or_eq_true, decide_eq_true_eq, decide_eq_true_eq, decide_eq_true_eq, evenC_at (by omega)]
  refine ⟨by omega, ?_⟩
  by_cases h0 : i = 0
  · exact .inl h0
  · obtain ⟨k, rfl⟩ : ∃ k, i = k + 1 := ⟨i - 1, by omega⟩
    rw [Nat.add_sub_cancel, evenC_at (by omega)]
    right
    show evenV k ≤ evenV k + 700 - (k : Int)
    omega
theorem even_atN {n : Nat} (h : n ≤ 600) : atN (evenC 600) (n : Int) = evenV n := by
  unfold atN
  rw [evenC_len, if_neg (by omega), if_neg (by omega), Int.toNat_natCast, evenC_at h]
theorem even_gain {n : Nat} (h : n < 512) : gainF (fun n => atN (evenC 600) (n : Int)) (n + 1) < gainF (fun n => atN (evenC 600) (n : Int)) n := by
  unfold gainF
  simp only []
  rw [even_atN (by omega), even_atN (by omega), even_atN (by omega)]
  show evenV (n + 1) + 700 - ((n + 1 : Nat) : Int) - evenV (n + 1) < evenV n + 700 - (n : Int) - evenV n
  omega
theorem greedyS_same {F G : Nat → Nat → Int} {K : Nat} (h : ∀ i, i ≤ K → F i = G i) (x : Nat → Nat) : ∀ j : Nat, greedyS F K j x = greedyS G K j x
  | 0 => rfl
  | j + 1 => by
    have ih := greedyS_same h x j
    show stepS F K (greedyS F K j x) = stepS G K (greedyS G K j x)
    rw [ih]
    have hb : bestG (fun i => gainF (F i) (greedyS G K j x i)) K = bestG (fun i => gainF (G i) (greedyS G K j x i)) K := bestG_same K fun i hi => by rw [h i hi]
    unfold stepS
    rw [hb]
theorem rep_getD {α : Type} (a d : α) (K i : Nat) (h : i < K) : (List.replicate K a).getD i d = a := by
  rw [List.getD_eq_getElem?_getD, List.getElem?_replicate, if_pos h]; rfl
theorem rep_zero (K i : Nat) : (List.replicate K (0 : Int)).getD i 0 = 0 := by
  rw [List.getD_eq_getElem?_getD, List.getElem?_replicate]
  split <;> rfl
theorem rep_sum (K : Nat) : (List.replicate K (0 : Int)).sum = 0 := by simp
theorem solveE_rep {k : Int} {K : Nat} {c : List Int} (h0 : 0 ≤ k) (h1 : k ≤ 512) (hK : 1 ≤ K ∧ K ≤ 16) (hc : soundL c = true) : solveE k (List.replicate K 0) (List.replicate K c) = 0 := by
  unfold solveE
  rw [if_neg (by simp; omega), if_neg (by simp; omega), if_neg (by simp [hc]), if_neg (by rw [rep_sum]; omega)]
/-- None has less than the last, and none more than one more. -/
theorem even_shares {k : Int} {K : Nat} (h0 : 0 ≤ k) (h1 : k ≤ 512) (hK : 1 ≤ K) {i : Nat} (hi : i < K) :
    (giveL (List.replicate K (evenC 600)) (List.replicate K 0) k.toNat).getD (K - 1) 0 ≤ (giveL (List.replicate K (evenC 600)) (List.replicate K 0) k.toNat).getD i 0 ∧
    (giveL (List.replicate K (evenC 600)) (List.replicate K 0) k.toNat).getD i 0 ≤ (giveL (List.replicate K (evenC 600)) (List.replicate K 0) k.toNat).getD (K - 1) 0 + 1 := by
  have hl : (List.replicate K (evenC 600)).length = (List.replicate K (0 : Int)).length := by simp
  have hf := giveL_fun (List.replicate K (evenC 600)) (List.replicate K 0) hl (by simp; omega) (fun i _ => by rw [rep_zero]; omega) k.toNat
  have hz : (fun i => ((List.replicate K (0 : Int)).getD i 0).toNat) = fun _ => 0 := by funext i; rw [rep_zero]; rfl
  have hs := greedyS_same (F := fun i n => atN ((List.replicate K (evenC 600)).getD i []) (n : Int)) (G := fun _ n => atN (evenC 600) (n : Int)) (K := K - 1) (fun i hi => by rw [rep_getD _ _ _ _ (by omega)]) (fun _ => 0) k.toNat
  have hlen : (List.replicate K (evenC 600)).length = K := by simp
  rw [hz, hlen, hs] at hf
  have he := even_last (F := fun n => atN (evenC 600) (n : Int)) (K := K - 1) (M := 512) (fun n hn => even_gain hn) (j := k.toNat) (by omega) (i := i) (by omega)
  rw [hf i (by simp; omega), hf (K - 1) (by simp; omega)]
  omega

end Go.Proofs.Ytnpdffcplgjbnaa
