/-
  Plain: between two corners that follow one another no size lies above the line; gains fall from corner to corner. No program is spoken of here.
-/
import Derived.Test.YtnpdffcplgjbnaaCurveNums
namespace Go.Proofs.Ytnpdffcplgjbnaa
open Go.RowKit

theorem filt_range (p : Nat → Bool) : ∀ N : Nat, (∀ i, i < ((List.range N).filter p).length → p (((List.range N).filter p).getD i 0) = true ∧ ((List.range N).filter p).getD i 0 < N) ∧
    (∀ i, i + 1 < ((List.range N).filter p).length → ((List.range N).filter p).getD i 0 < ((List.range N).filter p).getD (i + 1) 0 ∧ ∀ s, ((List.range N).filter p).getD i 0 < s → s < ((List.range N).filter p).getD (i + 1) 0 → p s = false) ∧
    (∀ s, s < N → (((List.range N).filter p).length = 0 ∨ ((List.range N).filter p).getD (((List.range N).filter p).length - 1) 0 < s) → p s = false)
  | 0 => ⟨fun i hi => by simp at hi, fun i hi => by simp at hi, fun s hs => by omega⟩
  | N + 1 => by
    obtain ⟨h1, h2, h3⟩ := filt_range p N
    have e : (List.range (N + 1)).filter p = (List.range N).filter p ++ (if p N then [N] else []) := by
      rw [List.range_succ, List.filter_append]
      cases hp : p N <;> simp [hp]
    rw [e]
    obtain ⟨L, hL⟩ : ∃ L, L = (List.range N).filter p := ⟨_, rfl⟩
    rw [← hL] at h1 h2 h3 ⊢
    cases hp : p N
    · simp only [Bool.false_eq_true, if_false, List.append_nil]
      refine ⟨fun i hi => ⟨(h1 i hi).1, by have := (h1 i hi).2; omega⟩, h2, fun s hs hl => ?_⟩
      by_cases hsN : s = N
      · rw [hsN]; exact hp
      · exact h3 s (by omega) hl
    · simp only [if_true]
      have g1 : ∀ i, i < L.length → (L ++ [N]).getD i 0 = L.getD i 0 := fun i hi => by simp [List.getD, List.getElem?_append_left hi]
      have g2 : (L ++ [N]).getD L.length 0 = N := by simp [List.getD]
      rw [List.length_append]
      simp only [List.length_cons, List.length_nil]
      refine ⟨fun i hi => ?_, fun i hi => ?_, fun s hs hl => ?_⟩
      · by_cases hiL : i < L.length
        · rw [g1 i hiL]; exact ⟨(h1 i hiL).1, by have := (h1 i hiL).2; omega⟩
        · rw [show i = L.length by omega, g2]; exact ⟨hp, by omega⟩
      · by_cases hiL : i + 1 < L.length
        · rw [g1 i (by omega), g1 (i + 1) hiL]; exact h2 i hiL
        · rw [show i + 1 = L.length by omega, g2, g1 i (by omega)]
          refine ⟨(h1 i (by omega)).2, fun s a1 a2 => h3 s a2 (Or.inr ?_)⟩
          rw [show L.length - 1 = i by omega]; exact a1
      · exfalso
        rcases hl with hl | hl
        · omega
        · rw [show L.length + (0 + 1) - 1 = L.length by omega, g2] at hl; omega

/-- The leftmost of the greatest. -/
theorem leftmost (g : Nat → Int) : ∀ n : Nat, ∃ m, m ≤ n ∧ (∀ x, x ≤ n → g x ≤ g m) ∧ ∀ x, x < m → g x < g m
  | 0 => ⟨0, Nat.le_refl _, fun x hx => by rw [show x = 0 by omega]; exact Int.le_refl _, fun x hx => by omega⟩
  | n + 1 => by
    obtain ⟨m, h1, h2, h3⟩ := leftmost g n
    by_cases hg : g m < g (n + 1)
    · refine ⟨n + 1, Nat.le_refl _, fun x hx => ?_, fun x hx => ?_⟩
      · by_cases hx2 : x = n + 1
        · rw [hx2]; exact Int.le_refl _
        · have := h2 x (by omega); omega
      · have := h2 x (by omega); omega
    · refine ⟨m, by omega, fun x hx => ?_, h3⟩
      by_cases hx2 : x = n + 1
      · rw [hx2]; omega
      · exact h2 x (by omega)

theorem corner_more {c : List Int} {s a b : Nat} (h : cornerB c s = true) (ha : a < s) (hs : s < b) (hb : b < c.length) : (c.getD b 0 - c.getD a 0) * ((s : Int) - a) < (c.getD s 0 - c.getD a 0) * ((b : Int) - a) := by
  unfold cornerB at h
  rw [List.all_eq_true] at h
  have h1 := h a (List.mem_range.2 ha)
  unfold rowOk at h1
  rw [List.all_eq_true] at h1
  have h2 := h1 b (List.mem_range.2 hb)
  rw [decide_eq_false (by omega : ¬ b ≤ s), Bool.false_or] at h2
  unfold moreC at h2
  exact of_decide_eq_true h2
/-- From one corner to the next the gain is less. -/
theorem corner_fall {c : List Int} {p a b : Nat} (h : cornerB c a = true) (hp : p < a) (hb : a < b) (hbl : b < c.length) : (c.getD b 0 - c.getD a 0) * ((a : Int) - p) < (c.getD a 0 - c.getD p 0) * ((b : Int) - a) := by
  have h1 := corner_more h hp hb hbl
  obtain ⟨u, hu⟩ : ∃ u : Int, u = (a : Int) - p := ⟨_, rfl⟩
  obtain ⟨v, hv⟩ : ∃ u : Int, u = (b : Int) - a := ⟨_, rfl⟩
  obtain ⟨x, hx⟩ : ∃ u : Int, u = c.getD a 0 - c.getD p 0 := ⟨_, rfl⟩
  obtain ⟨y, hy⟩ : ∃ u : Int, u = c.getD b 0 - c.getD a 0 := ⟨_, rfl⟩
  rw [show c.getD b 0 - c.getD p 0 = y + x by omega, ← hu, ← hx, show (b : Int) - p = v + u by omega, Int.add_mul, Int.mul_add] at h1
  rw [← hu, ← hv, ← hx, ← hy]
  omega
/-- How far a size lies above the line, times the line's length. -/
def above (c : List Int) (a b : Nat) (s : Nat) : Int := (c.getD s 0 - c.getD a 0) * ((b : Int) - a) - (c.getD b 0 - c.getD a 0) * ((s : Int) - a)
theorem above_out {c : List Int} {a b : Nat} (ha : cornerB c a = true) (hb : cornerB c b = true) (hab : a < b) (hbl : b < c.length) : (∀ x, x < a → above c a b x < 0) ∧ (∀ y, b < y → y < c.length → above c a b y < 0) ∧ above c a b a = 0 ∧ above c a b b = 0 := by
  refine ⟨fun x hx => ?_, fun y hy hyl => ?_, ?_, ?_⟩
  · have h1 := corner_fall ha hx hab hbl
    unfold above
    have e1 : (c.getD x 0 - c.getD a 0) * ((b : Int) - a) = -((c.getD a 0 - c.getD x 0) * ((b : Int) - a)) := by rw [← Int.neg_mul]; congr 1; omega
    have e2 : (c.getD b 0 - c.getD a 0) * ((x : Int) - a) = -((c.getD b 0 - c.getD a 0) * ((a : Int) - x)) := by rw [← Int.mul_neg]; congr 1; omega
    rw [e1, e2]; omega
  · have h1 := corner_more hb hab hy hyl
    unfold above
    omega
  · unfold above; rw [Int.sub_self, Int.sub_self]; simp
  · unfold above; rw [Int.sub_self]
theorem above_le {c : List Int} {a b : Nat} (ha : cornerB c a = true) (hb : cornerB c b = true) (hab : a < b) (hbl : b < c.length) (hno : ∀ s, a < s → s < b → cornerB c s = false) {s : Nat} (hs : s < c.length) : above c a b s ≤ 0 := by
  apply Decidable.byContradiction
  intro hpos
  obtain ⟨m, hm, hle, hlt⟩ := leftmost (above c a b) (c.length - 1)
  obtain ⟨o1, o2, o3, o4⟩ := above_out ha hb hab hbl
  have hgm : 0 < above c a b m := by have := hle s (by omega); omega
  have m1 : a < m := by
    rcases Nat.lt_trichotomy m a with g | g | g
    · have := o1 m g; omega
    · rw [g] at hgm; omega
    · exact g
  have m2 : m < b := by
    rcases Nat.lt_trichotomy m b with g | g | g
    · exact g
    · rw [g] at hgm; omega
    · have := o2 m g (by omega); omega
  have hc : cornerB c m = true := by
    unfold cornerB
    rw [List.all_eq_true]
    intro x hx
    have hx := List.mem_range.1 hx
    unfold rowOk
    rw [List.all_eq_true]
    intro y hy
    have hy := List.mem_range.1 hy
    by_cases hym : y ≤ m
    · rw [decide_eq_true hym]; rfl
    · rw [decide_eq_false hym, Bool.false_or]
      unfold moreC
      rw [decide_eq_true_eq]
      have g1 := hlt x hx
      have g2 := hle y (by omega)
      unfold above at g1 g2
      obtain ⟨D, hD⟩ : ∃ D : Int, D = (b : Int) - a := ⟨_, rfl⟩
      obtain ⟨E, hE⟩ : ∃ D : Int, D = c.getD b 0 - c.getD a 0 := ⟨_, rfl⟩
      obtain ⟨u, hu⟩ : ∃ D : Int, D = (m : Int) - x := ⟨_, rfl⟩
      obtain ⟨v, hv⟩ : ∃ D : Int, D = (y : Int) - x := ⟨_, rfl⟩
      obtain ⟨P, hP⟩ : ∃ D : Int, D = c.getD m 0 - c.getD x 0 := ⟨_, rfl⟩
      obtain ⟨Q, hQ⟩ : ∃ D : Int, D = c.getD y 0 - c.getD x 0 := ⟨_, rfl⟩
      have hD0 : 0 < D := by omega
      have hu0 : 0 < u := by omega
      have huv : u < v := by omega
      rw [← hu, ← hv, ← hP, ← hQ]
      -- g1: 0 < P D - E u; g2: Q D - E v ≤ P D - E u
      have k1 : E * u < P * D := by
        have a1 : (c.getD m 0 - c.getD a 0) * D = P * D + (c.getD x 0 - c.getD a 0) * D := by rw [← Int.add_mul]; congr 1; omega
        have a2 : E * ((m : Int) - a) = E * u + E * ((x : Int) - a) := by rw [← Int.mul_add]; congr 1; omega
        rw [← hD, ← hE] at g1
        omega
      have k2 : Q * D - E * v ≤ P * D - E * u := by
        have a1 : (c.getD m 0 - c.getD a 0) * D = P * D + (c.getD x 0 - c.getD a 0) * D := by rw [← Int.add_mul]; congr 1; omega
        have a2 : E * ((m : Int) - a) = E * u + E * ((x : Int) - a) := by rw [← Int.mul_add]; congr 1; omega
        have a3 : (c.getD y 0 - c.getD a 0) * D = Q * D + (c.getD x 0 - c.getD a 0) * D := by rw [← Int.add_mul]; congr 1; omega
        have a4 : E * ((y : Int) - a) = E * v + E * ((x : Int) - a) := by rw [← Int.mul_add]; congr 1; omega
        rw [← hD, ← hE] at g2
        omega
      -- (Q D - E v) u ≤ (P D - E u) u < (P D - E u) v
      have k3 : (Q * D - E * v) * u ≤ (P * D - E * u) * u := Int.mul_le_mul_of_nonneg_right k2 (by omega)
      have k4 : (P * D - E * u) * u < (P * D - E * u) * v := Int.mul_lt_mul_of_pos_left huv (by omega)
      have k5 : (Q * D - E * v) * u < (P * D - E * u) * v := by omega
      rw [Int.sub_mul, Int.sub_mul, Int.mul_assoc E, Int.mul_assoc E, Int.mul_comm v u] at k5
      have k6 : (Q * u) * D < (P * v) * D := by
        have r1 : Q * D * u = Q * u * D := by rw [Int.mul_assoc, Int.mul_comm D u, ← Int.mul_assoc]
        have r2 : P * D * v = P * v * D := by rw [Int.mul_assoc, Int.mul_comm D v, ← Int.mul_assoc]
        rw [r1, r2] at k5
        omega
      exact Int.lt_of_mul_lt_mul_right k6 (by omega)
  rw [hno m m1 m2] at hc
  cases hc

/-- The corners' list. -/
def cornerL (c : List Int) : List Nat := (List.range c.length).filter (cornerB c)
theorem hull_corner (c : List Int) : hullL c = (cornerL c).map fun s : Nat => (s : Int) := rfl
theorem corner_first {c : List Int} (h : 1 ≤ c.length) : 1 ≤ (cornerL c).length ∧ (cornerL c).getD 0 0 = 0 := by
  have h0 : cornerB c 0 = true := rfl
  obtain ⟨h1, h2, h3⟩ := filt_range (cornerB c) c.length
  have hl : 1 ≤ (cornerL c).length := by
    apply Decidable.byContradiction
    intro hlt
    have := h3 0 (by omega) (Or.inl (by unfold cornerL at hlt; omega))
    rw [h0] at this; cases this
  refine ⟨hl, ?_⟩
  unfold cornerL
  obtain ⟨n, hn⟩ : ∃ n, c.length = n + 1 := ⟨c.length - 1, by omega⟩
  rw [hn, List.range_succ_eq_map, List.filter_cons, if_pos h0]
  rfl
theorem corner_last {c : List Int} (h : 1 ≤ c.length) : (cornerL c).getD ((cornerL c).length - 1) 0 = c.length - 1 := by
  have hn : cornerB c (c.length - 1) = true := by
    unfold cornerB
    rw [List.all_eq_true]
    intro a _
    unfold rowOk
    rw [List.all_eq_true]
    intro b hb
    have hb := List.mem_range.1 hb
    rw [decide_eq_true (by omega : b ≤ c.length - 1)]; rfl
  obtain ⟨h1, h2, h3⟩ := filt_range (cornerB c) c.length
  have hl := (corner_first h).1
  unfold cornerL at hl ⊢
  have h4 := (h1 (((List.range c.length).filter (cornerB c)).length - 1) (by omega)).2
  apply Decidable.byContradiction
  intro hne
  have := h3 (c.length - 1) (by omega) (Or.inr (by omega))
  rw [hn] at this; cases this

end Go.Proofs.Ytnpdffcplgjbnaa
