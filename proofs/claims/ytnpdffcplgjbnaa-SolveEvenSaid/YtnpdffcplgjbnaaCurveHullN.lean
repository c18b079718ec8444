/-
  Plain: the corners of a curve's beginnings, from one size to the next: what comes last is left out as long as it lies below the line from the one ahead to the new size. No program is spoken of here.
-/
import Derived.Test.YtnpdffcplgjbnaaCurveCornN
namespace Go.Proofs.Ytnpdffcplgjbnaa
open Go.RowKit

theorem getD_takeI (c : List Int) {m i : Nat} (h : i < m) : (c.take m).getD i 0 = c.getD i 0 := by
  simp [List.getD, h]
theorem moreC_take (c : List Int) {m s a b : Nat} (hs : s < m) (ha : a < m) (hb : b < m) : moreC (c.take m) s a b = moreC c s a b := by
  unfold moreC; rw [getD_takeI c hs, getD_takeI c ha, getD_takeI c hb]
theorem corner_iff (c : List Int) (s : Nat) : cornerB c s = true ↔ ∀ a, a < s → ∀ b, s < b → b < c.length → moreC c s a b = true := by
  unfold cornerB
  rw [List.all_eq_true]
  constructor
  · intro h a ha b hb hl
    have h1 := h a (List.mem_range.2 ha)
    unfold rowOk at h1
    rw [List.all_eq_true] at h1
    have h2 := h1 b (List.mem_range.2 hl)
    rwa [decide_eq_false (by omega : ¬ b ≤ s), Bool.false_or] at h2
  · intro h a ha
    have ha := List.mem_range.1 ha
    unfold rowOk
    rw [List.all_eq_true]
    intro b hb
    have hb := List.mem_range.1 hb
    by_cases hs : b ≤ s
    · rw [decide_eq_true hs]; rfl
    · rw [decide_eq_false hs, Bool.false_or]; exact h a ha b (by omega) hb
theorem corner_take (c : List Int) {m s : Nat} (hm : m ≤ c.length) (hs : s < m) : cornerB (c.take m) s = true ↔ ∀ a, a < s → ∀ b, s < b → b < m → moreC c s a b = true := by
  rw [corner_iff, List.length_take, Nat.min_eq_left hm]
  constructor
  · intro h a ha b hb hl; rw [← moreC_take c hs (by omega) hl]; exact h a ha b hb hl
  · intro h a ha b hb hl; rw [moreC_take c hs (by omega) hl]; exact h a ha b hb hl
/-- The gain of a step ahead, and behind. -/
def gainI (c : List Int) (a b : Nat) : Int := c.getD b 0 - c.getD a 0
theorem more_gain (c : List Int) (s a b : Nat) : moreC c s a b = true ↔ gainI c s b * ((s : Int) - a) < gainI c a s * ((b : Int) - s) := by
  unfold moreC
  rw [decide_eq_true_eq]
  have e1 : c.getD b 0 - c.getD a 0 = gainI c s b + gainI c a s := by unfold gainI; omega
  have e2 : (b : Int) - a = ((b : Int) - s) + ((s : Int) - a) := by omega
  have e3 : c.getD s 0 - c.getD a 0 = gainI c a s := rfl
  rw [e1, e2, e3, Int.add_mul, Int.mul_add]
  omega
/-- y over v is less than x over u, and z over t less than y over v. -/
theorem gain_trans {x y z u v t : Int} (hu : 0 < u) (hv : 0 < v) (ht : 0 < t) (h1 : y * u < x * v) (h2 : z * v < y * t) : z * u < x * t := by
  have a1 : z * v * u < y * t * u := Int.mul_lt_mul_of_pos_right h2 hu
  have a2 : y * u * t < x * v * t := Int.mul_lt_mul_of_pos_right h1 ht
  have e1 : z * v * u = z * u * v := by rw [Int.mul_assoc, Int.mul_comm v u, ← Int.mul_assoc]
  have e2 : y * t * u = y * u * t := by rw [Int.mul_assoc, Int.mul_comm t u, ← Int.mul_assoc]
  have e3 : x * v * t = x * t * v := by rw [Int.mul_assoc, Int.mul_comm v t, ← Int.mul_assoc]
  rw [e1, e2] at a1
  rw [e3] at a2
  exact Int.lt_of_mul_lt_mul_right (Int.lt_trans a1 a2) (by omega)
theorem gain_add (c : List Int) (a b d : Nat) : gainI c a d = gainI c a b + gainI c b d := by unfold gainI; omega
/-- What lies at a corner is above each line to a later size, if the step behind it is not steeper. -/
theorem more_far {c : List Int} {a q s k : Nat} (haq : a < q) (hqs : q < s) (hsk : s < k) (h1 : moreC c q a s = true) (h2 : moreC c s q k = true) : moreC c q a k = true := by
  rw [more_gain] at h1 h2 ⊢
  have h3 := gain_trans (x := gainI c a q) (y := gainI c q s) (z := gainI c s k) (u := (q : Int) - a) (v := (s : Int) - q) (t := (k : Int) - s) (by omega) (by omega) (by omega) h1 h2
  rw [gain_add c q s k, show (k : Int) - q = ((s : Int) - q) + ((k : Int) - s) by omega, Int.add_mul, Int.mul_add]
  omega
/-- What lies between two sizes at or below their line has the steeper step to the second one. -/
theorem more_under {c : List Int} {p a s k : Nat} (hpa : p < a) (has : a < s) (hsk : s < k) (h1 : above c p s a ≤ 0) (h2 : moreC c s p k = true) : moreC c s a k = true := by
  rw [more_gain] at h2 ⊢
  unfold above at h1
  have e : gainI c p s = gainI c p a + gainI c a s := gain_add c p a s
  have e1 : c.getD a 0 - c.getD p 0 = gainI c p a := rfl
  have e2 : c.getD s 0 - c.getD p 0 = gainI c p s := rfl
  rw [e1, e2] at h1
  obtain ⟨x, hx⟩ : ∃ x, x = gainI c a s := ⟨_, rfl⟩
  obtain ⟨y, hy⟩ : ∃ x, x = gainI c p s := ⟨_, rfl⟩
  obtain ⟨z, hz⟩ : ∃ x, x = gainI c s k := ⟨_, rfl⟩
  obtain ⟨P, hP⟩ : ∃ x, x = gainI c p a := ⟨_, rfl⟩
  rw [← hx, ← hy, ← hP] at e
  rw [← hy, ← hP] at h1
  rw [← hy, ← hz] at h2
  rw [← hx, ← hz]
  obtain ⟨u, hu⟩ : ∃ u : Int, u = (s : Int) - a := ⟨_, rfl⟩
  obtain ⟨v, hv⟩ : ∃ u : Int, u = (s : Int) - p := ⟨_, rfl⟩
  obtain ⟨t, ht⟩ : ∃ u : Int, u = (k : Int) - s := ⟨_, rfl⟩
  rw [← hv, ← ht] at h2
  rw [← hu, ← ht]
  have u0 : 0 < u := by omega
  have v0 : 0 < v := by omega
  have t0 : 0 < t := by omega
  rw [show (a : Int) - p = v - u by omega, ← hv, show P = y - x by omega, Int.sub_mul, Int.mul_sub] at h1
  have h3 : y * u ≤ x * v := by omega
  have a1 : z * v * u < y * t * u := Int.mul_lt_mul_of_pos_right h2 u0
  have a2 : y * u * t ≤ x * v * t := Int.mul_le_mul_of_nonneg_right h3 (by omega)
  have e1 : z * v * u = z * u * v := by rw [Int.mul_assoc, Int.mul_comm v u, ← Int.mul_assoc]
  have e2 : y * t * u = y * u * t := by rw [Int.mul_assoc, Int.mul_comm t u, ← Int.mul_assoc]
  have e3 : x * v * t = x * t * v := by rw [Int.mul_assoc, Int.mul_comm v t, ← Int.mul_assoc]
  rw [e1, e2] at a1
  rw [e3] at a2
  exact Int.lt_of_mul_lt_mul_right (Int.lt_of_lt_of_le a1 a2) (by omega)

/-- The corners of the first k sizes. -/
def cornersTo (c : List Int) (k : Nat) : List Nat := cornerL (c.take k)
theorem cornersTo_zero (c : List Int) : cornersTo c 0 = [] := rfl
theorem cornersTo_all (c : List Int) : cornersTo c c.length = cornerL c := by unfold cornersTo; rw [List.take_length]
theorem cornersTo_range (c : List Int) {k : Nat} (hk : k ≤ c.length) : cornersTo c k = (List.range k).filter (cornerB (c.take k)) := by
  unfold cornersTo cornerL; rw [List.length_take, Nat.min_eq_left hk]
theorem cornersTo_at {c : List Int} {k : Nat} (hk : k ≤ c.length) {i : Nat} (hi : i < (cornersTo c k).length) : cornerB (c.take k) ((cornersTo c k).getD i 0) = true ∧ (cornersTo c k).getD i 0 < k := by
  have h := (filt_range (cornerB (c.take k)) k).1 i
  rw [← cornersTo_range c hk] at h
  exact h hi
theorem cornersTo_next {c : List Int} {k : Nat} (hk : k ≤ c.length) {i : Nat} (hi : i + 1 < (cornersTo c k).length) : (cornersTo c k).getD i 0 < (cornersTo c k).getD (i + 1) 0 ∧ ∀ s, (cornersTo c k).getD i 0 < s → s < (cornersTo c k).getD (i + 1) 0 → cornerB (c.take k) s = false := by
  have h := (filt_range (cornerB (c.take k)) k).2.1 i
  rw [← cornersTo_range c hk] at h
  exact h hi
theorem cornersTo_rise {c : List Int} {k : Nat} (hk : k ≤ c.length) (i : Nat) : ∀ d : Nat, i + d < (cornersTo c k).length → (cornersTo c k).getD i 0 + d ≤ (cornersTo c k).getD (i + d) 0
  | 0, _ => Nat.le_refl _
  | d + 1, h => by
    have ih := cornersTo_rise hk i d (by omega)
    have := (cornersTo_next hk (i := i + d) (by omega)).1
    rw [show i + (d + 1) = i + d + 1 by omega]
    omega
theorem cornersTo_lt {c : List Int} {k : Nat} (hk : k ≤ c.length) {i j : Nat} (hij : i < j) (hj : j < (cornersTo c k).length) : (cornersTo c k).getD i 0 < (cornersTo c k).getD j 0 := by
  have := cornersTo_rise hk i (j - i) (by omega)
  rw [show i + (j - i) = j by omega] at this
  omega
theorem cornersTo_pos (c : List Int) {k : Nat} (hk : k ≤ c.length) (h0 : 1 ≤ k) : 1 ≤ (cornersTo c k).length := (corner_first (c := c.take k) (by rw [List.length_take]; omega)).1
theorem cornersTo_first (c : List Int) {k : Nat} (hk : k ≤ c.length) (h0 : 1 ≤ k) : (cornersTo c k).getD 0 0 = 0 := (corner_first (c := c.take k) (by rw [List.length_take]; omega)).2
/-- What comes last is no corner any more. -/
theorem corner_pop {c : List Int} {k n : Nat} (hk : k < c.length) (h1 : 1 < n) (hn : n ≤ (cornersTo c k).length) (h : moreC c ((cornersTo c k).getD (n - 1) 0) ((cornersTo c k).getD (n - 2) 0) k = false) : cornerB (c.take (k + 1)) ((cornersTo c k).getD (n - 1) 0) = false := by
  have hs := (cornersTo_at (c := c) (k := k) (by omega) (i := n - 1) (by omega)).2
  have hp := cornersTo_lt (c := c) (k := k) (by omega) (i := n - 2) (j := n - 1) (by omega) (by omega)
  cases hb : cornerB (c.take (k + 1)) ((cornersTo c k).getD (n - 1) 0)
  · rfl
  · have := (corner_take c (m := k + 1) (by omega) (by omega)).1 hb _ hp k hs (by omega)
    rw [h] at this; cases this
/-- What is left stays. -/
theorem corner_keep {c : List Int} {k n : Nat} (hk : k < c.length) (hn : n ≤ (cornersTo c k).length) (hstop : 1 < n → moreC c ((cornersTo c k).getD (n - 1) 0) ((cornersTo c k).getD (n - 2) 0) k = true) {j : Nat} (hj : j < n) : cornerB (c.take (k + 1)) ((cornersTo c k).getD j 0) = true := by
  obtain ⟨g1, g2⟩ := cornersTo_at (c := c) (k := k) (by omega) (i := j) (by omega)
  have g3 := (corner_take c (m := k) (by omega) g2).1 g1
  refine (corner_take c (m := k + 1) (by omega) (by omega)).2 fun a ha b hb hl => ?_
  by_cases hbk : b < k
  · exact g3 a ha b hb hbk
  · obtain rfl : b = k := by omega
    by_cases h1 : 1 < n
    · have hm := hstop h1
      obtain ⟨s1, s2⟩ := cornersTo_at (c := c) (k := b) (by omega) (i := n - 1) (by omega)
      obtain ⟨p1, p2⟩ := cornersTo_at (c := c) (k := b) (by omega) (i := n - 2) (by omega)
      have hps := cornersTo_lt (c := c) (k := b) (by omega) (i := n - 2) (j := n - 1) (by omega) (by omega)
      have hno := (cornersTo_next (c := c) (k := b) (by omega) (i := n - 2) (by omega)).2
      rw [show n - 2 + 1 = n - 1 by omega] at hno
      have p3 := (corner_take c (m := b) (by omega) p2).1 p1
      by_cases hjn : j = n - 1
      · subst hjn
        obtain ⟨s, hs⟩ : ∃ s, s = (cornersTo c b).getD (n - 1) 0 := ⟨_, rfl⟩
        obtain ⟨p, hp⟩ : ∃ s, s = (cornersTo c b).getD (n - 2) 0 := ⟨_, rfl⟩
        rw [← hs] at ha hb hm s1 s2 hps hno ⊢
        rw [← hp] at hm p1 p2 hps hno p3
        rcases Nat.lt_trichotomy a p with g | g | g
        · -- slope (p, s) is below slope (a, p): s is above the line a .. k by way of p
          have q1 := p3 a g s hps s2
          rw [more_gain] at q1 hm ⊢
          have q2 := gain_trans (x := gainI c a p) (y := gainI c p s) (z := gainI c s b) (u := (p : Int) - a) (v := (s : Int) - p) (t := (b : Int) - s) (by omega) (by omega) (by omega) q1 hm
          rw [gain_add c a p s, show (s : Int) - a = ((p : Int) - a) + ((s : Int) - p) by omega, Int.add_mul, Int.mul_add]
          omega
        · subst g; exact hm
        · refine more_under g ha hb ?_ hm
          have q := above_le (c := c.take b) (a := p) (b := s) p1 s1 hps (by rw [List.length_take]; omega) hno (s := a) (by rw [List.length_take]; omega)
          unfold above at q ⊢
          rwa [getD_takeI c (by omega), getD_takeI c (by omega), getD_takeI c (by omega)] at q
      · have hjs := cornersTo_lt (c := c) (k := b) (by omega) (i := j) (j := n - 1) (by omega) (by omega)
        have hjp : (cornersTo c b).getD j 0 ≤ (cornersTo c b).getD (n - 2) 0 := by
          by_cases e : j = n - 2
          · rw [e]; exact Nat.le_refl _
          · exact Nat.le_of_lt (cornersTo_lt (c := c) (k := b) (by omega) (i := j) (j := n - 2) (by omega) (by omega))
        obtain ⟨s, hs⟩ : ∃ s, s = (cornersTo c b).getD (n - 1) 0 := ⟨_, rfl⟩
        obtain ⟨p, hp⟩ : ∃ s, s = (cornersTo c b).getD (n - 2) 0 := ⟨_, rfl⟩
        obtain ⟨q, hq⟩ : ∃ s, s = (cornersTo c b).getD j 0 := ⟨_, rfl⟩
        rw [← hs] at hm s1 s2 hps hno hjs
        rw [← hp] at hm p1 p2 hps hno p3 hjp
        rw [← hq] at g1 g2 g3 ha hb hjs hjp ⊢
        have q1 := g3 a ha s hjs s2
        refine more_far ha hjs s2 q1 ?_
        by_cases e : q = p
        · rw [e]; exact hm
        · have q2 := p3 q (by omega) s hps s2
          rw [more_gain] at q2 hm ⊢
          have q3 := gain_trans (x := gainI c q p) (y := gainI c p s) (z := gainI c s b) (u := (p : Int) - q) (v := (s : Int) - p) (t := (b : Int) - s) (by omega) (by omega) (by omega) q2 hm
          rw [gain_add c q p s, show (s : Int) - q = ((p : Int) - q) + ((s : Int) - p) by omega, Int.add_mul, Int.mul_add]
          omega
    · obtain rfl : j = 0 := by omega
      have h0 := cornersTo_first c (k := b) (by omega) (by omega)
      rw [h0] at ha; omega
theorem filter_all {p : Nat → Bool} : ∀ l : List Nat, (∀ i, i < l.length → p (l.getD i 0) = true) → l.filter p = l
  | [], _ => rfl
  | a :: l, h => by
    have h0 := h 0 (by simp)
    rw [List.getD_cons_zero] at h0
    rw [List.filter_cons, if_pos h0, filter_all l fun i hi => by have := h (i + 1) (by simp; omega); rwa [List.getD_cons_succ] at this]
theorem filter_none {p : Nat → Bool} : ∀ l : List Nat, (∀ i, i < l.length → p (l.getD i 0) = false) → l.filter p = []
  | [], _ => rfl
  | a :: l, h => by
    have h0 := h 0 (by simp)
    rw [List.getD_cons_zero] at h0
    rw [List.filter_cons, h0, if_neg (by decide), filter_none l fun i hi => by have := h (i + 1) (by simp; omega); rwa [List.getD_cons_succ] at this]
/-- A size more. -/
theorem cornersTo_succ {c : List Int} {k n : Nat} (hk : k < c.length) (hn : n ≤ (cornersTo c k).length) (hstop : 1 < n → moreC c ((cornersTo c k).getD (n - 1) 0) ((cornersTo c k).getD (n - 2) 0) k = true)
    (hpop : ∀ j, n ≤ j → j < (cornersTo c k).length → cornerB (c.take (k + 1)) ((cornersTo c k).getD j 0) = false) : cornersTo c (k + 1) = (cornersTo c k).take n ++ [k] := by
  have hkk : cornerB (c.take (k + 1)) k = true := (corner_take c (m := k + 1) (by omega) (by omega)).2 fun a _ b h1 h2 => by omega
  rw [cornersTo_range c (by omega : k + 1 ≤ c.length), List.range_succ, List.filter_append, List.filter_cons, if_pos hkk, List.filter_nil]
  congr 1
  have h1 : (List.range k).filter (cornerB (c.take (k + 1))) = (cornersTo c k).filter (cornerB (c.take (k + 1))) := by
    rw [cornersTo_range c (by omega : k ≤ c.length), List.filter_filter]
    refine List.filter_congr fun s hs => ?_
    have hs := List.mem_range.1 hs
    cases hb : cornerB (c.take (k + 1)) s
    · rfl
    · have : cornerB (c.take k) s = true := (corner_take c (by omega) hs).2 fun a ha b h1 h2 => (corner_take c (m := k + 1) (by omega) (by omega)).1 hb a ha b h1 (by omega)
      rw [this]; rfl
  rw [h1]
  conv => lhs; rw [← List.take_append_drop n (cornersTo c k)]
  rw [List.filter_append, filter_all ((cornersTo c k).take n) fun i hi => by
      have hi2 : i < n := by rw [List.length_take] at hi; omega
      rw [show ((cornersTo c k).take n).getD i 0 = (cornersTo c k).getD i 0 by simp [List.getD, hi2]]
      exact corner_keep hk hn hstop hi2,
    filter_none ((cornersTo c k).drop n) fun i hi => by
      rw [List.length_drop] at hi
      rw [show ((cornersTo c k).drop n).getD i 0 = (cornersTo c k).getD (n + i) 0 by simp [List.getD]]
      exact hpop (n + i) (by omega) (by omega), List.append_nil]
/-- 'above', in two products and their sum. -/
theorem more_line (c : List Int) (s a b : Nat) : moreC c s a b = decide (c.getD a 0 * ((b : Int) - s) + c.getD b 0 * ((s : Int) - a) < c.getD s 0 * ((b : Int) - a)) := by
  unfold moreC
  apply decide_eq_decide.2
  obtain ⟨x, hx⟩ : ∃ x, x = c.getD a 0 := ⟨_, rfl⟩
  obtain ⟨y, hy⟩ : ∃ x, x = c.getD s 0 := ⟨_, rfl⟩
  obtain ⟨z, hz⟩ : ∃ x, x = c.getD b 0 := ⟨_, rfl⟩
  rw [← hx, ← hy, ← hz]
  have e : (b : Int) - a = ((b : Int) - s) + ((s : Int) - a) := by omega
  obtain ⟨u, hu⟩ : ∃ u : Int, u = (s : Int) - a := ⟨_, rfl⟩
  obtain ⟨v, hv⟩ : ∃ u : Int, u = (b : Int) - s := ⟨_, rfl⟩
  rw [e, ← hu, ← hv, Int.sub_mul, Int.sub_mul, Int.mul_add, Int.mul_add]
  omega

end Go.Proofs.Ytnpdffcplgjbnaa
