/-
  Plain: the best shares, number by number from the last curve on. No program is spoken of here.
-/
import Derived.Test.YtnpdffcplgjbnaaSolveBestN
namespace Go.Proofs.Ytnpdffcplgjbnaa
open Go.RowKit

/-- The last of the greatest, of f 0 .. f k. -/
def lastG (f : Nat → Int) : Nat → Nat
  | 0 => 0
  | k + 1 => if f (lastG f k) ≤ f (k + 1) then k + 1 else lastG f k
theorem lastG_le (f : Nat → Int) : ∀ k, lastG f k ≤ k
  | 0 => Nat.le_refl _
  | k + 1 => by
    have := lastG_le f k
    unfold lastG
    split <;> omega
theorem lastG_max (f : Nat → Int) : ∀ k i, i ≤ k → f i ≤ f (lastG f k)
  | 0, i, h => by rw [show i = 0 by omega]; exact Int.le_refl _
  | k + 1, i, h => by
    unfold lastG
    by_cases hk : f (lastG f k) ≤ f (k + 1)
    · rw [if_pos hk]
      by_cases hi : i = k + 1
      · rw [hi]; exact Int.le_refl _
      · have := lastG_max f k i (by omega); omega
    · rw [if_neg hk]
      by_cases hi : i = k + 1
      · rw [hi]; omega
      · exact lastG_max f k i (by omega)
theorem lastG_last (f : Nat → Int) : ∀ k i, lastG f k < i → i ≤ k → f i < f (lastG f k)
  | 0, i, h, h2 => by omega
  | k + 1, i, h, h2 => by
    unfold lastG at h ⊢
    by_cases hk : f (lastG f k) ≤ f (k + 1)
    · rw [if_pos hk] at h; omega
    · rw [if_neg hk] at h ⊢
      by_cases hi : i = k + 1
      · rw [hi]; omega
      · exact lastG_last f k i h (by omega)
theorem lastG_top {f : Nat → Int} {k : Nat} (h : ∀ i, i ≤ k → f i ≤ f k) : lastG f k = k := by
  by_cases g : lastG f k < k
  · have h1 := lastG_last f k k g (Nat.le_refl _)
    have h2 := h (lastG f k) (lastG_le f k)
    omega
  · have := lastG_le f k; omega
theorem bestG_congr {g g' : Nat → Int} : ∀ k, (∀ i, i ≤ k → g i = g' i) → bestG g k = bestG g' k
  | 0, _ => rfl
  | k + 1, h => by
    have ih := bestG_congr k fun i hi => h i (by omega)
    have hb := bestG_le g' k
    unfold bestG
    rw [ih, h (k + 1) (Nat.le_refl _), h (bestG g' k) (by omega)]
theorem bestG_back (f : Nat → Int) (k : Nat) : bestG (fun j => f (k - j)) k = k - lastG f k := by
  have h1 := lastG_le f k
  have h2 := bestG_le (fun j => f (k - j)) k
  obtain ⟨b, hb⟩ : ∃ b, b = bestG (fun j => f (k - j)) k := ⟨_, rfl⟩
  have m1 : ∀ i, i ≤ k → f (k - i) ≤ f (k - b) := fun i hi => by rw [hb]; exact bestG_max (fun j => f (k - j)) k i hi
  have m2 : ∀ i, i < b → f (k - i) < f (k - b) := fun i hi => by rw [hb] at hi ⊢; exact bestG_first (fun j => f (k - j)) k i hi
  rw [← hb] at h2 ⊢
  rcases Nat.lt_trichotomy b (k - lastG f k) with g | g | g
  · have h3 := lastG_last f k (k - b) (by omega) (by omega)
    have h4 := m1 (k - lastG f k) (by omega)
    rw [show k - (k - lastG f k) = lastG f k by omega] at h4
    omega
  · exact g
  · have h3 := m2 (k - lastG f k) g
    have h4 := lastG_max f k (k - b) (by omega)
    rw [show k - (k - lastG f k) = lastG f k by omega] at h3
    omega

/-! ### As it is found, round by round -/
/-- What is best, and where, of f 0 .. f (j - 1), all not below 0. -/
def VB (f : Nat → Int) (j : Nat) : Int := if j = 0 then 0 else f (lastG f (j - 1))
def VT (f : Nat → Int) (j : Nat) : Int := (lastG f (j - 1) : Nat)
theorem VB_yes {f : Nat → Int} {j : Nat} (h : VB f j ≤ f j) : VB f (j + 1) = f j ∧ VT f (j + 1) = (j : Int) := by
  unfold VB VT at *
  rw [if_neg (by omega), Nat.add_sub_cancel]
  cases j with
  | zero => exact ⟨rfl, rfl⟩
  | succ j =>
    rw [if_neg (by omega), Nat.add_sub_cancel] at h
    unfold lastG
    rw [if_pos h]
    exact ⟨rfl, rfl⟩
theorem VB_no {f : Nat → Int} {j : Nat} (h0 : 0 ≤ f 0) (h : ¬ VB f j ≤ f j) : VB f (j + 1) = VB f j ∧ VT f (j + 1) = VT f j := by
  unfold VB VT at *
  cases j with
  | zero => rw [if_pos rfl] at h; omega
  | succ j =>
    rw [if_neg (by omega), Nat.add_sub_cancel] at h
    rw [if_neg (by omega), if_neg (by omega), Nat.add_sub_cancel, Nat.add_sub_cancel]
    have e : lastG f (j + 1) = lastG f j := by
      show (if f (lastG f j) ≤ f (j + 1) then j + 1 else lastG f j) = _
      rw [if_neg h]
    rw [e]; exact ⟨rfl, rfl⟩
theorem VB_bounds {f : Nat → Int} {k : Nat} {B : Int} (hB : 0 ≤ B) (h : ∀ i, i ≤ k → 0 ≤ f i ∧ f i ≤ B) {j : Nat} (hj : j ≤ k + 1) : 0 ≤ VB f j ∧ VB f j ≤ B := by
  unfold VB
  split
  · exact ⟨Int.le_refl _, hB⟩
  · have := lastG_le f (j - 1)
    exact h _ (by omega)
/-- Rows that are being filled: whole ahead of k, at k as far as j. -/
def PB (V : (Nat → Int) → Nat → Int) (f : Nat → Nat → Int) (K k j : Nat) : List Int := (List.range K).map fun i => if i < k then V (f i) (i + 1) else if i = k then V (f k) j else 0
theorem PB_len (V : (Nat → Int) → Nat → Int) (f : Nat → Nat → Int) (K k j : Nat) : (PB V f K k j).length = K := by simp [PB]
theorem PB_at (V : (Nat → Int) → Nat → Int) (f : Nat → Nat → Int) {K k : Nat} (j : Nat) (hk : k < K) : (PB V f K k j).getD k 0 = V (f k) j := by
  simp [PB, List.getD, hk]
theorem PB_set (V : (Nat → Int) → Nat → Int) (f : Nat → Nat → Int) (K k j : Nat) : (PB V f K k j).set k (V (f k) (j + 1)) = PB V f K k (j + 1) := by
  refine List.ext_getElem (by simp [PB]) fun i h1 h2 => ?_
  rw [List.getElem_set]
  simp only [PB, List.getElem_map, List.getElem_range]
  by_cases h : k = i
  · subst h; rw [if_pos rfl, if_neg (by omega), if_pos rfl]
  · rw [if_neg h]
    split
    · rfl
    · rw [if_neg (by omega), if_neg (by omega)]
theorem PB_same {V : (Nat → Int) → Nat → Int} {f : Nat → Nat → Int} {K k j : Nat} (h : V (f k) (j + 1) = V (f k) j) : PB V f K k (j + 1) = PB V f K k j := by
  unfold PB
  rw [h]
theorem PB_next {V : (Nat → Int) → Nat → Int} (f : Nat → Nat → Int) (K k : Nat) (h0 : ∀ g, V g 0 = 0) : PB V f K k (k + 1) = PB V f K (k + 1) 0 := by
  refine List.ext_getElem (by simp [PB]) fun i h1 h2 => ?_
  simp only [PB, List.getElem_map, List.getElem_range]
  rcases Nat.lt_trichotomy i k with g | g | g
  · rw [if_pos g, if_pos (by omega)]
  · subst g; rw [if_neg (by omega), if_pos rfl, if_pos (by omega)]
  · rw [if_neg (by omega), if_neg (by omega), if_neg (by omega)]
    by_cases g2 : i = k + 1
    · rw [if_pos g2, h0]
    · rw [if_neg g2]
theorem PB_none {V : (Nat → Int) → Nat → Int} (f : Nat → Nat → Int) (K : Nat) (h0 : ∀ g, V g 0 = 0) : PB V f K 0 0 = List.replicate K 0 := by
  refine List.ext_getElem (by simp [PB]) fun i h1 h2 => ?_
  simp only [PB, List.getElem_map, List.getElem_range, List.getElem_replicate]
  rw [if_neg (by omega)]
  split
  · exact h0 _
  · rfl
theorem VB_zero (g : Nat → Int) : VB g 0 = 0 := rfl
theorem VT_zero (g : Nat → Int) : VT g 0 = 0 := rfl

/-! ### A curve and those behind it -/
def aheadF (c : List Int) (l : Int) (b : List Int) (left n : Nat) : Int := atN c (l + n) + b.getD (left - n) 0
def aheadB (c : List Int) (l : Int) (b : List Int) : List Int := PB VB (aheadF c l b) b.length b.length 0
def aheadT (c : List Int) (l : Int) (b : List Int) : List Int := PB VT (aheadF c l b) b.length b.length 0
theorem aheadB_len (c : List Int) (l : Int) (b : List Int) : (aheadB c l b).length = b.length := PB_len ..
theorem aheadT_len (c : List Int) (l : Int) (b : List Int) : (aheadT c l b).length = b.length := PB_len ..
theorem aheadB_at (c : List Int) (l : Int) (b : List Int) {i : Nat} (h : i < b.length) : (aheadB c l b).getD i 0 = aheadF c l b i (lastG (aheadF c l b i) i) := by
  simp [aheadB, PB, List.getD, h, VB]
theorem aheadT_at (c : List Int) (l : Int) (b : List Int) {i : Nat} (h : i < b.length) : (aheadT c l b).getD i 0 = (lastG (aheadF c l b i) i : Nat) := by
  simp [aheadT, PB, List.getD, h, VT]
def bringsOf : List Int → List (List Int) → Nat → List Int
  | l :: ls, c :: cs, K => aheadB c l (bringsOf ls cs K)
  | _, _, K => List.replicate K 0
def takesOf : List Int → List (List Int) → Nat → List (List Int)
  | l :: ls, c :: cs, K => aheadT c l (bringsOf ls cs K) :: takesOf ls cs K
  | _, _, _ => []
theorem bringsOf_len : ∀ (ls : List Int) (cs : List (List Int)) (K : Nat), (bringsOf ls cs K).length = K
  | [], _, K => by simp [bringsOf]
  | _ :: _, [], K => by simp [bringsOf]
  | l :: ls, c :: cs, K => by
    show (aheadB c l (bringsOf ls cs K)).length = K
    rw [aheadB_len, bringsOf_len]
/-- The shares, as they are taken. -/
def walkT : List Int → List (List Int) → Nat → List Int
  | l :: ls, t :: ts, left => (l + t.getD left 0) :: walkT ls ts (left - (t.getD left 0).toNat)
  | _, _, _ => []
theorem atN_mono {c : List Int} (h : soundL c = true) {x y : Int} (h0 : 0 ≤ x) (hxy : x ≤ y) : atN c x ≤ atN c y := by
  have hl := ((soundL_iff c).1 h).1
  unfold atN
  rw [if_neg (show ¬ (c.length = 0 ∨ x < 0) by omega), if_neg (show ¬ (c.length = 0 ∨ y < 0) by omega)]
  by_cases h1 : (c.length : Int) ≤ x
  · rw [if_pos h1, if_pos (show (c.length : Int) ≤ y by omega)]; exact Int.le_refl _
  · rw [if_neg h1]
    by_cases h2 : (c.length : Int) ≤ y
    · rw [if_pos h2]; exact sound_le h (by omega) (by omega)
    · rw [if_neg h2]; exact sound_le h (by omega) (by omega)

/-- What is found is the best. -/
theorem plan_best : ∀ (cs : List (List Int)) (ls : List Int) (K : Nat), ls.length = cs.length → 1 ≤ cs.length → (∀ z ∈ ls, 0 ≤ z) → (∀ c ∈ cs, soundL c = true) → ∀ left, left < K →
    (bringsOf ls cs K).getD left 0 = (bestR ls cs (ls.sum + (left : Int))).2 ∧ walkT ls (takesOf ls cs K) left = (bestR ls cs (ls.sum + (left : Int))).1
  | [], _, _, _, h, _, _, _, _ => absurd h (by simp)
  | [c], ls, K, hlen, _, hz, hs, left, hK => by
    match ls, hlen, hz with
    | [], hlen, _ => exact absurd hlen (by simp)
    | _ :: _ :: _, hlen, _ => exact absurd hlen (by simp)
    | [l], _, hz =>
      have hl : 0 ≤ l := hz l (by simp)
      have hc := hs c (by simp)
      have hlast : lastG (aheadF c l (List.replicate K 0) left) left = left := lastG_top fun i hi => by
        unfold aheadF
        have := atN_mono hc (x := l + i) (y := l + left) (by omega) (by omega)
        simp only [List.getD_eq_getElem?_getD, List.getElem?_replicate]
        rw [if_pos (by omega), if_pos (by omega)]
        simp only [Option.getD_some]
        omega
      have hr : bestR [l] [c] ([l].sum + (left : Int)) = ([l + left], atN c (l + left)) := by simp [bestR]
      rw [hr]
      have e1 : bringsOf [l] [c] K = aheadB c l (List.replicate K 0) := by show aheadB c l (bringsOf [] [] K) = _; rfl
      have e2 : takesOf [l] [c] K = [aheadT c l (List.replicate K 0)] := by show aheadT c l (bringsOf [] [] K) :: takesOf [] [] K = _; rfl
      rw [e1, e2]
      have hb := aheadB_at c l (List.replicate K 0) (i := left) (by simpa using hK)
      have ht := aheadT_at c l (List.replicate K 0) (i := left) (by simpa using hK)
      rw [hlast] at hb ht
      refine ⟨?_, ?_⟩
      · rw [hb]
        unfold aheadF
        simp only [List.getD_eq_getElem?_getD, List.getElem?_replicate]
        rw [if_pos (by omega)]
        simp
      · show (l + (aheadT c l (List.replicate K 0)).getD left 0) :: walkT [] [] _ = _
        rw [ht]; rfl
  | c :: c2 :: cs, ls, K, hlen, _, hz, hs, left, hK => by
    match ls, hlen, hz with
    | [], hlen, _ => exact absurd hlen (by simp)
    | l :: ls, hlen, hz =>
      have hlen2 : ls.length = (c2 :: cs).length := by simpa using hlen
      have hz2 : ∀ z ∈ ls, 0 ≤ z := fun z hzz => hz z (List.mem_cons_of_mem _ hzz)
      have hs2 : ∀ c ∈ c2 :: cs, soundL c = true := fun c hc => hs c (List.mem_cons_of_mem _ hc)
      have IH := plan_best (c2 :: cs) ls K hlen2 (by simp) hz2 hs2
      obtain ⟨b, hb⟩ : ∃ b, b = bringsOf ls (c2 :: cs) K := ⟨_, rfl⟩
      have hbl : b.length = K := by rw [hb]; exact bringsOf_len _ _ _
      have e1 : bringsOf (l :: ls) (c :: c2 :: cs) K = aheadB c l b := by rw [hb]; rfl
      have e2 : takesOf (l :: ls) (c :: c2 :: cs) K = aheadT c l b :: takesOf ls (c2 :: cs) K := by rw [hb]; rfl
      rw [← hb] at IH
      rw [e1, e2]
      have hB := aheadB_at c l b (i := left) (by omega)
      have hT := aheadT_at c l b (i := left) (by omega)
      obtain ⟨m, hm⟩ : ∃ m, m = lastG (aheadF c l b left) left := ⟨_, rfl⟩
      have hml : m ≤ left := by rw [hm]; exact lastG_le _ _
      rw [← hm] at hB hT
      obtain ⟨S, hS⟩ : ∃ S, S = ls.sum := ⟨_, rfl⟩
      have hsum : (l :: ls).sum + (left : Int) = l + S + left := by rw [List.sum_cons, hS]
      rw [hsum]
      have hj : bestG (fun j => atN c (l + S + left - S - (j : Int)) + (bestR ls (c2 :: cs) (l + S + left - (l + S + left - S - (j : Int)))).2) (l + S + left - S - l).toNat = left - m := by
        rw [show (l + S + left - S - l).toNat = left by omega, hm, ← bestG_back (aheadF c l b left) left]
        refine bestG_congr left fun j hj => ?_
        show _ = aheadF c l b left (left - j)
        unfold aheadF
        have h3 := (IH j (by omega)).1
        rw [← hS] at h3
        rw [show left - (left - j) = j by omega, h3, show l + S + (left : Int) - S - (j : Int) = l + ((left - j : Nat) : Int) by omega, show l + S + (left : Int) - (l + ((left - j : Nat) : Int)) = S + (j : Int) by omega]
      have hr : bestR (l :: ls) (c :: c2 :: cs) (l + S + left) = ((l + (m : Int)) :: (bestR ls (c2 :: cs) (S + ((left - m : Nat) : Int))).1, atN c (l + (m : Int)) + (bestR ls (c2 :: cs) (S + ((left - m : Nat) : Int))).2) := by
        have e : bestR (l :: ls) (c :: c2 :: cs) (l + S + left) = (fun J : Nat => ((l + S + left - S - (J : Int)) :: (bestR ls (c2 :: cs) (l + S + left - (l + S + left - S - (J : Int)))).1, atN c (l + S + left - S - (J : Int)) + (bestR ls (c2 :: cs) (l + S + left - (l + S + left - S - (J : Int)))).2)) (bestG (fun j => atN c (l + S + left - S - (j : Int)) + (bestR ls (c2 :: cs) (l + S + left - (l + S + left - S - (j : Int)))).2) (l + S + left - S - l).toNat) := by
          rw [hS]; rfl
        rw [e, hj]
        simp only []
        rw [show l + S + (left : Int) - S - ((left - m : Nat) : Int) = l + (m : Int) by omega, show l + S + (left : Int) - (l + (m : Int)) = S + ((left - m : Nat) : Int) by omega]
      rw [hr]
      have h5 := IH (left - m) (by omega)
      rw [← hS] at h5
      refine ⟨?_, ?_⟩
      · rw [hB]
        show atN c (l + (m : Int)) + b.getD (left - m) 0 = _
        rw [h5.1]
      · show (l + (aheadT c l b).getD left 0) :: walkT ls (takesOf ls (c2 :: cs) K) (left - ((aheadT c l b).getD left 0).toNat) = _
        rw [hT, Int.toNat_natCast, h5.2]

/-! ### The shares, place by place -/
def leftAt (ts : List (List Int)) (K : Nat) : Nat → Nat
  | 0 => K
  | i + 1 => leftAt ts K i - ((ts.getD i []).getD (leftAt ts K i) 0).toNat
def shareAt (ls : List Int) (ts : List (List Int)) (K i : Nat) : List Int := (List.range ls.length).map fun j => if j < i then ls.getD j 0 + (ts.getD j []).getD (leftAt ts K j) 0 else ls.getD j 0
theorem leftAt_cons (t : List Int) (ts : List (List Int)) (K : Nat) : ∀ i, leftAt (t :: ts) K (i + 1) = leftAt ts (K - (t.getD K 0).toNat) i
  | 0 => rfl
  | i + 1 => by
    have ih := leftAt_cons t ts K i
    show leftAt (t :: ts) K (i + 1) - (((t :: ts).getD (i + 1) []).getD (leftAt (t :: ts) K (i + 1)) 0).toNat = _
    rw [ih]; rfl
theorem walk_share : ∀ (ls : List Int) (ts : List (List Int)) (K : Nat), ls.length = ts.length → walkT ls ts K = shareAt ls ts K ls.length
  | [], [], _, _ => rfl
  | l :: ls, t :: ts, K, h => by
    have ih := walk_share ls ts (K - (t.getD K 0).toNat) (by simpa using h)
    show (l + t.getD K 0) :: walkT ls ts (K - (t.getD K 0).toNat) = _
    rw [ih]
    unfold shareAt
    rw [List.length_cons, List.range_succ_eq_map, List.map_cons, List.map_map]
    refine congr (congrArg _ ?_) ?_
    · rw [if_pos (by omega)]; rfl
    · refine List.map_congr_left fun j hj => ?_
      have hj2 := List.mem_range.1 hj
      simp only [Function.comp]
      rw [if_pos hj2, if_pos (by omega), Nat.succ_eq_add_one, leftAt_cons]
      rfl
theorem shareAt_zero (ls : List Int) (ts : List (List Int)) (K : Nat) : shareAt ls ts K 0 = ls := by
  refine List.ext_getElem (by simp [shareAt]) fun i h1 h2 => ?_
  simp only [shareAt, List.getElem_map, List.getElem_range]
  rw [if_neg (by omega)]
  simp [List.getD, h2]
theorem shareAt_len (ls : List Int) (ts : List (List Int)) (K i : Nat) : (shareAt ls ts K i).length = ls.length := by simp [shareAt]
theorem shareAt_get (ls : List Int) (ts : List (List Int)) (K : Nat) {i : Nat} (h : i < ls.length) : (shareAt ls ts K i).getD i 0 = ls.getD i 0 := by
  simp [shareAt, List.getD, h]
theorem shareAt_next (ls : List Int) (ts : List (List Int)) (K i : Nat) : (shareAt ls ts K i).set i (ls.getD i 0 + (ts.getD i []).getD (leftAt ts K i) 0) = shareAt ls ts K (i + 1) := by
  refine List.ext_getElem (by simp [shareAt]) fun j h1 h2 => ?_
  rw [List.getElem_set]
  simp only [shareAt, List.getElem_map, List.getElem_range]
  rcases Nat.lt_trichotomy j i with g | g | g
  · rw [if_neg (by omega), if_pos g, if_pos (by omega)]
  · subst g; rw [if_pos rfl, if_pos (by omega)]
  · rw [if_neg (by omega), if_neg (by omega), if_neg (by omega)]

/-! ### Bounds -/
theorem aheadF_bounds {c : List Int} (hc : soundL c = true) (l : Int) {b : List Int} {B : Int} (h : ∀ i, i < b.length → 0 ≤ b.getD i 0 ∧ b.getD i 0 ≤ B) {left n : Nat} (h1 : left < b.length) : 0 ≤ aheadF c l b left n ∧ aheadF c l b left n ≤ 4503599627370496 + B := by
  unfold aheadF
  have h2 := atN_bounds hc (l + n)
  have h3 := h (left - n) (by omega)
  omega
theorem bringsOf_bounds : ∀ (cs : List (List Int)) (ls : List Int) (K : Nat), (∀ c ∈ cs, soundL c = true) → ∀ i, i < K → 0 ≤ (bringsOf ls cs K).getD i 0 ∧ (bringsOf ls cs K).getD i 0 ≤ 4503599627370496 * (cs.length : Int)
  | [], ls, K, _, i, hi => by
    have e : bringsOf ls [] K = List.replicate K 0 := by cases ls <;> rfl
    rw [e]
    simp [List.getD_eq_getElem?_getD, hi]
  | c :: cs, [], K, _, i, hi => by
    have e : bringsOf [] (c :: cs) K = List.replicate K 0 := rfl
    rw [e]
    simp only [List.getD_eq_getElem?_getD, List.getElem?_replicate, hi, if_true, Option.getD_some, List.length_cons]
    omega
  | c :: cs, l :: ls, K, hs, i, hi => by
    have ih := bringsOf_bounds cs ls K fun c hc => hs c (List.mem_cons_of_mem _ hc)
    have hl := bringsOf_len ls cs K
    show 0 ≤ (aheadB c l (bringsOf ls cs K)).getD i 0 ∧ (aheadB c l (bringsOf ls cs K)).getD i 0 ≤ _
    rw [aheadB_at c l _ (by omega)]
    have := aheadF_bounds (hs c (List.mem_cons_self ..)) l (b := bringsOf ls cs K) (fun j hj => ih j (by omega)) (left := i) (n := lastG (aheadF c l (bringsOf ls cs K) i) i) (by omega)
    rw [List.length_cons]
    omega
theorem aheadT_bounds (c : List Int) (l : Int) (b : List Int) {i : Nat} (h : i < b.length) : 0 ≤ (aheadT c l b).getD i 0 ∧ (aheadT c l b).getD i 0 ≤ (i : Int) := by
  rw [aheadT_at c l b h]
  have := lastG_le (aheadF c l b i) i
  omega

end Go.Proofs.Ytnpdffcplgjbnaa
