/-
  Plain: the best shares, by trying all. No program is spoken of here.
-/
import Derived.Test.YtnpdffcplgjbnaaSolveSum
namespace Go.Proofs.Ytnpdffcplgjbnaa
open Go.RowKit

/-- What shares bring, curve by curve. -/
def bringL : List (List Int) → List Int → Int
  | c :: cs, x :: xs => atN c x + bringL cs xs
  | _, _ => 0
/-- The best shares: the first has as much as it can, then the second, and so on. -/
def bestR : List Int → List (List Int) → Int → List Int × Int
  | l :: ls, c :: c2 :: cs, t =>
    let j := bestG (fun j => atN c (t - ls.sum - (j : Int)) + (bestR ls (c2 :: cs) (t - (t - ls.sum - (j : Int)))).2) (t - ls.sum - l).toNat
    let r := bestR ls (c2 :: cs) (t - (t - ls.sum - (j : Int)))
    ((t - ls.sum - (j : Int)) :: r.1, atN c (t - ls.sum - (j : Int)) + r.2)
  | _, [c], t => ([t], atN c t)
  | _, _, _ => ([], 0)

/-- What may be shared. -/
structure May (ls : List Int) (cs : List (List Int)) (t : Int) : Prop where
  len : ls.length = cs.length
  pos : 1 ≤ cs.length
  low : ∀ z ∈ ls, 0 ≤ z
  sum : ls.sum ≤ t
  sound : ∀ c ∈ cs, soundL c = true
/-- Shares that may be. -/
structure Shares (ls : List Int) (t : Int) (xs : List Int) : Prop where
  len : xs.length = ls.length
  sum : xs.sum = t
  low : ∀ i, i < ls.length → ls.getD i 0 ≤ xs.getD i 0
theorem sum_nonneg : ∀ {l : List Int}, (∀ z ∈ l, 0 ≤ z) → 0 ≤ l.sum
  | [], _ => Int.le_refl _
  | x :: xs, h => by
    have := sum_nonneg (l := xs) fun z hz => h z (List.mem_cons_of_mem _ hz)
    have := h x (List.mem_cons_self ..)
    rw [List.sum_cons]; omega
theorem sum_le_of : ∀ {l x : List Int}, x.length = l.length → (∀ i, i < l.length → l.getD i 0 ≤ x.getD i 0) → l.sum ≤ x.sum
  | [], [], _, _ => Int.le_refl _
  | a :: l, b :: x, hl, h => by
    have h1 := sum_le_of (l := l) (x := x) (by simpa using hl) fun i hi => by simpa using h (i + 1) (by simpa using hi)
    have h2 : a ≤ b := by simpa using h 0 (by simp)
    rw [List.sum_cons, List.sum_cons]; omega
theorem Shares.cons {l t x : Int} {ls xs : List Int} (h1 : l ≤ x) (h2 : Shares ls (t - x) xs) : Shares (l :: ls) t (x :: xs) := ⟨by simp [h2.len], by rw [List.sum_cons, h2.sum]; omega, fun i hi => by
  cases i with
  | zero => simpa using h1
  | succ i => simpa using h2.low i (by simpa using hi)⟩
theorem May.tail {l t x : Int} {ls : List Int} {c c2 : List Int} {cs : List (List Int)} (h : May (l :: ls) (c :: c2 :: cs) t) (hx : x ≤ t - ls.sum) : May ls (c2 :: cs) (t - x) :=
  ⟨by simpa using h.len, by simp, fun z hz => h.low z (List.mem_cons_of_mem _ hz), by omega, fun c hc => h.sound c (List.mem_cons_of_mem _ hc)⟩

theorem bestR_spec : ∀ (cs : List (List Int)) (ls : List Int) (t : Int), May ls cs t → Shares ls t (bestR ls cs t).1 ∧ (bestR ls cs t).2 = bringL cs (bestR ls cs t).1 ∧ 0 ≤ (bestR ls cs t).2 ∧ ∀ ys, Shares ls t ys → bringL cs ys ≤ (bestR ls cs t).2
  | [], ls, t, h => absurd h.pos (by simp)
  | [c], ls, t, h => by
    have hc := h.sound c (by simp)
    match ls, h with
    | [], h => exact absurd h.len (by simp)
    | l :: l2 :: ls, h => exact absurd h.len (by simp)
    | [l], h =>
      have hs := h.sum
      simp at hs
      have hr : bestR [l] [c] t = ([t], atN c t) := by simp [bestR]
      rw [hr]
      refine ⟨⟨rfl, by simp, fun i hi => by simp at hi; subst hi; simpa using hs⟩, by simp [bringL], (atN_bounds hc t).1, fun ys hy => ?_⟩
      match ys, hy with
      | [], hy => exact absurd hy.len (by simp)
      | y :: y2 :: ys, hy => exact absurd hy.len (by simp)
      | [y], hy =>
        have := hy.sum
        simp at this
        subst this
        simp [bringL]
  | c :: c2 :: cs, ls, t, h => by
    have hc := h.sound c (by simp)
    match ls, h with
    | [], h => exact absurd h.len (by simp)
    | l :: ls, h =>
      have hsum := h.sum
      rw [List.sum_cons] at hsum
      obtain ⟨hi, hhi⟩ : ∃ hi, hi = t - ls.sum := ⟨_, rfl⟩
      obtain ⟨g, hg⟩ : ∃ g : Nat → Int, g = fun j : Nat => atN c (hi - (j : Int)) + (bestR ls (c2 :: cs) (t - (hi - (j : Int)))).2 := ⟨_, rfl⟩
      obtain ⟨k, hk⟩ : ∃ k, k = (hi - l).toNat := ⟨_, rfl⟩
      obtain ⟨j, hj⟩ : ∃ j, j = bestG g k := ⟨_, rfl⟩
      have hr : bestR (l :: ls) (c :: c2 :: cs) t = ((hi - (j : Int)) :: (bestR ls (c2 :: cs) (t - (hi - (j : Int)))).1, atN c (hi - (j : Int)) + (bestR ls (c2 :: cs) (t - (hi - (j : Int)))).2) := by
        rw [hj, hk, hg, hhi]; rfl
      rw [hr]
      have hjk : j ≤ k := by rw [hj]; exact bestG_le g k
      have hm := h.tail (x := hi - (j : Int)) (by omega)
      obtain ⟨q1, q2, q3, _⟩ := bestR_spec (c2 :: cs) ls (t - (hi - (j : Int))) hm
      have hb := (atN_bounds hc (hi - (j : Int))).1
      refine ⟨Shares.cons (by omega) q1, ?_, ?_, ?_⟩
      · show atN c (hi - (j : Int)) + _ = atN c (hi - (j : Int)) + bringL (c2 :: cs) _
        rw [q2]
      · show 0 ≤ atN c (hi - (j : Int)) + _
        omega
      intro ys hy
      match ys, hy with
      | [], hy => exact absurd hy.len (by simp)
      | y :: ys, hy =>
        have hys := hy.sum
        rw [List.sum_cons] at hys
        have hlen : ys.length = ls.length := by simpa using hy.len
        have hlow : ∀ i, i < ls.length → ls.getD i 0 ≤ ys.getD i 0 := fun i hi => by simpa using hy.low (i + 1) (by simpa using hi)
        have hly : l ≤ y := by simpa using hy.low 0 (by simp)
        have hle := sum_le_of hlen hlow
        obtain ⟨i, hiy⟩ : ∃ i : Nat, y = hi - (i : Int) := ⟨(hi - y).toNat, by omega⟩
        have hik : i ≤ k := by omega
        have hm2 := h.tail (x := hi - (i : Int)) (by omega)
        obtain ⟨_, _, _, q4⟩ := bestR_spec (c2 :: cs) ls (t - (hi - (i : Int))) hm2
        have h5 := q4 ys ⟨hlen, by omega, hlow⟩
        have h6 := bestG_max g k i hik
        rw [← hj, hg] at h6
        show atN c y + bringL (c2 :: cs) ys ≤ atN c (hi - (j : Int)) + _
        have h7 : atN c (hi - (i : Int)) + (bestR ls (c2 :: cs) (t - (hi - (i : Int)))).2 ≤ atN c (hi - (j : Int)) + (bestR ls (c2 :: cs) (t - (hi - (j : Int)))).2 := h6
        rw [hiy]
        omega

theorem sumZ_shift (f : Nat → Int) : ∀ n : Nat, sumZ f (n + 1) = f 0 + sumZ (fun i => f (i + 1)) n
  | 0 => by simp [sumZ]
  | n + 1 => by
    have := sumZ_shift f n
    show sumZ f (n + 1) + f (n + 1) = f 0 + (sumZ (fun i => f (i + 1)) n + f (n + 1))
    omega
theorem bringL_sum : ∀ (cs : List (List Int)) (xs : List Int), xs.length = cs.length → bringL cs xs = sumZ (bring cs xs) cs.length
  | [], [], _ => rfl
  | c :: cs, x :: xs, h => by
    have ih := bringL_sum cs xs (by simpa using h)
    rw [List.length_cons, sumZ_shift]
    show atN c x + bringL cs xs = _
    rw [ih]
    rfl

end Go.Proofs.Ytnpdffcplgjbnaa
