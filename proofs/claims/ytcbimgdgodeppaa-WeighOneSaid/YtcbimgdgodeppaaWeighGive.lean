/-
  What is given one by one to the greatest rests goes to the first places of their order. No program is spoken of here.
-/
import Derived.Test.YtcbimgdgodeppaaSortN
import Derived.Test.YtcbimgdgodeppaaWeighShare
namespace Go.Proofs.Ytcbimgdgodeppaa

/-- The first of the greatest: none ahead of it is as great. -/
theorem bestTo_first (rs : List Int) : ∀ k i, i < bestTo rs k → rs.getD i 0 < rs.getD (bestTo rs k) 0
  | 0, i, h => by unfold bestTo at h; omega
  | k + 1, i, h => by
    simp only [bestTo] at h ⊢
    by_cases hg : rs.getD (k + 1) 0 > rs.getD (bestTo rs k) 0
    · rw [if_pos hg] at h ⊢
      have := bestTo_max rs k i (by omega)
      omega
    · rw [if_neg hg] at h ⊢
      exact bestTo_first rs k i h
theorem bestTo_is {rs : List Int} {k b : Nat} (hb : b ≤ k) (h1 : ∀ i, i ≤ k → rs.getD i 0 ≤ rs.getD b 0) (h2 : ∀ i, i < b → rs.getD i 0 < rs.getD b 0) : bestTo rs k = b := by
  have a := bestTo_le rs k
  have m := bestTo_max rs k b hb
  have n := h1 _ a
  rcases Nat.lt_trichotomy (bestTo rs k) b with g | g | g
  · have := h2 _ g; omega
  · exact g
  · have := bestTo_first rs k b g; omega

/-- One more for each of the first k places of an order. -/
def addO (o q : List Int) : Nat → List Int
  | 0 => q
  | k + 1 => (addO o q k).set (o.getD k 0).toNat ((addO o q k).getD (o.getD k 0).toNat 0 + 1)
theorem addO_len (o q : List Int) : ∀ k, (addO o q k).length = q.length
  | 0 => rfl
  | k + 1 => by rw [addO, List.length_set, addO_len o q k]
theorem ord_mem {r : List Int} {n i : Nat} (h : i < n) : (i : Int) ∈ srtI r 0 n := (srtI_perm r (Nat.zero_le n)).symm.subset (runI_mem.2 ⟨i, rfl, by omega, h⟩)
theorem ord_at {r : List Int} {n k : Nat} (h : k < n) : ∃ b : Nat, (srtI r 0 n).getD k 0 = b ∧ b < n := by
  have hl := srtI_len r (Nat.zero_le n)
  have hm : (srtI r 0 n).getD k 0 ∈ srtI r 0 n := by simp [List.getD_eq_getElem?_getD, show k < (srtI r 0 n).length by omega]
  obtain ⟨b, hb, _, h2⟩ := runI_mem.1 ((srtI_perm r (Nat.zero_le n)).subset hm)
  exact ⟨b, hb, h2⟩
theorem give_step {q r : List Int} (h0 : ∀ i, i < r.length → 0 ≤ r.getD i 0) (k : Nat) (hk : k < r.length) (hI : ∀ i : Nat, i < r.length → (giveTo q r k).2.getD i 0 = if (i : Int) ∈ (srtI r 0 r.length).take k then -1 else r.getD i 0) :
    bestTo (giveTo q r k).2 (r.length - 1) = ((srtI r 0 r.length).getD k 0).toNat ∧ ∀ i : Nat, i < r.length → (giveTo q r (k + 1)).2.getD i 0 = if (i : Int) ∈ (srtI r 0 r.length).take (k + 1) then -1 else r.getD i 0 := by
  obtain ⟨b, hb, hbn⟩ := ord_at (r := r) hk
  have hl := srtI_len r (Nat.zero_le r.length)
  have hs : (srtI r 0 r.length).take k ++ ((b : Int) :: (srtI r 0 r.length).drop (k + 1)) = srtI r 0 r.length := by
    have e : (srtI r 0 r.length).drop k = (b : Int) :: (srtI r 0 r.length).drop (k + 1) := by
      rw [List.drop_eq_getElem_cons (by omega), ← hb]; simp [List.getD_eq_getElem?_getD, show k < (srtI r 0 r.length).length by omega]
    rw [← e, List.take_append_drop]
  have ht : (srtI r 0 r.length).take (k + 1) = (srtI r 0 r.length).take k ++ [(b : Int)] := by
    rw [List.take_succ_eq_append_getElem (by omega), ← hb]; simp [List.getD_eq_getElem?_getD, show k < (srtI r 0 r.length).length by omega]
  have ha := srtI_asc r 0 r.length
  rw [← hs] at ha
  have hnot : (b : Int) ∉ (srtI r 0 r.length).take k := fun h => (befR_total r).irr _ ((asc_app.1 ha).2.2 _ h _ (List.mem_cons_self ..))
  have hrb := hI b hbn
  rw [if_neg hnot] at hrb
  have hb0 := h0 b hbn
  have hle : ∀ i : Nat, i < r.length → (giveTo q r k).2.getD i 0 ≤ r.getD b 0 ∧ (i < b → (giveTo q r k).2.getD i 0 < r.getD b 0) := fun i hi => by
    rw [hI i hi]
    by_cases hm : (i : Int) ∈ (srtI r 0 r.length).take k
    · rw [if_pos hm]; omega
    · rw [if_neg hm]
      have hin := ord_mem (r := r) hi
      rw [← hs] at hin
      rcases List.mem_append.1 hin with h | h
      · exact absurd h hm
      · rcases List.mem_cons.1 h with h | h
        · have : i = b := by omega
          subst this; omega
        · have hbef := asc_first (asc_right ha) _ h
          unfold befR at hbef
          simp only [Int.toNat_natCast] at hbef
          omega
  have hbest : bestTo (giveTo q r k).2 (r.length - 1) = b := bestTo_is (by omega) (fun i hi => by rw [hrb]; exact (hle i (by omega)).1) (fun i hi => by rw [hrb]; exact (hle i (by omega)).2 hi)
  refine ⟨by rw [hb, Int.toNat_natCast]; exact hbest, fun i hi => ?_⟩
  have e : (giveTo q r (k + 1)).2 = (giveTo q r k).2.set b (-1) := by
    show (giveTo q r k).2.set (bestTo (giveTo q r k).2 (r.length - 1)) (-1) = _
    rw [hbest]
  rw [e, ht]
  by_cases hib : b = i
  · subst hib
    rw [getD_set_eq _ _ _ (by rw [giveTo_len2]; exact hbn), if_pos (List.mem_append_right _ (by simp))]
  · rw [getD_set_ne' _ _ hib, hI i hi]
    have : ((i : Int) ∈ (srtI r 0 r.length).take k ++ [(b : Int)]) ↔ (i : Int) ∈ (srtI r 0 r.length).take k := by
      rw [List.mem_append, List.mem_singleton]
      constructor
      · rintro (h | h)
        · exact h
        · omega
      · exact .inl
    simp only [this]
theorem give_inv {q r : List Int} (h0 : ∀ i, i < r.length → 0 ≤ r.getD i 0) : ∀ k, k ≤ r.length → ∀ i : Nat, i < r.length → (giveTo q r k).2.getD i 0 = if (i : Int) ∈ (srtI r 0 r.length).take k then -1 else r.getD i 0
  | 0, _, i, _ => by simp [giveTo]
  | k + 1, hk, i, hi => (give_step h0 k (by omega) (give_inv h0 k (by omega))).2 i hi
theorem give_add {q r : List Int} (h0 : ∀ i, i < r.length → 0 ≤ r.getD i 0) : ∀ k, k ≤ r.length → (giveTo q r k).1 = addO (srtI r 0 r.length) q k
  | 0, _ => rfl
  | k + 1, hk => by
    have e := (give_step h0 k (by omega) (give_inv (q := q) h0 k (by omega))).1
    have ih := give_add (q := q) h0 k (by omega)
    show (giveTo q r k).1.set (bestTo (giveTo q r k).2 (r.length - 1)) ((giveTo q r k).1.getD (bestTo (giveTo q r k).2 (r.length - 1)) 0 + 1) = _
    rw [e, ih]; rfl
/-- Fewer are left than there are units. -/
theorem left_lt {total : Int} {us : List Nat} (ha : 0 < allN us) (hn : 0 < us.length) : leftN total us < us.length := by
  have h := rest_sum (total := total) (us := us)
  have h1 : sumF (fun i => (restL total us).getD i 0) us.length ≤ sumF (fun _ => (allN us - 1) * 1) us.length := sumF_le _ fun i hi => by
    rw [restL_at total us hi]
    have := Int.emod_lt_of_pos (total * ((us.getD i 0 : Nat) : Int)) ha
    omega
  rw [sumF_mul, h] at h1
  have h2 : ∀ n : Nat, sumF (fun _ => 1) n = (n : Int) := fun n => by
    induction n with
    | zero => rfl
    | succ n ih => simp only [sumF, ih]; omega
  rw [h2, Int.sub_mul, Int.one_mul, Int.mul_comm (allN us)] at h1
  rcases Int.lt_or_le (leftN total us) us.length with g | g
  · exact g
  · have := Int.mul_le_mul_of_nonneg_right g (show 0 ≤ allN us by omega)
    omega
theorem share_add {total : Int} {us : List Nat} (ht : 0 < allN us) (hn : 0 < us.length) : shareN total us = addO (srtI (restL total us) 0 us.length) (quotL total us) (leftN total us).toNat := by
  have hl : (restL total us).length = us.length := by simp [restL]
  have h1 := left_lt (total := total) ht hn
  unfold shareN
  rw [give_add (fun i hi => by rw [restL_at total us (by omega)]; exact Int.emod_nonneg _ (by omega)) _ (by omega), hl]

end Go.Proofs.Ytcbimgdgodeppaa
