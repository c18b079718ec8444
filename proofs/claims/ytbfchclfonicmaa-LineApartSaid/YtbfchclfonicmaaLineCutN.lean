/-
  Plain: transactions that are written, sector by sector, and replayed; of those that are cut off anywhere the whole ones are. No program is spoken of here.
-/
import Derived.Test.YtbfchclfonicmaaLineNums
namespace Go.Proofs.Ytbfchclfonicmaa
open Go.RowKit

theorem getD_app_left {α : Type} {a b : List α} {d : α} {i : Nat} (h : i < a.length) : (a ++ b).getD i d = a.getD i d := by
  rw [List.getD_eq_getElem?_getD, List.getElem?_append_left h, ← List.getD_eq_getElem?_getD]
theorem getD_app_mid {α : Type} {a : List α} {x d : α} : (a ++ [x]).getD a.length d = x := by
  rw [List.getD_eq_getElem?_getD, List.getElem?_append_right (Nat.le_refl _), Nat.sub_self]; rfl
theorem getD_takeG {α : Type} {a : List α} {d : α} {i n : Nat} (h : i < n) : (a.take n).getD i d = a.getD i d := by
  rw [List.getD_eq_getElem?_getD, List.getElem?_take, if_pos h, ← List.getD_eq_getElem?_getD]
/-- What lies ahead says it all. -/
theorem out_same {a b : List (List Int)} : ∀ n : Nat, (∀ j, j < n → a.getD j [] = b.getD j []) → outTo a n = outTo b n ∧ nowTo a n = nowTo b n
  | 0, _ => ⟨rfl, rfl⟩
  | n + 1, h => by
    have ih := out_same n fun j hj => h j (by omega)
    have hn := h n (by omega)
    have e1 : lastAt a n = lastAt b n := by unfold lastAt; rw [hn]
    have e2 : recAt a n = recAt b n := by unfold recAt; rw [hn]
    refine ⟨?_, ?_⟩
    · show (if lastAt a n = true then outTo a n ++ [nowTo a n ++ [recAt a n]] else outTo a n) = (if lastAt b n = true then outTo b n ++ [nowTo b n ++ [recAt b n]] else outTo b n)
      rw [ih.1, ih.2, e1, e2]
    · show (if lastAt a n = true then [] else nowTo a n ++ [recAt a n]) = (if lastAt b n = true then [] else nowTo b n ++ [recAt b n])
      rw [ih.2, e1, e2]
theorem good_same {a b : List (List Int)} {g : Int} {j : Nat} (h : a.getD j [] = b.getD j []) : goodAt a g j = goodAt b g j := by unfold goodAt; rw [h]

theorem out_mem (secs : List (List Int)) : ∀ k, ∀ x ∈ outTo secs k, x.length ≤ k
  | 0, x, hx => absurd hx (by simp [outTo])
  | k + 1, x, hx => by
    have ih := out_mem secs k
    unfold outTo at hx
    split at hx
    · rcases List.mem_append.1 hx with hx | hx
      · have := ih x hx; omega
      · have := nowTo_len secs k
        simp only [List.mem_cons, List.not_mem_nil, or_false] at hx
        subst hx
        rw [List.length_append]; simp; omega
    · have := ih x hx; omega
/-- Sectors that make whole transactions, with where each ends; what stands behind. -/
structure CutSt (g : Int) (Bs : List (List Int)) (whole : List (List Rc)) (ends : List Nat) (now : List Rc) : Prop where
  good : ∀ j, j < Bs.length → goodAt Bs g j = true
  out : outTo Bs Bs.length = whole
  now : nowTo Bs Bs.length = now
  len : whole.length = ends.length
  top : ∀ j, j < ends.length → ends.getD j 0 ≤ Bs.length
  cut : ∀ n, n ≤ Bs.length → ∀ r, r ≤ ends.length → (∀ j, j < r → ends.getD j 0 ≤ n) → (r < ends.length → n < ends.getD r 0) → outTo Bs n = whole.take r
theorem cutSt_none (g : Int) : CutSt g [] [] [] [] :=
  ⟨fun j hj => absurd hj (Nat.not_lt_zero j), rfl, rfl, rfl, fun j hj => absurd hj (Nat.not_lt_zero j), fun n hn r _ _ _ => by
    have : n = 0 := Nat.le_zero.1 hn
    subst this; simp [outTo]⟩
section
variable {g : Int} {Bs : List (List Int)} {whole : List (List Rc)} {ends : List Nat} {now : List Rc} {l : Ln}
theorem good_app (h : ∀ j, j < Bs.length → goodAt Bs g j = true) (hE : encE l = 0) (hg : l.g = g) (hs : l.s = (Bs.length : Int)) : ∀ j, j < (Bs ++ [encB l]).length → goodAt (Bs ++ [encB l]) g j = true := fun j hj => by
  by_cases hj2 : j < Bs.length
  · rw [good_same (getD_app_left hj2)]; exact h j hj2
  · have : j = Bs.length := by rw [List.length_append] at hj; simp at hj; omega
    subst this
    unfold goodAt
    rw [getD_app_mid, dec_enc hE]
    simp [hg, hs]
theorem out_app (n : Nat) (hn : n ≤ Bs.length) (b : List Int) : outTo (Bs ++ [b]) n = outTo Bs n ∧ nowTo (Bs ++ [b]) n = nowTo Bs n := out_same n fun j hj => getD_app_left (by omega)
/-- A record that ends nothing. -/
theorem CutSt.more (h : CutSt g Bs whole ends now) (hE : encE l = 0) (hg : l.g = g) (hs : l.s = (Bs.length : Int)) (hl : l.last = false) : CutSt g (Bs ++ [encB l]) whole ends (now ++ [l.r]) := by
  have hL : lastAt (Bs ++ [encB l]) Bs.length = false := by unfold lastAt; rw [getD_app_mid, dec_enc hE]; exact hl
  have hR : recAt (Bs ++ [encB l]) Bs.length = l.r := by unfold recAt; rw [getD_app_mid, dec_enc hE]
  have hlen : (Bs ++ [encB l]).length = Bs.length + 1 := by simp
  obtain ⟨o1, o2⟩ := out_app (Bs := Bs) Bs.length (Nat.le_refl _) (encB l)
  have hout : outTo (Bs ++ [encB l]) (Bs.length + 1) = whole := by
    show (if lastAt (Bs ++ [encB l]) Bs.length = true then _ else _) = _
    rw [hL, if_neg (by decide), o1, h.out]
  refine ⟨good_app h.good hE hg hs, by rw [hlen]; exact hout, ?_, h.len, fun j hj => by rw [hlen]; have := h.top j hj; omega, fun n hn r hr h1 h2 => ?_⟩
  · rw [hlen]
    show (if lastAt (Bs ++ [encB l]) Bs.length = true then _ else _) = _
    rw [hL, if_neg (by decide), o2, h.now, hR]
  · by_cases hnb : n ≤ Bs.length
    · rw [(out_app n hnb _).1]; exact h.cut n hnb r hr h1 h2
    · have hn1 : n = Bs.length + 1 := by rw [hlen] at hn; omega
      subst hn1
      rw [hout]
      have : r = ends.length := by
        apply Decidable.byContradiction
        intro hne
        have := h2 (by omega)
        have := h.top r (by omega)
        omega
      rw [this, ← h.len, List.take_length]
/-- A record that ends a transaction. -/
theorem CutSt.done (h : CutSt g Bs whole ends now) (hE : encE l = 0) (hg : l.g = g) (hs : l.s = (Bs.length : Int)) (hl : l.last = true) : CutSt g (Bs ++ [encB l]) (whole ++ [now ++ [l.r]]) (ends ++ [Bs.length + 1]) [] := by
  have hL : lastAt (Bs ++ [encB l]) Bs.length = true := by unfold lastAt; rw [getD_app_mid, dec_enc hE]; exact hl
  have hR : recAt (Bs ++ [encB l]) Bs.length = l.r := by unfold recAt; rw [getD_app_mid, dec_enc hE]
  have hlen : (Bs ++ [encB l]).length = Bs.length + 1 := by simp
  obtain ⟨o1, o2⟩ := out_app (Bs := Bs) Bs.length (Nat.le_refl _) (encB l)
  have hout : outTo (Bs ++ [encB l]) (Bs.length + 1) = whole ++ [now ++ [l.r]] := by
    show (if lastAt (Bs ++ [encB l]) Bs.length = true then _ else _) = _
    rw [hL, if_pos rfl, o1, o2, h.out, h.now, hR]
  have hel : (ends ++ [Bs.length + 1]).length = ends.length + 1 := by simp
  refine ⟨good_app h.good hE hg hs, by rw [hlen]; exact hout, ?_, by rw [List.length_append, hel, h.len]; rfl, fun j hj => ?_, fun n hn r hr h1 h2 => ?_⟩
  · rw [hlen]
    show (if lastAt (Bs ++ [encB l]) Bs.length = true then _ else _) = _
    rw [hL, if_pos rfl]
  · rw [hlen]
    by_cases hj2 : j < ends.length
    · rw [getD_app_left hj2]; have := h.top j hj2; omega
    · have : j = ends.length := by omega
      rw [this, getD_app_mid]; exact Nat.le_refl _
  · by_cases hnb : n ≤ Bs.length
    · rw [(out_app n hnb _).1]
      have hr2 : r ≤ ends.length := by
        apply Decidable.byContradiction
        intro hne
        have hre : r = ends.length + 1 := by omega
        have := h1 ends.length (by omega)
        rw [getD_app_mid] at this
        omega
      rw [List.take_append_of_le_length (by rw [h.len]; exact hr2)]
      refine h.cut n hnb r hr2 (fun j hj => by have := h1 j hj; rwa [getD_app_left (by omega)] at this) (fun hlt => ?_)
      have := h2 (by omega)
      rwa [getD_app_left hlt] at this
    · have hn1 : n = Bs.length + 1 := by rw [hlen] at hn; omega
      subst hn1
      rw [hout]
      have : r = ends.length + 1 := by
        apply Decidable.byContradiction
        intro hne
        have h3 := h2 (by omega)
        by_cases hr3 : r < ends.length
        · rw [getD_app_left hr3] at h3
          have := h.top r hr3
          omega
        · have : r = ends.length := by omega
          rw [this, getD_app_mid] at h3
          omega
      rw [List.take_of_length_le (by rw [List.length_append, h.len, this]; exact Nat.le_refl _)]
/-- All are replayed. -/
theorem CutSt.all (h : CutSt g Bs whole ends now) : replR Bs g = whole := by
  rw [replR_eq (Nat.le_refl _) h.good (fun q => absurd q (Nat.lt_irrefl _)), h.out]
/-- Those ahead of a cut are. -/
theorem CutSt.part (h : CutSt g Bs whole ends now) {n r : Nat} (hn : n ≤ Bs.length) (hr : r ≤ ends.length) (h1 : ∀ j, j < r → ends.getD j 0 ≤ n) (h2 : r < ends.length → n < ends.getD r 0) : replR (Bs.take n) g = whole.take r := by
  have hl : (Bs.take n).length = n := by rw [List.length_take]; omega
  rw [replR_eq (k := n) (by omega) (fun j hj => by rw [good_same (getD_takeG hj)]; exact h.good j (by omega)) (fun q => by omega), (out_same (a := Bs.take n) (b := Bs) n fun j hj => getD_takeG hj).1]
  exact h.cut n hn r hr h1 h2
/-- Of another generation none is. -/
theorem CutSt.other (h : CutSt g Bs whole ends now) {g' : Int} (hg : g' ≠ g) : replR Bs g' = [] := by
  rw [replR_eq (k := 0) (Nat.zero_le _) (fun j hj => absurd hj (Nat.not_lt_zero j)) (fun q => ?_)]
  · rfl
  · have h1 := h.good 0 q
    unfold goodAt at h1 ⊢
    simp only [Bool.and_eq_true, decide_eq_true_eq] at h1
    simp only [Bool.and_eq_false_iff, decide_eq_false_iff_not]
    exact .inl (.inr fun e => hg (e.symm.trans h1.1.2))
end
/-- The line of a transaction's record. -/
def lnOf (g s : Nat) (t : List Rc) (k : Nat) (r : Rc) : Ln := ⟨(g : Int), (s : Int), decide (k + 1 = t.length), r⟩
/-- How far a transaction is written. -/
structure CutIn (g : Nat) (Bs : List (List Int)) (whole : List (List Rc)) (ends : List Nat) (t : List Rc) (k : Nat) : Prop where
  part : k < t.length ∨ t.length = 0 → CutSt (g : Int) Bs whole ends (t.take k)
  done : 0 < t.length → k = t.length → CutSt (g : Int) Bs (whole ++ [t]) (ends ++ [Bs.length]) []
theorem CutIn.start {g : Nat} {Bs : List (List Int)} {whole : List (List Rc)} {ends : List Nat} {t : List Rc} (h : CutSt (g : Int) Bs whole ends []) : CutIn g Bs whole ends t 0 := ⟨fun _ => h, fun h1 h2 => by omega⟩
theorem CutIn.next {g : Nat} {Bs : List (List Int)} {whole : List (List Rc)} {ends : List Nat} {t : List Rc} {k : Nat} (h : CutIn g Bs whole ends t k) (hk : k < t.length) (hE : encE (lnOf g Bs.length t k t[k]) = 0) :
    CutIn g (Bs ++ [encB (lnOf g Bs.length t k t[k])]) whole ends t (k + 1) := by
  have h0 := h.part (.inl hk)
  have ht : t.take (k + 1) = t.take k ++ [t[k]] := by rw [List.take_succ_eq_append_getElem hk]
  by_cases hlast : k + 1 = t.length
  · refine ⟨fun q => by omega, fun _ _ => ?_⟩
    have := h0.done hE rfl rfl (by simp [lnOf, hlast])
    rw [show (lnOf g Bs.length t k t[k]).r = t[k] from rfl, ← ht, List.take_of_length_le (by omega)] at this
    rw [List.length_append]; exact this
  · refine ⟨fun _ => ?_, fun _ q => by omega⟩
    rw [ht]
    exact h0.more hE rfl rfl (by simp [lnOf, hlast])

end Go.Proofs.Ytbfchclfonicmaa
