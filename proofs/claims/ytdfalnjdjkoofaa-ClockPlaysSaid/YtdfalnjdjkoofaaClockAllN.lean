/-
  Plain: of all that were put, each leaves just once. Rows of one's own beside a ring.
-/
import Derived.Test.YtdfalnjdjkoofaaClockFirst
import Derived.Test.YtdfalnjdjkoofaaSide
namespace Go.Proofs.Ytdfalnjdjkoofaa
open Go.RowKit

def allL (i : Nat) : List Int := (List.range i).map fun j : Nat => 100 - (j : Int)
theorem allL_succ (i : Nat) : allL (i + 1) = allL i ++ [100 - (i : Int)] := by unfold allL; rw [List.range_succ, List.map_append]; rfl
theorem allL_len (i : Nat) : (allL i).length = i := by simp [allL]
theorem allL_mem {i : Nat} {z : Int} : z ∈ allL i ↔ ∃ j : Nat, j < i ∧ z = 100 - (j : Int) := by
  unfold allL
  rw [List.mem_map]
  constructor
  · rintro ⟨j, hj, e⟩; exact ⟨j, List.mem_range.1 hj, e.symm⟩
  · rintro ⟨j, hj, e⟩; exact ⟨j, List.mem_range.2 hj, e.symm⟩
theorem allL_at {i j : Nat} (h : j < i) : (allL i).getD j 0 = 100 - (j : Int) := by
  unfold allL
  rw [List.getD_eq_getElem?_getD, List.getElem?_map, List.getElem?_range h]; rfl
/-- k places, the first i of them taken. -/
def stA (k : Nat) : Nat → Ck
  | 0 => newC k
  | i + 1 => putS (stA k i) (100 - (i : Int))
theorem contains_false {l : List Int} {z : Int} (h : z ∉ l) : l.contains z = false := by simpa using h
theorem contains_true {l : List Int} {z : Int} (h : z ∈ l) : l.contains z = true := by simpa using h
theorem stA_form (k : Nat) (hk : k ≤ 60) : ∀ i, i ≤ k → (stA k i).t = allL i ++ List.replicate (k - i) (-1) ∧ (stA k i).ok k ∨ k = 0
  | 0, _ => by
    by_cases h0 : k = 0
    · exact .inr h0
    · left
      refine ⟨by simp [stA, newC, allL], newC_ok (by omega)⟩
  | i + 1, hi => by
    rcases stA_form k hk i (by omega) with ⟨h1, h2⟩ | h0
    · left
      have hn : ¬ (100 - (i : Int)) < 0 := by omega
      have hm : -1 ∉ allL i := fun h => by obtain ⟨j, hj, e⟩ := allL_mem.1 h; omega
      have hc : (stA k i).t.contains (100 - (i : Int)) = false := by
        refine contains_false (fun h => ?_)
        rw [h1, List.mem_append] at h
        rcases h with h | h
        · obtain ⟨j, hj, e⟩ := allL_mem.1 h; omega
        · have := (List.mem_replicate.1 h).2; omega
      have hf : (stA k i).t.contains (-1) = true := by
        refine contains_true ?_
        rw [h1, List.mem_append]
        exact .inr (List.mem_replicate.2 ⟨by omega, rfl⟩)
      have hE : putE (stA k i) (100 - (i : Int)) = 0 := by unfold putE; rw [if_neg hn, hc, hf]; rfl
      have hx : (stA k i).t.idxOf (-1) = i := by
        rw [h1, List.idxOf_append, if_neg hm, allL_len, show k - i = (k - (i + 1)) + 1 by omega, List.replicate_succ]
        simp
      refine ⟨?_, put_ok h2 _⟩
      show (putS (stA k i) (100 - (i : Int))).t = _
      unfold putS
      rw [if_pos hE, hx, h1, allL_succ, show k - i = (k - (i + 1)) + 1 by omega, List.replicate_succ]
      simp only []
      rw [List.set_append, if_neg (by rw [allL_len]; omega), allL_len, Nat.sub_self, List.set_cons_zero, List.append_assoc]
      rfl
    · exact .inr h0
theorem stA_put {k i : Nat} (hk : k ≤ 60) (hi : i < k) : putA (stA k i) (100 - (i : Int)) = (i : Int) ∧ putE (stA k i) (100 - (i : Int)) = 0 := by
  rcases stA_form k hk i (by omega) with ⟨h1, h2⟩ | h0
  · have hn : ¬ (100 - (i : Int)) < 0 := by omega
    have hm : -1 ∉ allL i := fun h => by obtain ⟨j, hj, e⟩ := allL_mem.1 h; omega
    have hc : (stA k i).t.contains (100 - (i : Int)) = false := by
      refine contains_false (fun h => ?_)
      rw [h1, List.mem_append] at h
      rcases h with h | h
      · obtain ⟨j, hj, e⟩ := allL_mem.1 h; omega
      · have := (List.mem_replicate.1 h).2; omega
    have hf : (stA k i).t.contains (-1) = true := by
      refine contains_true ?_
      rw [h1, List.mem_append]
      exact .inr (List.mem_replicate.2 ⟨by omega, rfl⟩)
    have hE : putE (stA k i) (100 - (i : Int)) = 0 := by unfold putE; rw [if_neg hn, hc, hf]; rfl
    have hx : (stA k i).t.idxOf (-1) = i := by
      rw [h1, List.idxOf_append, if_neg hm, allL_len, show k - i = (k - (i + 1)) + 1 by omega, List.replicate_succ]
      simp
    refine ⟨?_, hE⟩
    unfold putA
    rw [if_pos hE, hx]
  · omega
theorem stA_full {k : Nat} (hk : k ≤ 60) (h1 : 1 ≤ k) : (stA k k).t = allL k ∧ (stA k k).ok k ∧ putE (stA k k) 500 = 6 ∧ putS (stA k k) 500 = stA k k := by
  rcases stA_form k hk k (Nat.le_refl _) with ⟨h2, h3⟩ | h0
  · rw [Nat.sub_self, List.replicate_zero, List.append_nil] at h2
    have hE : putE (stA k k) 500 = 6 := by
      unfold putE
      rw [if_neg (by decide), h2, contains_false (fun h => by obtain ⟨j, hj, e⟩ := allL_mem.1 h; omega), contains_false (fun h => by obtain ⟨j, hj, e⟩ := allL_mem.1 h; omega)]
      rfl
    exact ⟨h2, h3, hE, by unfold putS; rw [if_neg (by rw [hE]; decide)]⟩
  · omega

/-! ### They leave -/
def cntK (l : List Int) : Nat := l.countP fun z => decide (0 ≤ z)
theorem cnt_set : ∀ (l : List Int) (p : Nat), p < l.length → 0 ≤ l.getD p 0 → cntK (l.set p (-1)) + 1 = cntK l
  | [], p, h, _ => absurd h (by simp)
  | a :: l, 0, _, h => by
    have h1 : 0 ≤ a := by simpa using h
    unfold cntK
    rw [List.set_cons_zero, List.countP_cons, List.countP_cons, if_neg (by decide), if_pos (by simpa using h1)]
  | a :: l, p + 1, h, h2 => by
    have ih := cnt_set l p (by simpa using h) (by simpa using h2)
    unfold cntK at ih ⊢
    rw [List.set_cons_succ, List.countP_cons, List.countP_cons]
    omega
theorem cnt_pos {l : List Int} (h : 0 < cntK l) : ∃ p, p < l.length ∧ 0 ≤ l.getD p 0 := by
  unfold cntK at h
  rw [List.countP_pos_iff] at h
  obtain ⟨z, hz, h0⟩ := h
  obtain ⟨p, hp, e⟩ := List.getElem_of_mem hz
  refine ⟨p, hp, ?_⟩
  rw [List.getD_eq_getElem?_getD, List.getElem?_eq_getElem hp, Option.getD_some, e]
  simpa using h0
theorem cnt_all (i : Nat) (hi : i ≤ 60) : cntK (allL i) = i := by
  unfold cntK
  rw [List.countP_eq_length.2 (fun z hz => by obtain ⟨j, hj, e⟩ := allL_mem.1 hz; simp; omega), allL_len]
structure All13 (k i : Nat) (s : Ck) (seen : List Int) : Prop where
  ok : s.ok k
  num : seen.length = i
  val : ∀ p, p < k → s.t.getD p 0 = 100 - (p : Int) ∨ s.t.getD p 0 = -1
  out : ∀ p, p < k → s.t.getD p 0 = 100 - (p : Int) → (100 - (p : Int)) ∉ seen
  cnt : cntK s.t + i = k
theorem all_start {k : Nat} (hk : k ≤ 60) (h1 : 1 ≤ k) : All13 k 0 (stA k k) [] := by
  obtain ⟨h2, h3, _⟩ := stA_full hk h1
  exact ⟨h3, rfl, fun p hp => by rw [h2, allL_at hp]; exact .inl rfl, fun p hp _ => by simp, by rw [h2, cnt_all k hk]; omega⟩
theorem touch_t (s : Ck) (n : Int) : (touchS s n).t = s.t := by unfold touchS; split <;> rfl
theorem all_touch {k i : Nat} {s : Ck} {seen : List Int} (h : All13 k i s seen) (n : Int) : All13 k i (touchS s n) seen :=
  ⟨touch_ok h.ok n, h.num, fun p hp => by rw [touch_t]; exact h.val p hp, fun p hp => by rw [touch_t]; exact h.out p hp, by rw [touch_t]; exact h.cnt⟩
theorem all_leave {k i : Nat} {s : Ck} {seen : List Int} (h : All13 k i s seen) (hi : i < k) :
    leaveE s (allL k) = 0 ∧ 100 - (k : Int) < leaveN s (allL k) ∧ leaveN s (allL k) ≤ 100 ∧ leaveN s (allL k) ∉ seen ∧ All13 k (i + 1) (leaveS s (allL k)) (seen ++ [leaveN s (allL k)]) := by
  have hc := h.cnt
  obtain ⟨q, hq, hq0⟩ := cnt_pos (l := s.t) (by omega)
  rw [h.ok.len] at hq
  have hqv : s.t.getD q 0 = 100 - (q : Int) := (h.val q hq).elim id (fun e => by omega)
  have hany : anyK s (allL k) = true := place_any (p := q) (by rw [h.ok.len]; exact hq) ⟨hq0, by rw [hqv]; exact contains_true (allL_mem.2 ⟨q, hq, rfl⟩)⟩
  obtain ⟨n, hn⟩ := leave_some h.ok hany
  have hg : goK (allL k) (2 * s.t.length + 1) s = ((goK (allL k) (2 * s.t.length + 1) s).1, some n) := by
    have h2 : leaveR s (allL k) = goK (allL k) (2 * s.t.length + 1) s := by unfold leaveR; rw [if_pos hany]
    rw [h2] at hn; exact hn
  obtain ⟨p, hp, e1, e2, e3, e4, _⟩ := go_gone (allL k) _ h.ok hg
  have hE : leaveE s (allL k) = 0 := by unfold leaveE; rw [hn]
  have hN : leaveN s (allL k) = n := by unfold leaveN; rw [hn]; rfl
  have hS : leaveS s (allL k) = (goK (allL k) (2 * s.t.length + 1) s).1 := by unfold leaveS; rw [hn]
  have hpv : s.t.getD p 0 = 100 - (p : Int) := (h.val p hp).elim id (fun e => by omega)
  have hnp : n = 100 - (p : Int) := by rw [← e1, hpv]
  have hout := h.out p hp hpv
  rw [hE, hN, hS]
  have hok := leave_ok h.ok (allL k)
  rw [hS] at hok
  refine ⟨rfl, by omega, by omega, by rw [hnp]; exact hout, hok, by simp [h.num], fun j hj => ?_, fun j hj hjv => ?_, ?_⟩
  · rw [e4, getD_setI13]
    split
    · exact .inr rfl
    · exact h.val j hj
  · rw [e4, getD_setI13] at hjv
    split at hjv
    · omega
    · rename_i hne
      have h2 := h.out j hj hjv
      rw [List.mem_append, List.mem_singleton]
      rintro (g | g)
      · exact h2 g
      · have : p = j := by omega
        exact hne ⟨this, by rw [h.ok.len]; exact hj⟩
  · rw [e4]
    have := cnt_set s.t p (by rw [h.ok.len]; exact hp) (by rw [e1]; exact e2)
    omega
theorem all_end {k : Nat} {s : Ck} {seen : List Int} (h : All13 k k s seen) : leaveE s (allL k) = 4 := by
  have hany : anyK s (allL k) = false := by
    cases hb : anyK s (allL k)
    · rfl
    · obtain ⟨p, hp, h0, _⟩ := any_place hb
      have h2 : 0 < cntK s.t := by
        unfold cntK
        rw [List.countP_pos_iff]
        exact ⟨s.t.getD p 0, by rw [List.getD_eq_getElem?_getD, List.getElem?_eq_getElem hp]; exact List.getElem_mem hp, by simpa using h0⟩
      have := h.cnt
      omega
  unfold leaveE leaveR
  rw [hany]; rfl

/-! ### Rows of one's own beside a ring -/
section
variable {w : World} {Rep : World → Nat → (Nat → Prop) → Ck → Prop}
theorem rep_grown (HS : ClockSpec w Rep) {a b : World} {p : Nat} {F : Nat → Prop} {s : Ck} {v : Value} (hr : Rep a p F s) (hg : a.grownBy b v.ownBlock) (hf : Free F v) : Rep b p F s :=
  HS.keep a b p F s hr fun q hq => hg.block q (HS.lt a p F s hr q hq) (fun e => hf q e.symm hq)
theorem free_grown (HS : ClockSpec w Rep) {a : World} {p : Nat} {F : Nat → Prop} {s : Ck} {v v' : Value} (hr : Rep a p F s) (hf : Free F v) (hv : v'.ownBlock = v.ownBlock ∨ v'.ownBlock = some a.heap.size) : Free F v' := fun q hq hF => by
  rcases hv with e | e
  · exact hf q (e ▸ hq) hF
  · rw [e] at hq
    injection hq with hq
    have := HS.lt a p F s hr q hF
    omega
end

end Go.Proofs.Ytdfalnjdjkoofaa
