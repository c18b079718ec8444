/-
  Plain: a disk whose power may go. No program is spoken of here.
-/
import Derived.Test.YtnbgnllkikajpaaArrs
namespace Go.Proofs.Ytnbgnllkikajpaa
open Go.RowKit

structure Dk where
  last : List (List Nat)
  pend : List (Nat × List Nat)
  lim : Option Nat
  off : Bool
/-- A sector's text. -/
def Sec (t : List Nat) : Prop := t.length = 64 ∧ ∀ y ∈ t, y < 256
def zeroSec : List Nat := List.replicate 64 0
theorem sec_zero : Sec zeroSec := ⟨by simp [zeroSec], fun y hy => by rw [List.eq_of_mem_replicate hy]; decide⟩
structure Dk.ok (s : Dk) : Prop where
  pos : 1 ≤ s.last.length
  le : s.last.length ≤ 4096
  sec : ∀ i, i < s.last.length → Sec (s.last.getD i [])
  pen : ∀ i, i < s.pend.length → (s.pend.getD i (0, [])).1 < s.last.length ∧ Sec (s.pend.getD i (0, [])).2
def newD (n : Nat) : Dk := ⟨List.replicate n zeroSec, [], none, false⟩
theorem newD_ok {n : Nat} (h1 : 1 ≤ n) (h2 : n ≤ 4096) : (newD n).ok :=
  ⟨by simpa [newD] using h1, by simpa [newD] using h2, fun i hi => by
    have : i < n := by simpa [newD] using hi
    simp [newD, List.getD_eq_getElem?_getD, this, sec_zero], fun i hi => by simp [newD] at hi⟩
/-- What is there: the last of these writes. -/
def seenP (i : Nat) : List (Nat × List Nat) → List Nat → List Nat
  | [], t => t
  | p :: ps, t => seenP i ps (if p.1 = i then p.2 else t)
theorem seenP_app (i : Nat) (q : Nat × List Nat) : ∀ (ps : List (Nat × List Nat)) (t : List Nat), seenP i (ps ++ [q]) t = if q.1 = i then q.2 else seenP i ps t
  | [], _ => rfl
  | _ :: ps, _ => seenP_app i q ps _
def nowD (s : Dk) (i : Nat) : List Nat := seenP i s.pend (s.last.getD i [])
/-- Writes that last. -/
def putP : List (Nat × List Nat) → List (List Nat) → List (List Nat)
  | [], l => l
  | p :: ps, l => putP ps (l.set p.1 p.2)
theorem putP_len : ∀ (ps : List (Nat × List Nat)) (l : List (List Nat)), (putP ps l).length = l.length
  | [], _ => rfl
  | p :: ps, l => by unfold putP; rw [putP_len ps]; simp
theorem set_getD (l : List (List Nat)) (j i : Nat) (t : List Nat) (hi : i < l.length) : (l.set j t).getD i [] = if j = i then t else l.getD i [] := by
  simp only [List.getD_eq_getElem?_getD, List.getElem?_set]
  by_cases h : j = i
  · subst h; simp [hi]
  · simp [h]
theorem putP_at (i : Nat) : ∀ (ps : List (Nat × List Nat)) (l : List (List Nat)), i < l.length → (putP ps l).getD i [] = seenP i ps (l.getD i [])
  | [], _, _ => rfl
  | p :: ps, l, hi => by
    unfold putP seenP
    rw [putP_at i ps _ (by simpa using hi), set_getD _ _ _ _ hi]
theorem putP_app (q : Nat × List Nat) : ∀ (ps : List (Nat × List Nat)) (l : List (List Nat)), putP (ps ++ [q]) l = (putP ps l).set q.1 q.2
  | [], _ => rfl
  | _ :: ps, _ => putP_app q ps _
/-- Those of the first k that are kept. -/
def keptP (ps : List (Nat × List Nat)) (keep : List Bool) : Nat → List (Nat × List Nat)
  | 0 => []
  | k + 1 => if keep.getD k false then keptP ps keep k ++ [ps.getD k (0, [])] else keptP ps keep k
theorem keptP_mem {ps : List (Nat × List Nat)} {keep : List Bool} : ∀ {k : Nat}, k ≤ ps.length → ∀ q ∈ keptP ps keep k, q ∈ ps
  | 0, _, q, h => by cases h
  | k + 1, hk, q, h => by
    unfold keptP at h
    split at h
    · rcases List.mem_append.1 h with h | h
      · exact keptP_mem (by omega) q h
      · rw [List.mem_singleton.1 h, List.getD_eq_getElem?_getD, List.getElem?_eq_getElem (by omega)]
        exact List.getElem_mem _
    · exact keptP_mem (by omega) q h

def outD (s : Dk) (n : Int) : Prop := n < 0 ∨ (s.last.length : Int) ≤ n
instance (s : Dk) (n : Int) : Decidable (outD s n) := inferInstanceAs (Decidable (_ ∨ _))
def readE (s : Dk) (n : Int) : Int := if s.off then 8 else if outD s n then 7 else 0
def spendE (s : Dk) : Int := if s.lim = some 0 then 8 else 0
def spendS (s : Dk) : Dk := if s.lim = some 0 then ⟨s.last, s.pend, s.lim, true⟩ else ⟨s.last, s.pend, s.lim.map (· - 1), s.off⟩
def writeE (s : Dk) (n : Int) (t : List Nat) : Int := if s.off then 8 else if t.length ≠ 64 then 1 else if outD s n then 7 else spendE s
def writeS (s : Dk) (n : Int) (t : List Nat) : Dk :=
  if s.off then s else if t.length ≠ 64 then s else if outD s n then s else if spendE s = 0 then ⟨s.last, s.pend ++ [(n.toNat, t)], (spendS s).lim, (spendS s).off⟩ else spendS s
def flushE (s : Dk) : Int := if s.off then 8 else spendE s
def flushS (s : Dk) : Dk := if s.off then s else if spendE s = 0 then ⟨putP s.pend s.last, [], (spendS s).lim, (spendS s).off⟩ else spendS s
def limitS (s : Dk) (n : Int) : Dk := ⟨s.last, s.pend, if n < 0 then none else some n.toNat, s.off⟩
def crashS (s : Dk) (keep : List Bool) : Dk := ⟨putP (keptP s.pend keep s.pend.length) s.last, [], none, false⟩
def lastE (s : Dk) (n : Int) : Int := if outD s n then 7 else 0

theorem not_out {s : Dk} {n : Int} (h : ¬ outD s n) : ∃ i : Nat, n = (i : Int) ∧ i < s.last.length := by
  unfold outD at h
  exact ⟨n.toNat, by omega, by omega⟩
theorem in_not {s : Dk} {i : Nat} (h : i < s.last.length) : ¬ outD s (i : Int) := by unfold outD; omega
theorem seenP_sec {s : Dk} (h : s.ok) {i : Nat} (hi : i < s.last.length) : Sec (nowD s i) := by
  unfold nowD
  have key : ∀ (ps : List (Nat × List Nat)) (t : List Nat), (∀ p ∈ ps, Sec p.2) → Sec t → Sec (seenP i ps t) := by
    intro ps
    induction ps with
    | nil => intro t _ ht; exact ht
    | cons p ps ih =>
      intro t hp ht
      unfold seenP
      refine ih _ (fun q hq => hp q (List.mem_cons_of_mem _ hq)) ?_
      split
      · exact hp p (List.mem_cons_self ..)
      · exact ht
  refine key s.pend _ (fun p hp => ?_) (h.sec i hi)
  obtain ⟨j, hj, e⟩ := List.getElem_of_mem hp
  have := (h.pen j hj).2
  rw [List.getD_eq_getElem?_getD, List.getElem?_eq_getElem hj] at this
  rw [← e]; exact this
theorem putP_ok {s : Dk} (h : s.ok) (ps : List (Nat × List Nat)) (hps : ∀ p ∈ ps, p ∈ s.pend) (lim : Option Nat) (off : Bool) : (⟨putP ps s.last, [], lim, off⟩ : Dk).ok := by
  refine ⟨by rw [putP_len]; exact h.pos, by rw [putP_len]; exact h.le, fun i hi => ?_, fun i hi => by simp at hi⟩
  rw [putP_len] at hi
  rw [putP_at i _ _ hi]
  have h2 : (⟨s.last, ps, none, false⟩ : Dk).ok := by
    refine ⟨h.pos, h.le, h.sec, fun j hj => ?_⟩
    have hm : ps.getD j (0, []) ∈ s.pend := by
      rw [List.getD_eq_getElem?_getD, List.getElem?_eq_getElem hj]; exact hps _ (List.getElem_mem hj)
    obtain ⟨m, hm1, hm2⟩ := List.getElem_of_mem hm
    have := h.pen m hm1
    rw [List.getD_eq_getElem?_getD, List.getElem?_eq_getElem hm1] at this
    rw [← hm2]; exact this
  exact seenP_sec (s := ⟨s.last, ps, none, false⟩) h2 hi
theorem spend_ok {s : Dk} (h : s.ok) : (spendS s).ok := by unfold spendS; split <;> exact ⟨h.pos, h.le, h.sec, h.pen⟩
theorem write_ok {s : Dk} (h : s.ok) (n : Int) {t : List Nat} (ht : ∀ y ∈ t, y < 256) : (writeS s n t).ok := by
  unfold writeS
  split
  · exact h
  · split
    · exact h
    · rename_i hl
      split
      · exact h
      · rename_i ho
        split
        · obtain ⟨i, rfl, hi⟩ := not_out ho
          refine ⟨h.pos, h.le, h.sec, fun j hj => ?_⟩
          simp only [List.length_append, List.length_cons, List.length_nil] at hj
          rw [List.getD_eq_getElem?_getD]
          by_cases hj2 : j < s.pend.length
          · rw [List.getElem?_append_left hj2, ← List.getD_eq_getElem?_getD]; exact h.pen j hj2
          · rw [List.getElem?_append_right (by omega), show j - s.pend.length = 0 by omega]
            exact ⟨by simpa using hi, by simpa using hl, ht⟩
        · exact spend_ok h
theorem flush_ok {s : Dk} (h : s.ok) : (flushS s).ok := by
  unfold flushS
  split
  · exact h
  · split
    · exact putP_ok h s.pend (fun _ hp => hp) _ _
    · exact spend_ok h
theorem limit_ok {s : Dk} (h : s.ok) (n : Int) : (limitS s n).ok := ⟨h.pos, h.le, h.sec, h.pen⟩
theorem crash_ok {s : Dk} (h : s.ok) (keep : List Bool) : (crashS s keep).ok := putP_ok h _ (fun p hp => keptP_mem (Nat.le_refl _) p hp) _ _
theorem write_len (s : Dk) (n : Int) (t : List Nat) : (writeS s n t).last.length = s.last.length ∧ (writeS s n t).pend.length ≤ s.pend.length + 1 := by
  unfold writeS spendS
  (repeat' split) <;> simp
theorem flush_len (s : Dk) : (flushS s).last.length = s.last.length ∧ (flushS s).pend.length ≤ s.pend.length := by
  unfold flushS spendS
  (repeat' split) <;> simp [putP_len]
theorem crash_len (s : Dk) (keep : List Bool) : (crashS s keep).last.length = s.last.length ∧ (crashS s keep).pend.length = 0 := ⟨putP_len _ _, rfl⟩

/-! ### With a limit so many are done -/
structure LimD (n i : Nat) (s : Dk) : Prop where
  ok : s.ok
  three : s.last.length = 3
  pen : s.pend.length ≤ i
  on : i ≤ n → s.off = false ∧ s.lim = some (n - i)
  off : n < i → s.off = true
theorem lim_start (n : Nat) : LimD n 0 (limitS (newD 3) (n : Int)) :=
  ⟨limit_ok (newD_ok (by decide) (by decide)) _, by simp [limitS, newD], by simp [limitS, newD], fun _ => ⟨rfl, by
    unfold limitS
    rw [if_neg (by omega)]; simp⟩, fun h => absurd h (Nat.not_lt_zero _)⟩
theorem lim_spend {n i : Nat} {s : Dk} (h : LimD n i s) : (i < n → s.off = false ∧ spendE s = 0 ∧ (spendS s).lim = some (n - (i + 1)) ∧ (spendS s).off = false) ∧ (i = n → s.off = false ∧ spendE s = 8 ∧ (spendS s).off = true) ∧ (n < i → s.off = true) := by
  refine ⟨fun hi => ?_, fun hi => ?_, h.off⟩
  · obtain ⟨h1, h2⟩ := h.on (by omega)
    have hne : ¬ (some (n - i) = some 0) := fun e => by injection e with e; omega
    unfold spendE spendS
    rw [h2, if_neg hne, if_neg hne]
    exact ⟨h1, rfl, by simp; omega, h1⟩
  · obtain ⟨h1, h2⟩ := h.on (by omega)
    have he : (some (n - i) = some 0) := by rw [hi, Nat.sub_self]
    unfold spendE spendS
    rw [h2, if_pos he, if_pos he]
    exact ⟨h1, rfl, rfl⟩
theorem lim_flush {n i : Nat} {s : Dk} (h : LimD n i s) : LimD n (i + 1) (flushS s) ∧ flushE s = if i < n then 0 else 8 := by
  obtain ⟨h1, h2, h3⟩ := lim_spend h
  have hl := flush_len s
  have hk := flush_ok h.ok
  refine ⟨⟨hk, by rw [hl.1]; exact h.three, by have := h.pen; omega, fun hi => ?_, fun hi => ?_⟩, ?_⟩
  · obtain ⟨q1, q2, q3, q4⟩ := h1 (by omega)
    unfold flushS
    rw [q1, q2]
    exact ⟨q4, q3⟩
  · by_cases e : i = n
    · obtain ⟨q1, q2, q3⟩ := h2 e
      unfold flushS
      rw [q1, q2]
      exact q3
    · have q1 := h3 (by omega)
      unfold flushS
      rw [q1]
      exact q1
  · unfold flushE
    by_cases e : i < n
    · obtain ⟨q1, q2, _⟩ := h1 e
      rw [q1, q2, if_pos e]; rfl
    · rw [if_neg e]
      by_cases e2 : i = n
      · obtain ⟨q1, q2, _⟩ := h2 e2
        rw [q1, q2]; rfl
      · rw [h3 (by omega)]; rfl
theorem lim_write {n i : Nat} {s : Dk} (h : LimD n i s) {k : Nat} (hk3 : k < 3) : LimD n (i + 1) (writeS s (k : Int) zeroSec) ∧ writeE s (k : Int) zeroSec = if i < n then 0 else 8 := by
  obtain ⟨h1, h2, h3⟩ := lim_spend h
  have hl := write_len s (k : Int) zeroSec
  have hk := write_ok h.ok (k : Int) sec_zero.2
  have ho : ¬ outD s (k : Int) := in_not (by rw [h.three]; exact hk3)
  have hz : ¬ (zeroSec.length ≠ 64) := by rw [sec_zero.1]; simp
  refine ⟨⟨hk, by rw [hl.1]; exact h.three, by have := h.pen; omega, fun hi => ?_, fun hi => ?_⟩, ?_⟩
  · obtain ⟨q1, q2, q3, q4⟩ := h1 (by omega)
    unfold writeS
    rw [q1, q2, if_neg hz, if_neg ho]
    exact ⟨q4, q3⟩
  · by_cases e : i = n
    · obtain ⟨q1, q2, q3⟩ := h2 e
      unfold writeS
      rw [q1, q2, if_neg hz, if_neg ho]
      exact q3
    · have q1 := h3 (by omega)
      unfold writeS
      rw [q1]
      exact q1
  · unfold writeE
    rw [if_neg hz, if_neg ho]
    by_cases e : i < n
    · obtain ⟨q1, q2, _⟩ := h1 e
      rw [q1, q2, if_pos e]; rfl
    · rw [if_neg e]
      by_cases e2 : i = n
      · obtain ⟨q1, q2, _⟩ := h2 e2
        rw [q1, q2]; rfl
      · rw [h3 (by omega)]; rfl

/-! ### Power, no limit -/
structure FreeD (N i : Nat) (s : Dk) : Prop where
  ok : s.ok
  len : s.last.length = N
  pen : s.pend.length ≤ i
  lim : s.lim = none
  on : s.off = false
theorem free_new {N : Nat} (h1 : 1 ≤ N) (h2 : N ≤ 4096) : FreeD N 0 (newD N) := ⟨newD_ok h1 h2, by simp [newD], by simp [newD], rfl, rfl⟩
theorem free_spend {N i : Nat} {s : Dk} (h : FreeD N i s) : spendE s = 0 ∧ spendS s = s := by
  have hne : ¬ ((none : Option Nat) = some 0) := by simp
  obtain ⟨l, p, m, o⟩ := s
  have := h.lim
  simp only at this
  subst this
  exact ⟨if_neg hne, by unfold spendS; rw [if_neg hne]; rfl⟩
theorem free_write {N i : Nat} {s : Dk} (h : FreeD N i s) {k : Nat} (hk : k < N) {t : List Nat} (ht : Sec t) : FreeD N (i + 1) (writeS s (k : Int) t) ∧ writeE s (k : Int) t = 0 ∧ writeS s (k : Int) t = ⟨s.last, s.pend ++ [(k, t)], s.lim, s.off⟩ := by
  obtain ⟨q1, q2⟩ := free_spend h
  have ho : ¬ outD s (k : Int) := in_not (by rw [h.len]; exact hk)
  have hz : ¬ (t.length ≠ 64) := by rw [ht.1]; simp
  have e : writeS s (k : Int) t = ⟨s.last, s.pend ++ [(k, t)], s.lim, s.off⟩ := by
    unfold writeS
    rw [h.on, q1, q2, if_neg hz, if_neg ho]
    simp [h.on]
  refine ⟨⟨write_ok h.ok _ ht.2, by rw [(write_len s _ t).1]; exact h.len, by have := (write_len s (k : Int) t).2; have := h.pen; omega, by rw [e]; exact h.lim, by rw [e]; exact h.on⟩, ?_, e⟩
  unfold writeE
  rw [h.on, if_neg hz, if_neg ho, q1]; rfl
theorem free_flush {N i : Nat} {s : Dk} (h : FreeD N i s) : FreeD N 0 (flushS s) ∧ flushE s = 0 ∧ flushS s = ⟨putP s.pend s.last, [], none, false⟩ := by
  obtain ⟨q1, q2⟩ := free_spend h
  have e : flushS s = ⟨putP s.pend s.last, [], none, false⟩ := by
    unfold flushS
    rw [h.on, q1, q2, h.lim, h.on]; rfl
  refine ⟨⟨flush_ok h.ok, by rw [(flush_len s).1]; exact h.len, by rw [e]; exact Nat.le_refl _, by rw [e], by rw [e]⟩, ?_, e⟩
  unfold flushE
  rw [h.on, q1]; rfl
theorem free_crash {N i : Nat} {s : Dk} (h : s.ok) (hl : s.last.length = N) (keep : List Bool) : FreeD N i (crashS s keep) := ⟨crash_ok h keep, by rw [(crash_len s keep).1]; exact hl, Nat.zero_le _, rfl, rfl⟩
theorem free_read {N i : Nat} {s : Dk} (h : FreeD N i s) {k : Nat} (hk : k < N) : readE s (k : Int) = 0 ∧ lastE s (k : Int) = 0 := by
  have ho : ¬ outD s (k : Int) := in_not (by rw [h.len]; exact hk)
  unfold readE lastE
  rw [h.on, if_neg ho]
  exact ⟨rfl, rfl⟩
/-- Behind a flush, and behind any crash then, all is as it was. -/
theorem flush_now {N i : Nat} {s : Dk} (h : FreeD N i s) {k : Nat} (hk : k < N) : nowD (flushS s) k = nowD s k ∧ (flushS s).last.getD k [] = nowD s k := by
  rw [(free_flush h).2.2]
  unfold nowD
  exact ⟨putP_at k _ _ (by rw [h.len]; exact hk), putP_at k _ _ (by rw [h.len]; exact hk)⟩
theorem crash_flushed {N i : Nat} {s : Dk} (h : FreeD N i s) (keep : List Bool) : crashS (flushS s) keep = flushS s := by
  rw [(free_flush h).2.2]; rfl

/-! ### Which texts a sector may have behind a crash -/
def mayD (s : Dk) (n : Nat) : List (List Nat) := s.last.getD n [] :: (s.pend.filter fun p => p.1 == n).map Prod.snd
theorem may_new {N k : Nat} (hk : k < N) : mayD (newD N) k = [zeroSec] := by
  simp [mayD, newD, List.getD_eq_getElem?_getD, hk]
theorem may_write {N i : Nat} {s : Dk} (h : FreeD N i s) {k : Nat} (hk : k < N) {t : List Nat} (ht : Sec t) (m : Nat) : mayD (writeS s (k : Int) t) m = if k = m then mayD s m ++ [t] else mayD s m := by
  rw [(free_write h hk ht).2.2]
  unfold mayD
  simp only [List.filter_append, List.filter_cons, List.filter_nil]
  by_cases e : k = m
  · subst e; simp
  · simp [e]
theorem seen_may (n : Nat) : ∀ (ps : List (Nat × List Nat)) (t : List Nat), (t :: (ps.filter fun p => p.1 == n).map Prod.snd).getLast? = some (seenP n ps t)
  | [], _ => rfl
  | p :: ps, t => by
    unfold seenP
    by_cases e : p.1 = n
    · rw [if_pos e, ← seen_may n ps p.2]
      simp [e, List.getLast?_cons_cons]
    · rw [if_neg e, ← seen_may n ps t]
      simp [e]
theorem may_last (s : Dk) (n : Nat) : (mayD s n).getLast? = some (nowD s n) := seen_may n s.pend _
theorem may_flush {N i : Nat} {s : Dk} (h : FreeD N i s) {k : Nat} (hk : k < N) : mayD (flushS s) k = [nowD s k] := by
  have h1 := (flush_now h hk).2
  unfold mayD
  rw [h1, (free_flush h).2.2]; rfl
theorem may_crash {s : Dk} (keep : List Bool) {k : Nat} (hk : k < s.last.length) : nowD (crashS s keep) k ∈ mayD s k := by
  have e : nowD (crashS s keep) k = seenP k (keptP s.pend keep s.pend.length) (s.last.getD k []) := putP_at k _ _ hk
  rw [e]
  have key : ∀ (ps : List (Nat × List Nat)) (t : List Nat), seenP k ps t = t ∨ ∃ p ∈ ps, p.1 = k ∧ seenP k ps t = p.2 := by
    intro ps
    induction ps with
    | nil => intro t; exact Or.inl rfl
    | cons p ps ih =>
      intro t
      unfold seenP
      rcases ih (if p.1 = k then p.2 else t) with h | ⟨q, h1, h2, h3⟩
      · by_cases ep : p.1 = k
        · rw [if_pos ep] at h ⊢
          exact Or.inr ⟨p, List.mem_cons_self .., ep, h⟩
        · rw [if_neg ep] at h ⊢
          exact Or.inl h
      · exact Or.inr ⟨q, List.mem_cons_of_mem _ h1, h2, h3⟩
  unfold mayD
  rcases key (keptP s.pend keep s.pend.length) (s.last.getD k []) with h | ⟨q, h1, h2, h3⟩
  · rw [h]; exact List.mem_cons_self ..
  · rw [h3]
    refine List.mem_cons_of_mem _ (List.mem_map.2 ⟨q, List.mem_filter.2 ⟨keptP_mem (Nat.le_refl _) q h1, by simpa using h2⟩, rfl⟩)
theorem may_len {s : Dk} (n : Nat) : (mayD s n).length ≤ s.pend.length + 1 := by
  unfold mayD
  rw [List.length_cons, List.length_map]
  have := List.length_filter_le (fun p : Nat × List Nat => p.1 == n) s.pend
  omega

end Go.Proofs.Ytnbgnllkikajpaa
