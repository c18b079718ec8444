/-
  Plain: a disk whose power may go. No program is spoken of here. Records: plainly, by value, and rows of them in memory. Plain arithmetic on lists of bytes: the bytes of a number, the number of bytes, and the answers of the layer pack as functions. No program is spoken of here. Plain arithmetic: a number's bytes are that number again; bytes are in the order of the numbers; a byte more. No program is spoken of here.
-/
import Derived.Test.YtbnhkplhmanmoaaGreatWordsG
import Derived.WalkKit
import Derived.Laws.BytesArg
namespace Go.Proofs.YtbnhkplhmanmoaaGreat
open Go.RowKit

structure Dk where
  last : List (List Nat)
  pend : List (Nat × List Nat)
  lim : Option Nat
  off : Bool
/-- A sector's text. -/
def Sec (t : List Nat) : Prop := t.length = 64 ∧ ∀ y ∈ t, y < 256
def zeroSec : List Nat := List.replicate 64 0
theorem sec_zero : Sec zeroSec := ⟨by simp [zeroSec], fun y hy => by rw [List.eq_of_mem_replicate hy]; decide⟩
structure Dk.ok (s : Dk) : Prop where
  pos : 1 ≤ s.last.length
  le : s.last.length ≤ 4096
  sec : ∀ i, i < s.last.length → Sec (s.last.getD i [])
  pen : ∀ i, i < s.pend.length → (s.pend.getD i (0, [])).1 < s.last.length ∧ Sec (s.pend.getD i (0, [])).2
def newD (n : Nat) : Dk := ⟨List.replicate n zeroSec, [], none, false⟩
theorem newD_ok {n : Nat} (h1 : 1 ≤ n) (h2 : n ≤ 4096) : (newD n).ok :=
  ⟨by simpa [newD] using h1, by simpa [newD] using h2, fun i hi => by
    have : i < n := by simpa [newD] using hi
    simp [newD, List.getD_eq_getElem?_getD, this, sec_zero], fun i hi => by simp [newD] at hi⟩
/-- What is there: the last of these writes. -/
def seenP (i : Nat) : List (Nat × List Nat) → List Nat → List Nat
  | [], t => t
  | p :: ps, t => seenP i ps (if p.1 = i then p.2 else t)
theorem seenP_app (i : Nat) (q : Nat × List Nat) : ∀ (ps : List (Nat × List Nat)) (t : List Nat), seenP i (ps ++ [q]) t = if q.1 = i then q.2 else seenP i ps t
  | [], _ => rfl
  | _ :: ps, _ => seenP_app i q ps _
def nowD (s : Dk) (i : Nat) : List Nat := seenP i s.pend (s.last.getD i [])
/-- Writes that last. -/
def putP : List (Nat × List Nat) → List (List Nat) → List (List Nat)
  | [], l => l
  | p :: ps, l => putP ps (l.set p.1 p.2)
theorem putP_len : ∀ (ps : List (Nat × List Nat)) (l : List (List Nat)), (putP ps l).length = l.length
  | [], _ => rfl
  | p :: ps, l => by unfold putP; rw [putP_len ps]; simp
theorem set_getD (l : List (List Nat)) (j i : Nat) (t : List Nat) (hi : i < l.length) : (l.set j t).getD i [] = if j = i then t else l.getD i [] := by
  simp only [List.getD_eq_getElem?_getD, List.getElem?_set]
  by_cases h : j = i
  · subst h; simp [hi]
  · simp [h]
theorem putP_at (i : Nat) : ∀ (ps : List (Nat × List Nat)) (l : List (List Nat)), i < l.length → (putP ps l).getD i [] = seenP i ps (l.getD i [])
  | [], _, _ => rfl
  | p :: ps, l, hi => by
    unfold putP seenP
    rw [putP_at i ps _ (by simpa using hi), set_getD _ _ _ _ hi]
theorem putP_app (q : Nat × List Nat) : ∀ (ps : List (Nat × List Nat)) (l : List (List Nat)), putP (ps ++ [q]) l = (putP ps l).set q.1 q.2
  | [], _ => rfl
  | _ :: ps, _ => putP_app q ps _
/-- Those of the first k that are kept. -/
def keptP (ps : List (Nat × List Nat)) (keep : List Bool) : Nat → List (Nat × List Nat)
  | 0 => []
  | k + 1 => if keep.getD k false then keptP ps keep k ++ [ps.getD k (0, [])] else keptP ps keep k
theorem keptP_mem {ps : List (Nat × List Nat)} {keep : List Bool} : ∀ {k : Nat}, k ≤ ps.length → ∀ q ∈ keptP ps keep k, q ∈ ps
  | 0, _, q, h => by cases h
  | k + 1, hk, q, h => by
    unfold keptP at h
    split at h
    · rcases List.mem_append.1 h with h | h
      · exact keptP_mem (by omega) q h
      · rw [List.mem_singleton.1 h, List.getD_eq_getElem?_getD, List.getElem?_eq_getElem (by omega)]
        exact List.getElem_mem _
    · exact keptP_mem (by omega) q h

def outD (s : Dk) (n : Int) : Prop := n < 0 ∨ (s.last.length : Int) ≤ n
instance (s : Dk) (n : Int) : Decidable (outD s n) := inferInstanceAs (Decidable (_ ∨ _))
def readE (s : Dk) (n : Int) : Int := if s.off then 8 else if outD s n then 7 else 0
def spendE (s : Dk) : Int := if s.lim = some 0 then 8 else 0
def spendS (s : Dk) : Dk := if s.lim = some 0 then ⟨s.last, s.pend, s.lim, true⟩ else ⟨s.last, s.pend, s.lim.map (· - 1), s.off⟩
def writeE (s : Dk) (n : Int) (t : List Nat) : Int := if s.off then 8 else if t.length ≠ 64 then 1 else if outD s n then 7 else spendE s
def writeS (s : Dk) (n : Int) (t : List Nat) : Dk :=
  if s.off then s else if t.length ≠ 64 then s else if outD s n then s else if spendE s = 0 then ⟨s.last, s.pend ++ [(n.toNat, t)], (spendS s).lim, (spendS s).off⟩ else spendS s
def flushE (s : Dk) : Int := if s.off then 8 else spendE s
def flushS (s : Dk) : Dk := if s.off then s else if spendE s = 0 then ⟨putP s.pend s.last, [], (spendS s).lim, (spendS s).off⟩ else spendS s
def limitS (s : Dk) (n : Int) : Dk := ⟨s.last, s.pend, if n < 0 then none else some n.toNat, s.off⟩
def crashS (s : Dk) (keep : List Bool) : Dk := ⟨putP (keptP s.pend keep s.pend.length) s.last, [], none, false⟩
def lastE (s : Dk) (n : Int) : Int := if outD s n then 7 else 0

theorem not_out {s : Dk} {n : Int} (h : ¬ outD s n) : ∃ i : Nat, n = (i : Int) ∧ i < s.last.length := by
  unfold outD at h
  exact ⟨n.toNat, by omega, by omega⟩
theorem in_not {s : Dk} {i : Nat} (h : i < s.last.length) : ¬ outD s (i : Int) := by unfold outD; omega
theorem seenP_sec {s : Dk} (h : s.ok) {i : Nat} (hi : i < s.last.length) : Sec (nowD s i) := by
  unfold nowD
  have key : ∀ (ps : List (Nat × List Nat)) (t : List Nat), (∀ p ∈ ps, Sec p.2) → Sec t → Sec (seenP i ps t) := by
    intro ps
    induction ps with
    | nil => intro t _ ht; exact ht
    | cons p ps ih =>
      intro t hp ht
      unfold seenP
      refine ih _ (fun q hq => hp q (List.mem_cons_of_mem _ hq)) ?_
      split
      · exact hp p (List.mem_cons_self ..)
      · exact ht
  refine key s.pend _ (fun p hp => ?_) (h.sec i hi)
  obtain ⟨j, hj, e⟩ := List.getElem_of_mem hp
  have := (h.pen j hj).2
  rw [List.getD_eq_getElem?_getD, List.getElem?_eq_getElem hj] at this
  rw [← e]; exact this
theorem putP_ok {s : Dk} (h : s.ok) (ps : List (Nat × List Nat)) (hps : ∀ p ∈ ps, p ∈ s.pend) (lim : Option Nat) (off : Bool) : (⟨putP ps s.last, [], lim, off⟩ : Dk).ok := by
  refine ⟨by rw [putP_len]; exact h.pos, by rw [putP_len]; exact h.le, fun i hi => ?_, fun i hi => by simp at hi⟩
  rw [putP_len] at hi
  rw [putP_at i _ _ hi]
  have h2 : (⟨s.last, ps, none, false⟩ : Dk).ok := by
    refine ⟨h.pos, h.le, h.sec, fun j hj => ?_⟩
    have hm : ps.getD j (0, []) ∈ s.pend := by
      rw [List.getD_eq_getElem?_getD, List.getElem?_eq_getElem hj]; exact hps _ (List.getElem_mem hj)
    obtain ⟨m, hm1, hm2⟩ := List.getElem_of_mem hm
    have := h.pen m hm1
    rw [List.getD_eq_getElem?_getD, List.getElem?_eq_getElem hm1] at this
    rw [← hm2]; exact this
  exact seenP_sec (s := ⟨s.last, ps, none, false⟩) h2 hi
theorem spend_ok {s : Dk} (h : s.ok) : (spendS s).ok := by unfold spendS; split <;> exact ⟨h.pos, h.le, h.sec, h.pen⟩
theorem write_ok {s : Dk} (h : s.ok) (n : Int) {t : List Nat} (ht : ∀ y ∈ t, y < 256) : (writeS s n t).ok := by
  unfold writeS
  split
  · exact h
  · split
    · exact h
    · rename_i hl
      split
      · exact h
      · rename_i ho
        split
        · obtain ⟨i, rfl, hi⟩ := not_out ho
          refine ⟨h.pos, h.le, h.sec, fun j hj => ?_⟩
          simp only [List.length_append, List.length_cons, List.length_nil] at hj
          rw [List.getD_eq_getElem?_getD]
          by_cases hj2 : j < s.pend.length
          · rw [List.getElem?_append_left hj2, ← List.getD_eq_getElem?_getD]; exact h.pen j hj2
          · rw [List.getElem?_append_right (by omega), show j - s.pend.length = 0 by omega]
            exact ⟨by simpa using hi, by simpa using hl, ht⟩
        · exact spend_ok h
theorem flush_ok {s : Dk} (h : s.ok) : (flushS s).ok := by
  unfold flushS
  split
  · exact h
  · split
    · exact putP_ok h s.pend (fun _ hp => hp) _ _
    · exact spend_ok h
theorem limit_ok {s : Dk} (h : s.ok) (n : Int) : (limitS s n).ok := ⟨h.pos, h.le, h.sec, h.pen⟩
theorem crash_ok {s : Dk} (h : s.ok) (keep : List Bool) : (crashS s keep).ok := putP_ok h _ (fun p hp => keptP_mem (Nat.le_refl _) p hp) _ _
theorem write_len (s : Dk) (n : Int) (t : List Nat) : (writeS s n t).last.length = s.last.length ∧ (writeS s n t).pend.length ≤ s.pend.length + 1 := by
  unfold writeS spendS
  (repeat' split) <;> simp
theorem flush_len (s : Dk) : (flushS s).last.length = s.last.length ∧ (flushS s).pend.length ≤ s.pend.length := by
  unfold flushS spendS
  (repeat' split) <;> simp [putP_len]
theorem crash_len (s : Dk) (keep : List Bool) : (crashS s keep).last.length = s.last.length ∧ (crashS s keep).pend.length = 0 := ⟨putP_len _ _, rfl⟩

/-! ### With a limit so many are done -/
structure LimD (n i : Nat) (s : Dk) : Prop where
  ok : s.ok
  three : s.last.length = 3
  pen : s.pend.length ≤ i
  on : i ≤ n → s.off = false ∧ s.lim = some (n - i)
  off : n < i → s.off = true
theorem lim_start (n : Nat) : LimD n 0 (limitS (newD 3) (n : Int)) :=
  ⟨limit_ok (newD_ok (by decide) (by decide)) _, by simp [limitS, newD], by simp [limitS, newD], fun _ => ⟨rfl, by
    unfold limitS
    rw [if_neg (by omega)]; simp⟩, fun h => absurd h (Nat.not_lt_zero _)⟩
theorem lim_spend {n i : Nat} {s : Dk} (h : LimD n i s) : (i < n → s.off = false ∧ spendE s = 0 ∧ (spendS s).lim = some (n - (i + 1)) ∧ (spendS s).off = false) ∧ (i = n → s.off = false ∧ spendE s = 8 ∧ (spendS s).off = true) ∧ (n < i → s.off = true) := by
  refine ⟨fun hi => ?_, fun hi => ?_, h.off⟩
  · obtain ⟨h1, h2⟩ := h.on (by omega)
    have hne : ¬ (some (n - i) = some 0) := fun e => by injection e with e; omega
    unfold spendE spendS
    rw [h2, if_neg hne, if_neg hne]
    exact ⟨h1, rfl, by simp; omega, h1⟩
  · obtain ⟨h1, h2⟩ := h.on (by omega)
    have he : (some (n - i) = some 0) := by rw [hi, Nat.sub_self]
    unfold spendE spendS
    rw [h2, if_pos he, if_pos he]
    exact ⟨h1, rfl, rfl⟩
theorem lim_flush {n i : Nat} {s : Dk} (h : LimD n i s) : LimD n (i + 1) (flushS s) ∧ flushE s = if i < n then 0 else 8 := by
  obtain ⟨h1, h2, h3⟩ := lim_spend h
  have hl := flush_len s
  have hk := flush_ok h.ok
  refine ⟨⟨hk, by rw [hl.1]; exact h.three, by have := h.pen; omega, fun hi => ?_, fun hi => ?_⟩, ?_⟩
  · obtain ⟨q1, q2, q3, q4⟩ := h1 (by omega)
    unfold flushS
    rw [q1, q2]
    exact ⟨q4, q3⟩
  · by_cases e : i = n
    · obtain ⟨q1, q2, q3⟩ := h2 e
      unfold flushS
      rw [q1, q2]
      exact q3
    · have q1 := h3 (by omega)
      unfold flushS
      rw [q1]
      exact q1
  · unfold flushE
    by_cases e : i < n
    · obtain ⟨q1, q2, _⟩ := h1 e
      rw [q1, q2, if_pos e]; rfl
    · rw [if_neg e]
      by_cases e2 : i = n
      · obtain ⟨q1, q2, _⟩ := h2 e2
        rw [q1, q2]; rfl
      · rw [h3 (by omega)]; rfl
theorem lim_write {n i : Nat} {s : Dk} (h : LimD n i s) {k : Nat} (hk3 : k < 3) : LimD n (i + 1) (writeS s (k : Int) zeroSec) ∧ writeE s (k : Int) zeroSec = if i < n then 0 else 8 := by
  obtain ⟨h1, h2, h3⟩ := lim_spend h
  have hl := write_len s (k : Int) zeroSec
  have hk := write_ok h.ok (k : Int) sec_zero.2
  have ho : ¬ outD s (k : Int) := in_not (by rw [h.three]; exact hk3)
  have hz : ¬ (zeroSec.length ≠ 64) := by rw [sec_zero.1]; simp
  refine ⟨⟨hk, by rw [hl.1]; exact h.three, by have := h.pen; omega, fun hi => ?_, fun hi => ?_⟩, ?_⟩
  · obtain ⟨q1, q2, q3, q4⟩ := h1 (by omega)
    unfold writeS
    rw [q1, q2, if_neg hz, if_neg ho]
    exact ⟨q4, q3⟩
  · by_cases e : i = n
    · obtain ⟨q1, q2, q3⟩ := h2 e
      unfold writeS
      rw [q1, q2, if_neg hz, if_neg ho]
      exact q3
    · have q1 := h3 (by omega)
      unfold writeS
      rw [q1]
      exact q1
  · unfold writeE
    rw [if_neg hz, if_neg ho]
    by_cases e : i < n
    · obtain ⟨q1, q2, _⟩ := h1 e
      rw [q1, q2, if_pos e]; rfl
    · rw [if_neg e]
      by_cases e2 : i = n
      · obtain ⟨q1, q2, _⟩ := h2 e2
        rw [q1, q2]; rfl
      · rw [h3 (by omega)]; rfl

/-! ### Power, no limit -/
structure FreeD (N i : Nat) (s : Dk) : Prop where
  ok : s.ok
  len : s.last.length = N
  pen : s.pend.length ≤ i
  lim : s.lim = none
  on : s.off = false
theorem free_new {N : Nat} (h1 : 1 ≤ N) (h2 : N ≤ 4096) : FreeD N 0 (newD N) := ⟨newD_ok h1 h2, by simp [newD], by simp [newD], rfl, rfl⟩
theorem free_spend {N i : Nat} {s : Dk} (h : FreeD N i s) : spendE s = 0 ∧ spendS s = s := by
  have hne : ¬ ((none : Option Nat) = some 0) := by simp
  obtain ⟨l, p, m, o⟩ := s
  have := h.lim
  simp only at this
  subst this
  exact ⟨if_neg hne, by unfold spendS; rw [if_neg hne]; rfl⟩
theorem free_write {N i : Nat} {s : Dk} (h : FreeD N i s) {k : Nat} (hk : k < N) {t : List Nat} (ht : Sec t) : FreeD N (i + 1) (writeS s (k : Int) t) ∧ writeE s (k : Int) t = 0 ∧ writeS s (k : Int) t = ⟨s.last, s.pend ++ [(k, t)], s.lim, s.off⟩ := by
  obtain ⟨q1, q2⟩ := free_spend h
  have ho : ¬ outD s (k : Int) := in_not (by rw [h.len]; exact hk)
  have hz : ¬ (t.length ≠ 64) := by rw [ht.1]; simp
  have e : writeS s (k : Int) t = ⟨s.last, s.pend ++ [(k, t)], s.lim, s.off⟩ := by
    unfold writeS
    rw [h.on, q1, q2, if_neg hz, if_neg ho]
    simp [h.on]
  refine ⟨⟨write_ok h.ok _ ht.2, by rw [(write_len s _ t).1]; exact h.len, by have := (write_len s (k : Int) t).2; have := h.pen; omega, by rw [e]; exact h.lim, by rw [e]; exact h.on⟩, ?_, e⟩
  unfold writeE
  rw [h.on, if_neg hz, if_neg ho, q1]; rfl
theorem free_flush {N i : Nat} {s : Dk} (h : FreeD N i s) : FreeD N 0 (flushS s) ∧ flushE s = 0 ∧ flushS s = ⟨putP s.pend s.last, [], none, false⟩ := by
  obtain ⟨q1, q2⟩ := free_spend h
  have e : flushS s = ⟨putP s.pend s.last, [], none, false⟩ := by
    unfold flushS
    rw [h.on, q1, q2, h.lim, h.on]; rfl
  refine ⟨⟨flush_ok h.ok, by rw [(flush_len s).1]; exact h.len, by rw [e]; exact Nat.le_refl _, by rw [e], by rw [e]⟩, ?_, e⟩
  unfold flushE
  rw [h.on, q1]; rfl
theorem free_crash {N i : Nat} {s : Dk} (h : s.ok) (hl : s.last.length = N) (keep : List Bool) : FreeD N i (crashS s keep) := ⟨crash_ok h keep, by rw [(crash_len s keep).1]; exact hl, Nat.zero_le _, rfl, rfl⟩
theorem free_read {N i : Nat} {s : Dk} (h : FreeD N i s) {k : Nat} (hk : k < N) : readE s (k : Int) = 0 ∧ lastE s (k : Int) = 0 := by
  have ho : ¬ outD s (k : Int) := in_not (by rw [h.len]; exact hk)
  unfold readE lastE
  rw [h.on, if_neg ho]
  exact ⟨rfl, rfl⟩
/-- Behind a flush, and behind any crash then, all is as it was. -/
theorem flush_now {N i : Nat} {s : Dk} (h : FreeD N i s) {k : Nat} (hk : k < N) : nowD (flushS s) k = nowD s k ∧ (flushS s).last.getD k [] = nowD s k := by
  rw [(free_flush h).2.2]
  unfold nowD
  exact ⟨putP_at k _ _ (by rw [h.len]; exact hk), putP_at k _ _ (by rw [h.len]; exact hk)⟩
theorem crash_flushed {N i : Nat} {s : Dk} (h : FreeD N i s) (keep : List Bool) : crashS (flushS s) keep = flushS s := by
  rw [(free_flush h).2.2]; rfl

/-! ### Which texts a sector may have behind a crash -/
def mayD (s : Dk) (n : Nat) : List (List Nat) := s.last.getD n [] :: (s.pend.filter fun p => p.1 == n).map Prod.snd
theorem may_new {N k : Nat} (hk : k < N) : mayD (newD N) k = [zeroSec] := by
  simp [mayD, newD, List.getD_eq_getElem?_getD, hk]
theorem may_write {N i : Nat} {s : Dk} (h : FreeD N i s) {k : Nat} (hk : k < N) {t : List Nat} (ht : Sec t) (m : Nat) : mayD (writeS s (k : Int) t) m = if k = m then mayD s m ++ [t] else mayD s m := by
  rw [(free_write h hk ht).2.2]
  unfold mayD
  simp only [List.filter_append, List.filter_cons, List.filter_nil]
  by_cases e : k = m
  · subst e; simp
  · simp [e]
theorem seen_may (n : Nat) : ∀ (ps : List (Nat × List Nat)) (t : List Nat), (t :: (ps.filter fun p => p.1 == n).map Prod.snd).getLast? = some (seenP n ps t)
  | [], _ => rfl
  | p :: ps, t => by
    unfold seenP
    by_cases e : p.1 = n
    · rw [if_pos e, ← seen_may n ps p.2]
      simp [e, List.getLast?_cons_cons]
    · rw [if_neg e, ← seen_may n ps t]
      simp [e]
theorem may_last (s : Dk) (n : Nat) : (mayD s n).getLast? = some (nowD s n) := seen_may n s.pend _
theorem may_flush {N i : Nat} {s : Dk} (h : FreeD N i s) {k : Nat} (hk : k < N) : mayD (flushS s) k = [nowD s k] := by
  have h1 := (flush_now h hk).2
  unfold mayD
  rw [h1, (free_flush h).2.2]; rfl
theorem may_crash {s : Dk} (keep : List Bool) {k : Nat} (hk : k < s.last.length) : nowD (crashS s keep) k ∈ mayD s k := by
  have e : nowD (crashS s keep) k = seenP k (keptP s.pend keep s.pend.length) (s.last.getD k []) := putP_at k _ _ hk
  rw [e]
  have key : ∀ (ps : List (Nat × List Nat)) (t : List Nat), seenP k ps t = t ∨ ∃ p ∈ ps, p.1 = k ∧ seenP k ps t = p.2 := by
    intro ps
    induction ps with
    | nil => intro t; exact Or.inl rfl
    | cons p ps ih =>
      intro t
      unfold seenP
      rcases ih (if p.1 = k then p.2 else t) with h | ⟨q, h1, h2, h3⟩
      · by_cases ep : p.1 = k
        · rw [if_pos ep] at h ⊢
          exact Or.inr ⟨p, List.mem_cons_self .., ep, h⟩
        · rw [if_neg ep] at h ⊢
          exact Or.inl h
      · exact Or.inr ⟨q, List.mem_cons_of_mem _ h1, h2, h3⟩
  unfold mayD
  rcases key (keptP s.pend keep s.pend.length) (s.last.getD k []) with h | ⟨q, h1, h2, h3⟩
  · rw [h]; exact List.mem_cons_self ..
  · rw [h3]
    refine List.mem_cons_of_mem _ (List.mem_map.2 ⟨q, List.mem_filter.2 ⟨keptP_mem (Nat.le_refl _) q h1, by simpa using h2⟩, rfl⟩)
theorem may_len {s : Dk} (n : Nat) : (mayD s n).length ≤ s.pend.length + 1 := by
  unfold mayD
  rw [List.length_cons, List.length_map]
  have := List.length_filter_le (fun p : Nat × List Nat => p.1 == n) s.pend
  omega

end Go.Proofs.YtbnhkplhmanmoaaGreat

namespace Go.Proofs.YtbnhkplhmanmoaaGreat
open Go.RowKit

structure Rc where
  k : Int
  a : Int
  b : Int
  c : Int
  d : Int
  key : ByteArray
theorem rc_ext (x y : Rc) : (x.k = y.k ∧ x.a = y.a ∧ x.b = y.b ∧ x.c = y.c ∧ x.d = y.d ∧ x.key = y.key) ↔ x = y := by
  constructor
  · obtain ⟨_, _, _, _, _, _⟩ := x
    obtain ⟨_, _, _, _, _, _⟩ := y
    rintro ⟨h1, h2, h3, h4, h5, h6⟩
    simp only at h1 h2 h3 h4 h5 h6
    subst h1 h2 h3 h4 h5 h6; rfl
  · rintro rfl; exact ⟨rfl, rfl, rfl, rfl, rfl, rfl⟩
instance : DecidableEq Rc := fun x y => decidable_of_iff _ (rc_ext x y)
def rcV (r : Rc) : Array Value := #[.int .i64 r.k, .int .i64 r.a, .int .i64 r.b, .int .i64 r.c, .int .i64 r.d, .string r.key]
def I64n (n : Int) : Prop := -9223372036854775808 ≤ n ∧ n ≤ 9223372036854775807
structure Rc.ok (r : Rc) : Prop where
  k : I64n r.k
  a : I64n r.a
  b : I64n r.b
  c : I64n r.c
  d : I64n r.d
  key : r.key.size ≤ 9223372036854775807
/-- A slice of records. -/
def RecsAt (w : World) (B : Nat) (A : Option Addr) (rs : List Rc) : Prop :=
  ∀ k, (h : k < rs.length) → ∃ b off, A = some ⟨b, off, none⟩ ∧ b < B ∧ w.cell? ⟨b, off + 6 * k, none⟩ = some (.int .i64 rs[k].k) ∧ w.cell? ⟨b, off + 6 * k + 1, none⟩ = some (.int .i64 rs[k].a) ∧ w.cell? ⟨b, off + 6 * k + 2, none⟩ = some (.int .i64 rs[k].b) ∧
    w.cell? ⟨b, off + 6 * k + 3, none⟩ = some (.int .i64 rs[k].c) ∧ w.cell? ⟨b, off + 6 * k + 4, none⟩ = some (.int .i64 rs[k].d) ∧ w.cell? ⟨b, off + 6 * k + 5, none⟩ = some (.string rs[k].key)
theorem RecsAt.below {w w' : World} {B : Nat} {A : Option Addr} {rs : List Rc} (h : RecsAt w B A rs) (hb : Below B w w') : RecsAt w' B A rs := fun k hk => by
  obtain ⟨b, off, e, hl, c0, c1, c2, c3, c4, c5⟩ := h k hk
  exact ⟨b, off, e, hl, (hb.cell (p := ⟨b, _, none⟩) hl).trans c0, (hb.cell (p := ⟨b, _, none⟩) hl).trans c1, (hb.cell (p := ⟨b, _, none⟩) hl).trans c2, (hb.cell (p := ⟨b, _, none⟩) hl).trans c3, (hb.cell (p := ⟨b, _, none⟩) hl).trans c4, (hb.cell (p := ⟨b, _, none⟩) hl).trans c5⟩
theorem RecsAt.more {w : World} {B B' : Nat} {A : Option Addr} {rs : List Rc} (h : RecsAt w B A rs) (hB : B ≤ B') : RecsAt w B' A rs := fun k hk => by
  obtain ⟨b, off, e, hl, h'⟩ := h k hk
  exact ⟨b, off, e, by omega, h'⟩
theorem RecsAt.nil (w : World) (B : Nat) (A : Option Addr) : RecsAt w B A [] := fun _ h => absurd h (Nat.not_lt_zero _)

end Go.Proofs.YtbnhkplhmanmoaaGreat

namespace Go.Proofs.YtbnhkplhmanmoaaGreat
open Go.RowKit

/-- The first k of the s bytes of n, the greatest first. -/
def bytesTo (n : Int) (s k : Nat) : List Int := (List.range k).map fun i => n / 256 ^ (s - 1 - i) % 256
def bytesOf (n : Int) (s : Nat) : List Int := bytesTo n s s
theorem bytesTo_len (n : Int) (s k : Nat) : (bytesTo n s k).length = k := by simp [bytesTo]
theorem bytesOf_len (n : Int) (s : Nat) : (bytesOf n s).length = s := bytesTo_len n s s
theorem bytesTo_succ (n : Int) (s k : Nat) : bytesTo n s (k + 1) = bytesTo n s k ++ [n / 256 ^ (s - 1 - k) % 256] := by
  simp [bytesTo, List.range_succ]
theorem bytesTo_zero (n : Int) (s : Nat) : bytesTo n s 0 = [] := rfl
theorem bytesTo_mem (n : Int) (s k : Nat) : ∀ z ∈ bytesTo n s k, 0 ≤ z ∧ z ≤ 255 := by
  intro z hz
  simp only [bytesTo, List.mem_map] at hz
  obtain ⟨i, _, rfl⟩ := hz
  omega
theorem bytesOf_mem (n : Int) (s : Nat) : ∀ z ∈ bytesOf n s, 0 ≤ z ∧ z ≤ 255 := bytesTo_mem n s s

/-- The number that bytes are. -/
def valOf (l : List Int) : Int := l.foldl (fun a x => a * 256 + x) 0
theorem valOf_nil : valOf [] = 0 := rfl
theorem valOf_snoc (l : List Int) (x : Int) : valOf (l ++ [x]) = valOf l * 256 + x := by simp [valOf, List.foldl_append]
theorem valOf_bd (l : List Int) (h : ∀ z ∈ l, 0 ≤ z ∧ z ≤ 255) : 0 ≤ valOf l ∧ valOf l < 256 ^ l.length := by
  suffices H : ∀ n (l : List Int), l.length = n → (∀ z ∈ l, 0 ≤ z ∧ z ≤ 255) → 0 ≤ valOf l ∧ valOf l < 256 ^ l.length from H _ l rfl h
  intro n
  induction n with
  | zero => intro l hl _; have : l = [] := List.eq_nil_of_length_eq_zero hl; subst this; simp [valOf]
  | succ n ih =>
    intro l hl hm
    have hne : l ≠ [] := by intro e; subst e; simp at hl
    obtain ⟨a, x, rfl⟩ : ∃ a x, l = a ++ [x] := ⟨l.dropLast, l.getLast hne, (List.dropLast_concat_getLast hne).symm⟩
    have hx := hm x (by simp)
    have ha := ih a (by simpa using hl) (fun z hz => hm z (by simp [hz]))
    rw [valOf_snoc, List.length_append, List.length_singleton, Int.pow_succ]
    omega
theorem pow_le8 (s : Nat) (h : s ≤ 8) : (256 : Int) ^ s ≤ 18446744073709551616 := by
  rcases Nat.lt_or_ge s 8 with h8 | h8
  · have : s = 0 ∨ s = 1 ∨ s = 2 ∨ s = 3 ∨ s = 4 ∨ s = 5 ∨ s = 6 ∨ s = 7 := by omega
    rcases this with rfl | rfl | rfl | rfl | rfl | rfl | rfl | rfl <;> decide
  · have : s = 8 := by omega
    subst this; decide
theorem pow_pos (s : Nat) : (0 : Int) < 256 ^ s := Int.pow_pos (by decide)
theorem pow_le7 (s : Nat) (h : s ≤ 7) : (256 : Int) ^ s ≤ 72057594037927936 := by
  have : s = 0 ∨ s = 1 ∨ s = 2 ∨ s = 3 ∨ s = 4 ∨ s = 5 ∨ s = 6 ∨ s = 7 := by omega
  rcases this with rfl | rfl | rfl | rfl | rfl | rfl | rfl | rfl <;> decide
theorem pow_8 (k : Nat) : (2 : Int) ^ (8 * k) = 256 ^ k := by rw [Int.pow_mul]; rfl

/-- Sizes, and whether a number fits. -/
def szOk (s : Int) : Bool := decide (1 ≤ s ∧ s ≤ 8)
def fitB (n s : Int) : Bool := decide (n < 256 ^ s.toNat)
def szs (sizes : List Int) : Bool := decide (sizes.length ≤ 4096) && sizes.all szOk
def total (sizes : List Int) : Int := sizes.foldl (fun a s => a + s) 0
theorem total_snoc (l : List Int) (x : Int) : total (l ++ [x]) = total l + x := by simp [total, List.foldl_append]
theorem total_cons (l : List Int) (x : Int) : total (x :: l) = x + total l := by
  unfold total
  have H : ∀ (l : List Int) (a : Int), l.foldl (fun a s => a + s) a = a + l.foldl (fun a s => a + s) 0 := by
    intro l
    induction l with
    | nil => intro a; simp
    | cons y ys ih => intro a; rw [List.foldl_cons, List.foldl_cons, ih (a + y), ih (0 + y)]; omega
  rw [List.foldl_cons, H]; omega
theorem total_bd (l : List Int) (h : l.all szOk = true) : (l.length : Int) ≤ total l ∧ total l ≤ 8 * l.length := by
  induction l with
  | nil => simp [total]
  | cons y ys ih =>
    simp only [List.all_cons, Bool.and_eq_true, szOk, decide_eq_true_eq] at h
    have := ih h.2
    rw [total_cons, List.length_cons]
    omega

/-- Fields: the error's number and the bytes. -/
def fieldsE (list sizes : List Int) : Int :=
  if szs sizes = true ∧ list.length = sizes.length then (if (list.zip sizes).all (fun p => fitB p.1 p.2) = true then 0 else 7) else 1
def fieldsTo (list sizes : List Int) (k : Nat) : List Int := ((list.zip sizes).take k).flatMap fun p => bytesOf p.1 p.2.toNat
def fieldsB (list sizes : List Int) : List Int := if fieldsE list sizes = 0 then (list.zip sizes).flatMap (fun p => bytesOf p.1 p.2.toNat) else []

/-- Get: the error's number and the number. -/
def getE (zs : List Int) (s : Int) : Int := if szOk s = true then (if (zs.length : Int) < s then 3 else 0) else 1
def getV (zs : List Int) (s : Int) : Int := if getE zs s = 0 then valOf (zs.take s.toNat) else 0
/-- Split: the error's number and the numbers. -/
def splitE (zs sizes : List Int) : Int := if szs sizes = true then (if (zs.length : Int) < total sizes then 3 else if total sizes < (zs.length : Int) then 2 else 0) else 1
def partsOf : List Int → List Int → List Int
  | _, [] => []
  | zs, s :: ss => valOf (zs.take s.toNat) :: partsOf (zs.drop s.toNat) ss
def splitL (zs sizes : List Int) : List Int := if splitE zs sizes = 0 then partsOf zs sizes else []
theorem szs_one (s : Int) : szs [s] = szOk s := by simp [szs]
theorem total_one (s : Int) : total [s] = s := by simp [total]
theorem partsOf_len (zs sizes : List Int) : (partsOf zs sizes).length = sizes.length := by
  induction sizes generalizing zs with
  | nil => rfl
  | cons s ss ih => simp [partsOf, ih]
theorem partsOf_append (zs a b : List Int) (h : a.all szOk = true) : partsOf zs (a ++ b) = partsOf zs a ++ partsOf (zs.drop (total a).toNat) b := by
  induction a generalizing zs with
  | nil => simp [partsOf, total]
  | cons s ss ih =>
    simp only [List.all_cons, Bool.and_eq_true] at h
    have hs : 1 ≤ s ∧ s ≤ 8 := by simpa only [szOk, decide_eq_true_eq] using h.1
    have ht := total_bd ss h.2
    rw [List.cons_append, partsOf, ih _ h.2, partsOf, List.cons_append, List.drop_drop, total_cons]
    congr 3
    congr 1
    omega
theorem zip_at (list sizes : List Int) (k : Nat) (h1 : k < list.length) (h2 : k < sizes.length) : (list.zip sizes)[k]? = some (list.getD k 0, sizes.getD k 0) := by
  rw [List.getElem?_eq_getElem (by simp; omega), List.getElem_zip]
  simp [List.getD, h1, h2]
theorem zip_take_snoc (list sizes : List Int) (k : Nat) (h1 : k < list.length) (h2 : k < sizes.length) : (list.zip sizes).take (k + 1) = (list.zip sizes).take k ++ [(list.getD k 0, sizes.getD k 0)] := by
  have hk : k < (list.zip sizes).length := by simp; omega
  have hz := zip_at list sizes k h1 h2
  rw [List.getElem?_eq_getElem hk] at hz
  rw [List.take_succ_eq_append_getElem hk]
  injection hz with hz
  rw [hz]
theorem fieldsTo_succ (list sizes : List Int) (k : Nat) (h1 : k < list.length) (h2 : k < sizes.length) :
    fieldsTo list sizes (k + 1) = fieldsTo list sizes k ++ bytesOf (list.getD k 0) (sizes.getD k 0).toNat := by
  unfold fieldsTo
  rw [zip_take_snoc list sizes k h1 h2, List.flatMap_append]
  simp
theorem fieldsTo_zero (list sizes : List Int) : fieldsTo list sizes 0 = [] := by simp [fieldsTo]
theorem fieldsTo_len (list sizes : List Int) (h : sizes.all szOk = true) : ∀ k, (fieldsTo list sizes k).length ≤ 8 * k := by
  intro k
  induction k with
  | zero => simp [fieldsTo]
  | succ k ih =>
    by_cases h1 : k < list.length ∧ k < sizes.length
    · rw [fieldsTo_succ list sizes k h1.1 h1.2, List.length_append, bytesOf_len]
      have hm : sizes.getD k 0 ∈ sizes := by simp [List.getD, h1.2]
      have := List.all_eq_true.1 h _ hm
      simp only [szOk, decide_eq_true_eq] at this
      omega
    · have hl : (list.zip sizes).length ≤ k := by simp; omega
      unfold fieldsTo at ih ⊢
      rw [List.take_of_length_le (by omega)]
      rw [List.take_of_length_le hl] at ih
      omega
theorem fieldsE_arg {list sizes : List Int} (h : szs sizes = false ∨ list.length ≠ sizes.length) : fieldsE list sizes = 1 ∧ fieldsB list sizes = [] := by
  have : fieldsE list sizes = 1 := by
    unfold fieldsE
    rw [if_neg]
    rintro ⟨a, b⟩
    rcases h with h | h
    · rw [h] at a; cases a
    · exact h b
  exact ⟨this, by unfold fieldsB; rw [this]; rfl⟩
theorem fieldsE_range {list sizes : List Int} (h : szs sizes = true) (hl : list.length = sizes.length) (k : Nat) (hk : k < list.length) (hf : fitB (list.getD k 0) (sizes.getD k 0) = false) : fieldsE list sizes = 7 ∧ fieldsB list sizes = [] := by
  have : fieldsE list sizes = 7 := by
    unfold fieldsE
    rw [if_pos ⟨h, hl⟩, if_neg]
    intro ha
    have hz := zip_at list sizes k hk (by omega)
    have := List.all_eq_true.1 ha _ (List.mem_of_getElem? hz)
    simp only [hf] at this
    cases this
  exact ⟨this, by unfold fieldsB; rw [this]; rfl⟩
theorem fieldsE_ok {list sizes : List Int} (h : szs sizes = true) (hl : list.length = sizes.length) (ha : ((list.zip sizes).take list.length).all (fun p => fitB p.1 p.2) = true) : fieldsE list sizes = 0 ∧ fieldsB list sizes = fieldsTo list sizes list.length := by
  have hz : (list.zip sizes).take list.length = list.zip sizes := List.take_of_length_le (by simp; omega)
  rw [hz] at ha
  have : fieldsE list sizes = 0 := by
    unfold fieldsE
    rw [if_pos ⟨h, hl⟩, if_pos ha]
  exact ⟨this, by unfold fieldsB fieldsTo; rw [this, hz]; rfl⟩

end Go.Proofs.YtbnhkplhmanmoaaGreat

namespace Go.Proofs.YtbnhkplhmanmoaaGreat
open Go.RowKit

theorem foldl_val (l : List Int) : ∀ a : Int, l.foldl (fun a x => a * 256 + x) a = a * 256 ^ l.length + valOf l := by
  induction l with
  | nil => intro a; simp [valOf]
  | cons x l ih =>
    intro a
    unfold valOf
    rw [List.foldl_cons, List.foldl_cons, ih, ih (0 * 256 + x), List.length_cons, Int.pow_succ]
    have e1 : (a * 256 + x) * 256 ^ l.length = a * 256 * 256 ^ l.length + x * 256 ^ l.length := by rw [Int.add_mul]
    have e2 : a * (256 ^ l.length * 256) = a * 256 * 256 ^ l.length := by rw [Int.mul_comm (256 ^ l.length) 256, Int.mul_assoc]
    rw [e1, e2, Int.zero_mul, Int.zero_add]
    omega
theorem valOf_cons (x : Int) (l : List Int) : valOf (x :: l) = x * 256 ^ l.length + valOf l := by
  show (x :: l).foldl (fun a x => a * 256 + x) 0 = _
  rw [List.foldl_cons, foldl_val, Int.zero_mul, Int.zero_add]
theorem valOf_bytesTo (n : Int) (s : Nat) (h0 : 0 ≤ n) (h : n < 256 ^ s) : ∀ k, k ≤ s → valOf (bytesTo n s k) = n / 256 ^ (s - k) := by
  intro k
  induction k with
  | zero => intro _; rw [bytesTo_zero, valOf_nil, Nat.sub_zero, Int.ediv_eq_zero_of_lt h0 h]
  | succ k ih =>
    intro hk
    rw [bytesTo_succ, valOf_snoc, ih (by omega)]
    have e : s - k = (s - 1 - k) + 1 := by omega
    have e2 : s - (k + 1) = s - 1 - k := by omega
    rw [e2, e, Int.pow_succ, ← Int.ediv_ediv_of_nonneg (Int.le_of_lt (pow_pos _))]
    omega
theorem valOf_bytesOf (n : Int) (s : Nat) (h0 : 0 ≤ n) (h : n < 256 ^ s) : valOf (bytesOf n s) = n := by
  have := valOf_bytesTo n s h0 h s (Nat.le_refl _)
  rw [Nat.sub_self, Int.pow_zero, Int.ediv_one] at this
  exact this
theorem val_step {x y v u p : Int} (hv : 0 ≤ v ∧ v < p) (hu : 0 ≤ u ∧ u < p) (h : x < y) : x * p + v < y * p + u := by
  have h1 : (x + 1) * p ≤ y * p := Int.mul_le_mul_of_nonneg_right (by omega) (by omega)
  rw [Int.add_mul, Int.one_mul] at h1
  omega
theorem byte_lt {a b : Int} (ha : 0 ≤ a ∧ a ≤ 255) (hb : 0 ≤ b ∧ b ≤ 255) : (UInt8.ofNat a.toNat < UInt8.ofNat b.toNat) ↔ a < b := by
  rw [UInt8.lt_iff_toNat_lt, UInt8.toNat_ofNat', UInt8.toNat_ofNat']
  omega
theorem byte_eq {a b : Int} (ha : 0 ≤ a ∧ a ≤ 255) (hb : 0 ≤ b ∧ b ≤ 255) : (UInt8.ofNat a.toNat = UInt8.ofNat b.toNat) ↔ a = b := by
  rw [← UInt8.toNat_inj, UInt8.toNat_ofNat', UInt8.toNat_ofNat']
  omega
theorem less_val : ∀ (a b : List Int), a.length = b.length → (∀ z ∈ a, 0 ≤ z ∧ z ≤ 255) → (∀ z ∈ b, 0 ≤ z ∧ z ≤ 255) →
    Op.bytesLess (a.map fun n => UInt8.ofNat n.toNat) (b.map fun n => UInt8.ofNat n.toNat) = decide (valOf a < valOf b) := by
  intro a
  induction a with
  | nil =>
    intro b hl _ _
    have : b = [] := List.eq_nil_of_length_eq_zero (by simpa using hl.symm)
    subst this
    rfl
  | cons x a ih =>
    intro b hl ha hb
    cases b with
    | nil => simp at hl
    | cons y b =>
      have hl' : a.length = b.length := by simpa using hl
      have hx := ha x (by simp)
      have hy := hb y (by simp)
      have ha' := fun z hz => ha z (List.mem_cons_of_mem _ hz)
      have hb' := fun z hz => hb z (List.mem_cons_of_mem _ hz)
      have va := valOf_bd a ha'
      have vb := valOf_bd b hb'
      rw [List.map_cons, List.map_cons, Op.bytesLess, ih b hl' ha' hb', valOf_cons, valOf_cons, hl']
      rw [hl'] at va
      rw [Bool.eq_iff_iff]
      simp only [Bool.or_eq_true, Bool.and_eq_true, decide_eq_true_eq, beq_iff_eq, byte_lt hx hy, byte_eq hx hy]
      constructor
      · rintro (h | ⟨rfl, h⟩)
        · exact val_step va vb h
        · omega
      · intro h
        rcases Int.lt_trichotomy x y with h1 | h1 | h1
        · exact .inl h1
        · subst h1; exact .inr ⟨rfl, by omega⟩
        · have := val_step vb va h1
          omega
theorem val_inj : ∀ (a b : List Int), a.length = b.length → (∀ z ∈ a, 0 ≤ z ∧ z ≤ 255) → (∀ z ∈ b, 0 ≤ z ∧ z ≤ 255) → valOf a = valOf b → a = b := by
  intro a
  induction a with
  | nil =>
    intro b hl _ _ _
    exact (List.eq_nil_of_length_eq_zero (by simpa using hl.symm)).symm
  | cons x a ih =>
    intro b hl ha hb h
    cases b with
    | nil => simp at hl
    | cons y b =>
      have hl' : a.length = b.length := by simpa using hl
      have ha' := fun z hz => ha z (List.mem_cons_of_mem _ hz)
      have hb' := fun z hz => hb z (List.mem_cons_of_mem _ hz)
      have va := valOf_bd a ha'
      have vb := valOf_bd b hb'
      rw [valOf_cons, valOf_cons, hl'] at h
      rw [hl'] at va
      have hxy : x = y := by
        rcases Int.lt_trichotomy x y with h1 | h1 | h1
        · have := val_step va vb h1; omega
        · exact h1
        · have := val_step vb va h1; omega
      subst hxy
      rw [ih b hl' ha' hb' (by omega)]
theorem bytesOf_valOf (l : List Int) (h : ∀ z ∈ l, 0 ≤ z ∧ z ≤ 255) : bytesOf (valOf l) l.length = l :=
  val_inj _ _ (bytesOf_len _ _) (bytesOf_mem _ _) h (valOf_bytesOf _ _ (valOf_bd l h).1 (valOf_bd l h).2)
/-- A byte more: a byte 0 ahead. -/
theorem bytesOf_more (n : Int) (s : Nat) (h0 : 0 ≤ n) (h : n < 256 ^ s) : bytesOf n (s + 1) = 0 :: bytesOf n s := by
  have hp := pow_pos s
  have h2 : n < 256 ^ (s + 1) := by rw [Int.pow_succ]; omega
  refine val_inj _ _ ?_ (bytesOf_mem _ _) ?_ ?_
  · rw [List.length_cons, bytesOf_len, bytesOf_len]
  · intro z hz
    rcases List.mem_cons.1 hz with rfl | hz
    · omega
    · exact bytesOf_mem _ _ z hz
  · rw [valOf_bytesOf n (s + 1) h0 h2, valOf_cons, Int.zero_mul, Int.zero_add, valOf_bytesOf n s h0 h]

theorem strList (l : List Int) : (strOfNums l).toList = l.map fun n => UInt8.ofNat n.toNat := ByteArray.toList_mk _
theorem strCat (a b : List Int) : strOfNums a ++ strOfNums b = strOfNums (a ++ b) := by
  apply ByteArray.ext
  rw [ByteArray.data_append]
  simp [strOfNums]
theorem strZero (l : List Int) : (⟨#[0]⟩ : ByteArray) ++ strOfNums l = strOfNums (0 :: l) := strCat [0] l

end Go.Proofs.YtbnhkplhmanmoaaGreat
