/-
  Plain: a ring of places, marks and a hand. No program is spoken of here.
-/
import Derived.WalkKit
namespace Go.Proofs.Ytdfalnjdjkoofaa
open Go.RowKit

structure Ck where
  t : List Int
  m : List Bool
  h : Nat
structure Ck.ok (s : Ck) (N : Nat) : Prop where
  len : s.t.length = N
  mrk : s.m.length = N
  pos : 1 ≤ N
  hnd : s.h < N
def newC (n : Nat) : Ck := ⟨List.replicate n (-1), List.replicate n false, 0⟩
theorem newC_ok {n : Nat} (h : 1 ≤ n) : (newC n).ok n := ⟨by simp [newC], by simp [newC], h, h⟩
def putE (s : Ck) (n : Int) : Int := if n < 0 then 1 else if s.t.contains n then 5 else if s.t.contains (-1) then 0 else 6
def putA (s : Ck) (n : Int) : Int := if putE s n = 0 then (s.t.idxOf (-1) : Nat) else 0
def putS (s : Ck) (n : Int) : Ck := if putE s n = 0 then ⟨s.t.set (s.t.idxOf (-1)) n, s.m.set (s.t.idxOf (-1)) true, s.h⟩ else s
def touchE (s : Ck) (n : Int) : Int := if n < 0 then 4 else if s.t.contains n then 0 else 4
def touchS (s : Ck) (n : Int) : Ck := if touchE s n = 0 then ⟨s.t, s.m.set (s.t.idxOf n) true, s.h⟩ else s
def dropS (s : Ck) (n : Int) : Ck := if touchE s n = 0 then ⟨s.t.set (s.t.idxOf n) (-1), s.m, s.h⟩ else s
def stepK (may : List Int) (s : Ck) : Ck × Option Int :=
  if s.t.getD s.h 0 < 0 ∨ may.contains (s.t.getD s.h 0) = false then (⟨s.t, s.m, (s.h + 1) % s.t.length⟩, none)
  else if s.m.getD s.h false then (⟨s.t, s.m.set s.h false, (s.h + 1) % s.t.length⟩, none)
  else (⟨s.t.set s.h (-1), s.m, (s.h + 1) % s.t.length⟩, some (s.t.getD s.h 0))
def goK (may : List Int) : Nat → Ck → Ck × Option Int
  | 0, s => (s, none)
  | f + 1, s => match stepK may s with
    | (s', some n) => (s', some n)
    | (s', none) => goK may f s'
def anyK (s : Ck) (may : List Int) : Bool := s.t.any fun n => decide (0 ≤ n) && may.contains n
def leaveR (s : Ck) (may : List Int) : Ck × Option Int := if anyK s may then goK may (2 * s.t.length + 1) s else (s, none)
def leaveS (s : Ck) (may : List Int) : Ck := (leaveR s may).1
def leaveE (s : Ck) (may : List Int) : Int := match (leaveR s may).2 with | some _ => 0 | none => 4
def leaveN (s : Ck) (may : List Int) : Int := ((leaveR s may).2).getD 0

theorem idx_lt {l : List Int} {z : Int} (h : l.contains z = true) : l.idxOf z < l.length := List.idxOf_lt_length_of_mem (by simpa using h)
theorem idx_at {l : List Int} {z : Int} (h : l.contains z = true) : l.getD (l.idxOf z) 0 = z := by
  have hl := idx_lt h
  rw [List.getD_eq_getElem?_getD, List.getElem?_eq_getElem hl]
  simp
theorem put_ok {s : Ck} {N : Nat} (h : s.ok N) (n : Int) : (putS s n).ok N := by
  unfold putS
  split
  · exact ⟨by simp [h.len], by simp [h.mrk], h.pos, h.hnd⟩
  · exact h
theorem touch_ok {s : Ck} {N : Nat} (h : s.ok N) (n : Int) : (touchS s n).ok N := by
  unfold touchS
  split
  · exact ⟨h.len, by simp [h.mrk], h.pos, h.hnd⟩
  · exact h
theorem drop_ok {s : Ck} {N : Nat} (h : s.ok N) (n : Int) : (dropS s n).ok N := by
  unfold dropS
  split
  · exact ⟨by simp [h.len], h.mrk, h.pos, h.hnd⟩
  · exact h
theorem step_ok {s : Ck} {N : Nat} (h : s.ok N) (may : List Int) : (stepK may s).1.ok N := by
  have hm : (s.h + 1) % s.t.length < N := by rw [h.len]; exact Nat.mod_lt _ h.pos
  unfold stepK
  split
  · exact ⟨h.len, h.mrk, h.pos, hm⟩
  · split
    · exact ⟨h.len, by simp [h.mrk], h.pos, hm⟩
    · exact ⟨by simp [h.len], h.mrk, h.pos, hm⟩
theorem go_ok (may : List Int) : ∀ (f : Nat) {s : Ck} {N : Nat}, s.ok N → (goK may f s).1.ok N
  | 0, _, _, h => h
  | f + 1, s, N, h => by
    have h1 := step_ok h may
    unfold goK
    split
    · rename_i s' n e
      rw [e] at h1; exact h1
    · rename_i s' e
      rw [e] at h1
      exact go_ok may f h1
theorem leave_ok {s : Ck} {N : Nat} (h : s.ok N) (may : List Int) : (leaveS s may).ok N := by
  unfold leaveS leaveR
  split
  · exact go_ok may _ h
  · exact h

/-- More steps end as these did. -/
theorem go_more (may : List Int) : ∀ (f d : Nat) (s : Ck), (goK may f s).2.isSome = true → goK may (f + d) s = goK may f s
  | 0, _, _, h => absurd h (by simp [goK])
  | f + 1, d, s, h => by
    rw [show f + 1 + d = (f + d) + 1 by omega]
    unfold goK at h ⊢
    split
    · rfl
    · rename_i s' e
      rw [e] at h
      exact go_more may f d s' h
/-- The way to a place. -/
def dist (N p h : Nat) : Nat := (p + N - h) % N
theorem dist_next {N p h : Nat} (hp : p < N) (hh : h < N) (hne : p ≠ h) : dist N p ((h + 1) % N) + 1 = dist N p h := by
  unfold dist
  by_cases e : h + 1 = N
  · rw [e, Nat.mod_self, Nat.sub_zero, Nat.add_mod_right, Nat.mod_eq_of_lt hp, show p + N - h = p + 1 by omega, Nat.mod_eq_of_lt (by omega)]
  · rw [Nat.mod_eq_of_lt (by omega : h + 1 < N)]
    rcases Nat.lt_or_ge h p with g | g
    · rw [show p + N - (h + 1) = (p - h - 1) + N by omega, Nat.add_mod_right, Nat.mod_eq_of_lt (by omega), show p + N - h = (p - h) + N by omega, Nat.add_mod_right, Nat.mod_eq_of_lt (by omega)]
      omega
    · rw [Nat.mod_eq_of_lt (by omega : p + N - (h + 1) < N), Nat.mod_eq_of_lt (by omega : p + N - h < N)]
      omega
theorem dist_round {N p : Nat} (hp : p < N) : dist N p ((p + 1) % N) + 1 = N := by
  unfold dist
  by_cases e : p + 1 = N
  · rw [e, Nat.mod_self, Nat.sub_zero, Nat.add_mod_right, Nat.mod_eq_of_lt hp]; exact e
  · rw [Nat.mod_eq_of_lt (by omega : p + 1 < N), Nat.mod_eq_of_lt (by omega : p + N - (p + 1) < N)]
    omega
theorem dist_zero {N p h : Nat} (hp : p < N) (hh : h < N) : dist N p h = 0 ↔ p = h := by
  unfold dist
  constructor
  · intro e
    rcases Nat.lt_or_ge h p with g | g
    · rw [show p + N - h = (p - h) + N by omega, Nat.add_mod_right, Nat.mod_eq_of_lt (by omega)] at e; omega
    · by_cases g2 : h = p
      · exact g2.symm
      · rw [Nat.mod_eq_of_lt (by omega : p + N - h < N)] at e; omega
  · rintro rfl
    rw [Nat.add_sub_cancel_left, Nat.mod_self]
theorem getD_setI13 (l : List Int) (b : Nat) (v : Int) (i : Nat) (d : Int) : (l.set b v).getD i d = if b = i ∧ i < l.length then v else l.getD i d := by
  rw [List.getD_eq_getElem?_getD, List.getD_eq_getElem?_getD, List.getElem?_set]
  by_cases h1 : b = i
  · subst h1
    by_cases h2 : b < l.length
    · rw [if_pos rfl, if_pos h2, if_pos ⟨rfl, h2⟩]; rfl
    · rw [if_pos rfl, if_neg h2, if_neg (fun q => h2 q.2), List.getElem?_eq_none (by omega)]
  · rw [if_neg h1, if_neg (fun q => h1 q.1)]
theorem getD_setB (l : List Bool) (b : Nat) (v : Bool) (i : Nat) (d : Bool) : (l.set b v).getD i d = if b = i ∧ i < l.length then v else l.getD i d := by
  rw [List.getD_eq_getElem?_getD, List.getD_eq_getElem?_getD, List.getElem?_set]
  by_cases h1 : b = i
  · subst h1
    by_cases h2 : b < l.length
    · rw [if_pos rfl, if_pos h2, if_pos ⟨rfl, h2⟩]; rfl
    · rw [if_pos rfl, if_neg h2, if_neg (fun q => h2 q.2), List.getElem?_eq_none (by omega)]
  · rw [if_neg h1, if_neg (fun q => h1 q.1)]
/-- A place whose thing may leave. -/
def May13 (s : Ck) (may : List Int) (p : Nat) : Prop := 0 ≤ s.t.getD p 0 ∧ may.contains (s.t.getD p 0) = true
/-- One step, where nothing leaves. -/
theorem step_none {s s' : Ck} {may : List Int} (h : stepK may s = (s', none)) : s'.t = s.t ∧ s'.h = (s.h + 1) % s.t.length ∧ (∀ i, s'.m.getD i false = true → s.m.getD i false = true) ∧ (∀ i, i ≠ s.h → s'.m.getD i false = s.m.getD i false) ∧ (May13 s may s.h → s.m.getD s.h false = true ∧ (s.h < s.m.length → s'.m.getD s.h false = false)) := by
  unfold stepK at h
  split at h
  · rename_i hc
    injection h with e _
    subst e
    refine ⟨rfl, rfl, fun _ q => q, fun _ _ => rfl, fun hm => ?_⟩
    rcases hc with hc | hc
    · have := hm.1; omega
    · rw [hm.2] at hc; cases hc
  · split at h
    · rename_i hk
      injection h with e _
      subst e
      refine ⟨rfl, rfl, fun i q => ?_, fun i hi => ?_, fun _ => ⟨hk, fun hl => ?_⟩⟩
      · simp only [getD_setB] at q
        split at q
        · cases q
        · exact q
      · simp only [getD_setB]
        rw [if_neg (fun q => hi q.1.symm)]
      · simp only [getD_setB]
        rw [if_pos ⟨trivial, hl⟩]
    · injection h with _ e; cases e
theorem step_some {s s' : Ck} {may : List Int} {n : Int} (h : stepK may s = (s', some n)) : n = s.t.getD s.h 0 ∧ May13 s may s.h ∧ s.m.getD s.h false = false ∧ s' = ⟨s.t.set s.h (-1), s.m, (s.h + 1) % s.t.length⟩ := by
  unfold stepK at h
  split at h
  · injection h with _ e; cases e
  · rename_i hc
    split at h
    · injection h with _ e; cases e
    · rename_i hk
      injection h with e1 e2
      injection e2 with e2
      refine ⟨e2.symm, ⟨by omega, ?_⟩, by simpa using hk, e1.symm⟩
      cases hb : may.contains (s.t.getD s.h 0)
      · exact absurd (.inr hb) hc
      · rfl
/-- It ends: at an unmarked place that may, at the latest. -/
theorem go_free (may : List Int) : ∀ (d : Nat) {s : Ck} {N p : Nat}, s.ok N → p < N → May13 s may p → s.m.getD p false = false → dist N p s.h = d → (goK may (d + 1) s).2.isSome = true
  | d, s, N, p, hs, hp, hm, hf, hd => by
    unfold goK
    split
    · rfl
    · rename_i s' e
      obtain ⟨e1, e2, e3, e4, e5⟩ := step_none e
      have hs' : s'.ok N := by have := step_ok hs may; rw [e] at this; exact this
      by_cases hph : p = s.h
      · rw [hph] at hm hf
        rw [(e5 hm).1] at hf; cases hf
      · have hd0 : d ≠ 0 := fun h0 => hph ((dist_zero hp hs.hnd).1 (hd.trans h0))
        obtain ⟨d', rfl⟩ : ∃ d', d = d' + 1 := ⟨d - 1, by omega⟩
        refine go_free may d' hs' hp (by unfold May13; rw [e1]; exact hm) (by rw [e4 p hph]; exact hf) ?_
        have := dist_next hp hs.hnd hph
        rw [e2, hs.len]
        omega
theorem go_any (may : List Int) : ∀ (d : Nat) {s : Ck} {N p : Nat}, s.ok N → p < N → May13 s may p → dist N p s.h = d → (goK may (d + 1 + N) s).2.isSome = true
  | d, s, N, p, hs, hp, hm, hd => by
    rw [show d + 1 + N = (d + N) + 1 by omega]
    unfold goK
    split
    · rfl
    · rename_i s' e
      obtain ⟨e1, e2, e3, e4, e5⟩ := step_none e
      have hs' : s'.ok N := by have := step_ok hs may; rw [e] at this; exact this
      by_cases hph : p = s.h
      · subst hph
        have hd0 : d = 0 := hd.symm.trans ((dist_zero hp hs.hnd).2 rfl)
        subst hd0
        have hr := dist_round hp
        have h1 := go_free may (N - 1) hs' hp (by unfold May13; rw [e1]; exact hm) ((e5 hm).2 (by rw [hs.mrk]; exact hp)) (by rw [e2, hs.len]; omega)
        rw [show N - 1 + 1 = N by omega] at h1
        rw [Nat.zero_add]; exact h1
      · have hd0 : d ≠ 0 := fun h0 => hph ((dist_zero hp hs.hnd).1 (hd.trans h0))
        obtain ⟨d', rfl⟩ : ∃ d', d = d' + 1 := ⟨d - 1, by omega⟩
        have := dist_next hp hs.hnd hph
        exact go_any may d' hs' hp (by unfold May13; rw [e1]; exact hm) (by rw [e2, hs.len]; omega)
theorem any_place {s : Ck} {may : List Int} (h : anyK s may = true) : ∃ p, p < s.t.length ∧ May13 s may p := by
  unfold anyK at h
  rw [List.any_eq_true] at h
  obtain ⟨n, hn, hc⟩ := h
  obtain ⟨p, hp, e⟩ := List.getElem_of_mem hn
  rw [Bool.and_eq_true, decide_eq_true_eq] at hc
  refine ⟨p, hp, ?_, ?_⟩ <;> rw [List.getD_eq_getElem?_getD, List.getElem?_eq_getElem hp, Option.getD_some, e]
  · exact hc.1
  · exact hc.2
theorem place_any {s : Ck} {may : List Int} {p : Nat} (hp : p < s.t.length) (h : May13 s may p) : anyK s may = true := by
  unfold anyK
  rw [List.any_eq_true]
  refine ⟨s.t.getD p 0, ?_, ?_⟩
  · rw [List.getD_eq_getElem?_getD, List.getElem?_eq_getElem hp]; exact List.getElem_mem hp
  · rw [Bool.and_eq_true, decide_eq_true_eq]; exact h
/-- If one may, one leaves. -/
theorem leave_some {s : Ck} {N : Nat} {may : List Int} (hs : s.ok N) (h : anyK s may = true) : ∃ n, leaveR s may = ((goK may (2 * s.t.length + 1) s).1, some n) := by
  obtain ⟨p, hp, hm⟩ := any_place h
  rw [hs.len] at hp
  have h1 := go_any may (dist N p s.h) hs hp hm rfl
  have hd : dist N p s.h < N := Nat.mod_lt _ hs.pos
  have h2 := go_more may (dist N p s.h + 1 + N) (N - dist N p s.h) s h1
  have h3 : (goK may (2 * s.t.length + 1) s).2.isSome = true := by
    rw [hs.len, show 2 * N + 1 = dist N p s.h + 1 + N + (N - dist N p s.h) by omega, h2]; exact h1
  obtain ⟨n, hn⟩ := Option.isSome_iff_exists.1 h3
  refine ⟨n, ?_⟩
  unfold leaveR
  rw [if_pos h, ← hn]
/-- What leaves. -/
theorem go_gone (may : List Int) : ∀ (f : Nat) {s s' : Ck} {N : Nat} {n : Int}, s.ok N → goK may f s = (s', some n) → ∃ p, p < N ∧ s.t.getD p 0 = n ∧ 0 ≤ n ∧ may.contains n = true ∧ s'.t = s.t.set p (-1) ∧ ∀ i, s'.m.getD i false = true → s.m.getD i false = true
  | 0, s, s', N, n, _, h => by unfold goK at h; injection h with _ e; cases e
  | f + 1, s, s', N, n, hs, h => by
    unfold goK at h
    split at h
    · rename_i s2 n2 e
      injection h with q1 q2
      injection q2 with q2
      subst q1 q2
      obtain ⟨e1, e2, _, e4⟩ := step_some e
      refine ⟨s.h, hs.hnd, e1.symm, by rw [e1]; exact e2.1, by rw [e1]; exact e2.2, by rw [e4], fun i hi => by rw [e4] at hi; exact hi⟩
    · rename_i s2 e
      obtain ⟨e1, e2, e3, e4, e5⟩ := step_none e
      have hs2 : s2.ok N := by have := step_ok hs may; rw [e] at this; exact this
      obtain ⟨p, hp, q1, q2, q3, q4, q5⟩ := go_gone may f hs2 h
      rw [e1] at q1 q4
      exact ⟨p, hp, q1, q2, q3, q4, fun i hi => e3 i (q5 i hi)⟩

/-- A thing that is marked does not leave ahead of those that are not. -/
theorem go_kept (may : List Int) {kept : Int} {N a q : Nat} (hq : q < N) (ha : a < N) (hqa : q ≠ a) : ∀ (f : Nat) {s s' : Ck} {n : Int}, s.ok N → (∀ i, i < N → s.t.getD i 0 = kept → i = a) → (∀ i, i < N → i ≠ a → s.m.getD i false = false ∨ s.t.getD i 0 < 0 ∨ may.contains (s.t.getD i 0) = false) → May13 s may q → s.m.getD q false = false →
    (s.m.getD a false = false → dist N q s.h < dist N a s.h) → goK may f s = (s', some n) → n ≠ kept
  | 0, s, s', n, _, _, _, _, _, _, h => by unfold goK at h; injection h with _ e; cases e
  | f + 1, s, s', n, hs, hk, ho, hm, hmq, hinv, h => by
    unfold goK at h
    split at h
    · rename_i s2 n2 e
      injection h with q1 q2
      injection q2 with q2
      subst q1 q2
      obtain ⟨e1, e2, e3, _⟩ := step_some e
      intro hkn
      have hha := hk s.h hs.hnd (by rw [← e1]; exact hkn)
      rw [hha] at e3
      have h1 := hinv e3
      rw [(dist_zero ha hs.hnd).2 hha.symm] at h1
      omega
    · rename_i s2 e
      obtain ⟨e1, e2, e3, e4, e5⟩ := step_none e
      have hs2 : s2.ok N := by have := step_ok hs may; rw [e] at this; exact this
      have hqh : q ≠ s.h := fun hqh => by
        rw [hqh] at hm hmq
        rw [(e5 hm).1] at hmq; cases hmq
      have hdq := dist_next hq hs.hnd hqh
      refine go_kept may hq ha hqa f hs2 (fun i hi => by rw [e1]; exact hk i hi) (fun i hi hia => ?_) (by unfold May13; rw [e1]; exact hm) (by rw [e4 q hqh]; exact hmq) (fun hma => ?_) h
      · rw [e1]
        rcases ho i hi hia with g | g
        · left
          cases hb : s2.m.getD i false
          · rfl
          · rw [e3 i hb] at g; cases g
        · exact .inr g
      · rw [e2, hs.len]
        by_cases hah : a = s.h
        · have hr := dist_round ha
          rw [← hah] at hdq ⊢
          have hlt : dist N q a < N := Nat.mod_lt _ hs.pos
          omega
        · have hda := dist_next ha hs.hnd hah
          have := hinv (by rw [← e4 a hah]; exact hma)
          omega

end Go.Proofs.Ytdfalnjdjkoofaa
