/-
  Plain: how many steps the hand goes before one leaves. No program is spoken of here.
-/
import Derived.Test.YtdfalnjdjkoofaaClockNums
namespace Go.Proofs.Ytdfalnjdjkoofaa

def fuelK (may : List Int) : Nat → Ck → Nat
  | 0, _ => 0
  | f + 1, s => match stepK may s with
    | (_, some _) => 0
    | (s', none) => fuelK may f s' + 1
theorem fuel_more (may : List Int) : ∀ (f d : Nat) (s : Ck), (goK may f s).2.isSome = true → fuelK may (f + d) s = fuelK may f s
  | 0, _, _, h => absurd h (by simp [goK])
  | f + 1, d, s, h => by
    rw [show f + 1 + d = (f + d) + 1 by omega]
    unfold goK at h
    unfold fuelK
    split
    · rfl
    · rename_i s' e
      rw [e] at h
      rw [fuel_more may f d s' h]
/-- Where nothing leaves, one step less is to be gone, and it ends alike. -/
theorem goK_next {may : List Int} {f : Nat} {s s' : Ck} (h : (goK may f s).2.isSome = true) (e : stepK may s = (s', none)) : goK may f s' = goK may f s ∧ fuelK may f s' < fuelK may f s := by
  have h1 := go_more may f 1 s h
  have h2 := fuel_more may f 1 s h
  have h3 : goK may (f + 1) s = goK may f s' := by
    show (match stepK may s with | (s', some n) => (s', some n) | (s', none) => goK may f s') = _
    rw [e]
  have h4 : fuelK may (f + 1) s = fuelK may f s' + 1 := by
    show (match stepK may s with | (_, some _) => 0 | (s', none) => fuelK may f s' + 1) = _
    rw [e]
  exact ⟨h3.symm.trans h1, by omega⟩
theorem goK_last {may : List Int} {f : Nat} {s s' : Ck} {n : Int} (h : (goK may f s).2.isSome = true) (e : stepK may s = (s', some n)) : goK may f s = (s', some n) := by
  have h1 := go_more may f 1 s h
  rw [← h1]
  show (match stepK may s with | (s', some n) => (s', some n) | (s', none) => goK may f s') = _
  rw [e]
/-- A place whose thing may leave. -/
def mayB (s : Ck) (may : List Int) (i : Nat) : Bool := decide (0 ≤ s.t.getD i 0) && may.contains (s.t.getD i 0)
theorem step_skip {s : Ck} {may : List Int} (h : mayB s may s.h = false) : stepK may s = (⟨s.t, s.m, (s.h + 1) % s.t.length⟩, none) := by
  unfold stepK
  rw [if_pos]
  unfold mayB at h
  rw [Bool.and_eq_false_iff] at h
  rcases h with h | h
  · exact .inl (by have := of_decide_eq_false h; omega)
  · exact .inr h
theorem step_strike {s : Ck} {may : List Int} (h : mayB s may s.h = true) (hm : s.m.getD s.h false = true) : stepK may s = (⟨s.t, s.m.set s.h false, (s.h + 1) % s.t.length⟩, none) := by
  unfold mayB at h
  rw [Bool.and_eq_true, decide_eq_true_eq] at h
  unfold stepK
  rw [if_neg (by rintro (q | q); · omega
                 · rw [h.2] at q; cases q), if_pos hm]
theorem step_leaves {s : Ck} {may : List Int} (h : mayB s may s.h = true) (hm : s.m.getD s.h false = false) : stepK may s = (⟨s.t.set s.h (-1), s.m, (s.h + 1) % s.t.length⟩, some (s.t.getD s.h 0)) := by
  unfold mayB at h
  rw [Bool.and_eq_true, decide_eq_true_eq] at h
  unfold stepK
  rw [if_neg (by rintro (q | q); · omega
                 · rw [h.2] at q; cases q), hm, if_neg (by decide)]
theorem any_of {s : Ck} {may : List Int} {i : Nat} (hi : i < s.t.length) (h : mayB s may i = true) : anyK s may = true := by
  unfold mayB at h
  rw [Bool.and_eq_true, decide_eq_true_eq] at h
  exact place_any hi h
theorem any_not {s : Ck} {may : List Int} (h : ∀ i, i < s.t.length → mayB s may i = false) : anyK s may = false := by
  cases hb : anyK s may
  · rfl
  · obtain ⟨p, hp, hm⟩ := any_place hb
    have := h p hp
    unfold mayB at this
    rw [decide_eq_true hm.1, hm.2] at this
    cases this

end Go.Proofs.Ytdfalnjdjkoofaa
