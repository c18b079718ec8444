/-
  The document's own block: what it answers; nothing that was there is changed.
-/
import Derived.Test.YtcoiincgclglbaaAesExp
namespace Go.Proofs.Ytcoiincgclglbaa
open Go.RowKit

def lenB : Value → Nat
  | .slice _ n _ => n
  | _ => 0
/-- The first n entries of a list of 16. -/
def subTo (b : List Nat) (n : Nat) : List Nat := (List.range n).map fun i => sbox.getD (b.getD (4 * ((i / 4 + i % 4) % 4) + i % 4) 0) 0
theorem subTo_all (b : List Nat) : subTo b 16 = subL b := rfl
theorem subTo_succ (b : List Nat) (n : Nat) : subTo b (n + 1) = subTo b n ++ [sbox.getD (b.getD (4 * ((n / 4 + n % 4) % 4) + n % 4) 0) 0] := by simp [subTo, List.range_succ]
theorem subTo_len (b : List Nat) (n : Nat) : (subTo b n).length = n := by simp [subTo]
def mixTo (b : List Nat) (n : Nat) : List Nat := (List.range n).map fun i => mix1 (b.getD i 0) (b.getD (i / 4 * 4 + (i + 1) % 4) 0) (b.getD (i / 4 * 4 + (i + 2) % 4) 0) (b.getD (i / 4 * 4 + (i + 3) % 4) 0)
theorem mixTo_all (b : List Nat) : mixTo b 16 = mixL b := rfl
theorem mixTo_len (b : List Nat) (n : Nat) : (mixTo b n).length = n := by simp [mixTo]
theorem mixTo_succ (b : List Nat) (n : Nat) : mixTo b (n + 1) = mixTo b n ++ [mix1 (b.getD n 0) (b.getD (n / 4 * 4 + (n + 1) % 4) 0) (b.getD (n / 4 * 4 + (n + 2) % 4) 0) (b.getD (n / 4 * 4 + (n + 3) % 4) 0)] := by simp [mixTo, List.range_succ]
theorem mixTo_four (b : List Nat) (c : Nat) : mixTo b (4 * c + 4) = mixTo b (4 * c) ++ [mix1 (b.getD (4 * c) 0) (b.getD (4 * c + 1) 0) (b.getD (4 * c + 2) 0) (b.getD (4 * c + 3) 0), mix1 (b.getD (4 * c + 1) 0) (b.getD (4 * c + 2) 0) (b.getD (4 * c + 3) 0) (b.getD (4 * c) 0),
    mix1 (b.getD (4 * c + 2) 0) (b.getD (4 * c + 3) 0) (b.getD (4 * c) 0) (b.getD (4 * c + 1) 0), mix1 (b.getD (4 * c + 3) 0) (b.getD (4 * c) 0) (b.getD (4 * c + 1) 0) (b.getD (4 * c + 2) 0)] := by
  have e0 := mixTo_succ b (4 * c)
  have e1 := mixTo_succ b (4 * c + 1)
  have e2 := mixTo_succ b (4 * c + 2)
  have e3 := mixTo_succ b (4 * c + 3)
  rw [show 4 * c / 4 * 4 + (4 * c + 1) % 4 = 4 * c + 1 by omega, show 4 * c / 4 * 4 + (4 * c + 2) % 4 = 4 * c + 2 by omega, show 4 * c / 4 * 4 + (4 * c + 3) % 4 = 4 * c + 3 by omega] at e0
  rw [show (4 * c + 1) / 4 * 4 + (4 * c + 1 + 1) % 4 = 4 * c + 2 by omega, show (4 * c + 1) / 4 * 4 + (4 * c + 1 + 2) % 4 = 4 * c + 3 by omega, show (4 * c + 1) / 4 * 4 + (4 * c + 1 + 3) % 4 = 4 * c by omega] at e1
  rw [show (4 * c + 2) / 4 * 4 + (4 * c + 2 + 1) % 4 = 4 * c + 3 by omega, show (4 * c + 2) / 4 * 4 + (4 * c + 2 + 2) % 4 = 4 * c by omega, show (4 * c + 2) / 4 * 4 + (4 * c + 2 + 3) % 4 = 4 * c + 1 by omega] at e2
  rw [show (4 * c + 3) / 4 * 4 + (4 * c + 3 + 1) % 4 = 4 * c by omega, show (4 * c + 3) / 4 * 4 + (4 * c + 3 + 2) % 4 = 4 * c + 1 by omega, show (4 * c + 3) / 4 * 4 + (4 * c + 3 + 3) % 4 = 4 * c + 2 by omega] at e3
  rw [show 4 * c + 4 = 4 * c + 3 + 1 from rfl, e3, show 4 * c + 3 = 4 * c + 2 + 1 from rfl, e2, show 4 * c + 2 = 4 * c + 1 + 1 from rfl, e1, e0]
  simp
/-- The first n entries have the round's key. -/
def addTo' (key b : List Nat) (r n : Nat) : List Nat := (List.range 16).map fun i => if i < n then b.getD i 0 ^^^ kb key (16 * r + i) else b.getD i 0
theorem addTo'_len (key b : List Nat) (r n : Nat) : (addTo' key b r n).length = 16 := by simp [addTo']
theorem addTo'_zero {key b : List Nat} (h : b.length = 16) (r : Nat) : addTo' key b r 0 = b := L16_ext h fun i _ => by simp
theorem addTo'_all (key b : List Nat) (r : Nat) : addTo' key b r 16 = addK key b r := by
  unfold addTo' addK L16
  apply List.map_congr_left
  intro i hi
  rw [if_pos (List.mem_range.1 hi)]; rfl
theorem addTo'_at (key b : List Nat) (r n i : Nat) (h : i < 16) : (addTo' key b r n).getD i 0 = if i < n then b.getD i 0 ^^^ kb key (16 * r + i) else b.getD i 0 := by
  rw [List.getD_eq_getElem?_getD, List.getElem?_eq_getElem (by rw [addTo'_len]; exact h), Option.getD_some]
  simp [addTo']
theorem addTo'_next (key b : List Nat) (r n : Nat) : (addTo' key b r n).set n (b.getD n 0 ^^^ kb key (16 * r + n)) = addTo' key b r (n + 1) := by
  apply List.ext_getElem
  · simp [addTo']
  · intro i h1 h2
    rw [List.getElem_set]
    simp only [addTo', List.getElem_map, List.getElem_range]
    by_cases e : n = i
    · subst e; simp
    · rw [if_neg e]
      by_cases hlt : i < n
      · rw [if_pos hlt, if_pos (by omega)]
      · rw [if_neg hlt, if_neg (by omega)]

end Go.Proofs.Ytcoiincgclglbaa
