/-
  Plain: a block's place, distances of references, histograms. No program is spoken of here.
-/
import Derived.WalkKit
import Derived.Laws.BitsAllLaws
namespace Go.Proofs.Ytphejkcdddkfnaa
open Go.RowKit

/-- A number of 64 bits without a sign. -/
def wN (n : Int) : Nat := (n % 18446744073709551616).toNat
theorem wN_lt (n : Int) : wN n < 18446744073709551616 := by unfold wN; omega
theorem wN_eq (n : Int) : IntKind.u64.wrap n = (wN n : Int) := by
  rw [IntKind.wrap_u64]
  unfold wN
  omega
def hashA (v b : Int) : Nat := wN ((wN (11400714819323198485 * (wN v : Int)) : Int) + (wN (14029467366897019727 * (wN b : Int)) : Int))
def hashM (v b : Int) : Nat := wN (((hashA v b ^^^ hashA v b / 536870912 : Nat) : Int) * 13787848793156543929)
def hashN (v b : Int) : Nat := (hashM v b ^^^ hashM v b / 4294967296) % 16777216
theorem hashN_lt (v b : Int) : hashN v b < 16777216 := Nat.mod_lt _ (by decide)

/-- How many different other numbers stand ahead of place k back to the last one that is x; -1: there is none. -/
def distFrom (l : List Int) (x : Int) : Nat → List Int → Int
  | 0, _ => -1
  | k + 1, seen => if l.getD k 0 = x then seen.length else distFrom l x k (if l.getD k 0 ∈ seen then seen else seen ++ [l.getD k 0])
def distAt (l : List Int) (i : Nat) : Int := distFrom l (l.getD i 0) i []
def distL (l : List Int) : List Int := (List.range l.length).map (distAt l)
def distR (l : List Int) : List Int := if 4096 < l.length then [] else distL l
theorem distL_len (l : List Int) : (distL l).length = l.length := by simp [distL]
/-- How often each number is there, and how many others. -/
def countI (ds : List Int) (i : Nat) : Nat := ds.countP fun d => decide (d = (i : Int))
def histC (ds : List Int) (n : Nat) : List Int := (List.range n).map fun i => (countI ds i : Int)
def histO (ds : List Int) (n : Nat) : Nat := ds.countP fun d => !(decide (0 ≤ d) && decide (d < (n : Int)))
theorem histC_len (ds : List Int) (n : Nat) : (histC ds n).length = n := by simp [histC]

/-- What stands behind changes nothing. -/
theorem distFrom_take (l : List Int) (x : Int) (n : Nat) : ∀ (k : Nat) (seen : List Int), k ≤ n → distFrom (l.take n) x k seen = distFrom l x k seen
  | 0, _, _ => rfl
  | k + 1, seen, h => by
    have e : (l.take n).getD k 0 = l.getD k 0 := by simp [List.getD, show k < n by omega]
    unfold distFrom
    rw [e]
    split
    · rfl
    · exact distFrom_take l x n k _ (by omega)
theorem distL_take (l : List Int) (n : Nat) (hn : n ≤ l.length) : distL (l.take n) = (distL l).take n := by
  unfold distL
  rw [← List.map_take, List.take_range, List.length_take, Nat.min_eq_left hn]
  refine List.map_congr_left fun i hi => ?_
  have hi := List.mem_range.1 hi
  unfold distAt
  rw [distFrom_take l _ n i [] (by omega)]
  congr 1
  simp [List.getD, hi]
/-- Other names. -/
theorem distFrom_map (f : Int → Int) (l : List Int) (x : Int) (hf : ∀ a ∈ x :: l, ∀ b ∈ x :: l, f a = f b → a = b) : ∀ (k : Nat) (seen : List Int), k ≤ l.length → (∀ a ∈ seen, a ∈ l) → distFrom (l.map f) (f x) k (seen.map f) = distFrom l x k seen
  | 0, _, _, _ => rfl
  | k + 1, seen, h, hs => by
    have hk : k < l.length := by omega
    have hm : l.getD k 0 ∈ l := by rw [List.getD_eq_getElem?_getD, List.getElem?_eq_getElem hk]; exact List.getElem_mem hk
    have e : (l.map f).getD k 0 = f (l.getD k 0) := by simp [List.getD, hk]
    unfold distFrom
    rw [e]
    by_cases hx : l.getD k 0 = x
    · rw [if_pos hx, if_pos (by rw [hx]), List.length_map]
    · rw [if_neg hx, if_neg (fun q => hx (hf _ (List.mem_cons_of_mem _ hm) _ (List.mem_cons_self ..) q))]
      by_cases hin : l.getD k 0 ∈ seen
      · rw [if_pos hin, if_pos (List.mem_map_of_mem hin)]
        exact distFrom_map f l x hf k seen (by omega) hs
      · rw [if_neg hin, if_neg (fun q => by
          obtain ⟨a, ha, q⟩ := List.mem_map.1 q
          exact hin (hf _ (List.mem_cons_of_mem _ (hs a ha)) _ (List.mem_cons_of_mem _ hm) q ▸ ha))]
        have := distFrom_map f l x hf k (seen ++ [l.getD k 0]) (by omega) (fun a ha => by
          rcases List.mem_append.1 ha with h1 | h1
          · exact hs a h1
          · rw [List.mem_singleton.1 h1]; exact hm)
        rw [List.map_append] at this
        exact this
theorem distL_map (f : Int → Int) (l : List Int) (hf : ∀ a ∈ l, ∀ b ∈ l, f a = f b → a = b) : distL (l.map f) = distL l := by
  unfold distL
  rw [List.length_map]
  refine List.map_congr_left fun i hi => ?_
  have hi := List.mem_range.1 hi
  have hm : l.getD i 0 ∈ l := by rw [List.getD_eq_getElem?_getD, List.getElem?_eq_getElem hi]; exact List.getElem_mem hi
  unfold distAt
  rw [show (l.map f).getD i 0 = f (l.getD i 0) by simp [List.getD, hi]]
  have hc : ∀ a ∈ l.getD i 0 :: l, a ∈ l := fun a ha => by
    rcases List.mem_cons.1 ha with h | h
    · rw [h]; exact hm
    · exact h
  exact distFrom_map f l _ (fun a ha b hb => hf a (hc a ha) b (hc b hb)) i [] (by omega) (fun a ha => by cases ha)

end Go.Proofs.Ytphejkcdddkfnaa
