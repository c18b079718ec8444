/-
  Equal texts, equal numbers.
-/
import Derived.Test.YtbmgiekiildaaaaArrs
import Derived.Lib.Bytes
namespace Go.Proofs.Ytbmgiekiildaaaa
open Go.RowKit

theorem strOfNums_up {a b : List Nat} (ha : ∀ x ∈ a, x < 256) (hb : ∀ x ∈ b, x < 256) (h : (strOfNums (up a)).toList = (strOfNums (up b)).toList) : a = b := by
  rw [Lib.strOfNums_toList, Lib.strOfNums_toList] at h
  have e : ∀ l : List Nat, (∀ x ∈ l, x < 256) → (Lib.bytesOf (up l)).map UInt8.toNat = l := fun l hl => by
    unfold Lib.bytesOf up
    rw [List.map_map, List.map_map]
    conv => rhs; rw [← List.map_id l]
    apply List.map_congr_left
    intro x hx
    simp [Nat.mod_eq_of_lt (hl x hx)]
  rw [← e a ha, ← e b hb, h]
theorem text_apart {x y : List Nat} (hx : ∀ z ∈ x, z < 256) (hy : ∀ z ∈ y, z < 256) : ((strOfNums (up x)).toList == (strOfNums (up y)).toList) = (x == y) := by
  by_cases h : x = y
  · rw [h, beq_self_eq_true, beq_self_eq_true]
  · rw [beq_eq_false_iff_ne.2 h, beq_eq_false_iff_ne.2 (fun hh => h (strOfNums_up hx hy hh))]

end Go.Proofs.Ytbmgiekiildaaaa
