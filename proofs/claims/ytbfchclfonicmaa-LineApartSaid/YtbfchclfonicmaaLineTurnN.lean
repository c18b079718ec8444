/-
  Plain: a line's sector of which a burst of up to 32 bits was turned, ahead of its sum, is no sector of a line. No program is spoken of here.
-/
import Derived.Test.YtbfchclfonicmaaLineNums
import Derived.Test.YtbfchclfonicmaaCrcBurst
namespace Go.Proofs.Ytbfchclfonicmaa
open Go.RowKit

theorem turned_get (zs : List Int) (i t k j : Nat) (h : j < zs.length) : (turned zs i t k)[j]? = some (if i ≤ j ∧ j < i + k then (((zs.getD j 0).toNat ^^^ (t / 256 ^ (j - i) % 256) : Nat) : Int) else zs.getD j 0) := by
  unfold turned
  rw [List.getElem?_map, List.getElem?_range h]; rfl
theorem turned_app (a b : List Int) (i t : Nat) (h : i + 4 ≤ a.length) : turned (a ++ b) i t 4 = turned a i t 4 ++ b := by
  refine List.ext_getElem? fun j => ?_
  by_cases hja : j < a.length
  · rw [turned_get _ _ _ _ _ (by rw [List.length_append]; omega), List.getElem?_append_left (by rw [turned_len]; exact hja), turned_get _ _ _ _ _ hja]
    have e : (a ++ b).getD j 0 = a.getD j 0 := by simp [List.getD, List.getElem?_append_left hja]
    rw [e]
  · rw [List.getElem?_append_right (by rw [turned_len]; omega), turned_len]
    by_cases hj : j < a.length + b.length
    · rw [turned_get _ _ _ _ _ (by rw [List.length_append]; omega), if_neg (by omega), List.getD_eq_getElem?_getD, List.getElem?_append_right (by omega), List.getElem?_eq_getElem (by omega)]; rfl
    · rw [List.getElem?_eq_none (by rw [turned_len, List.length_append]; omega), List.getElem?_eq_none (by omega)]
theorem bytesOf_inj4 {a b : Nat} (ha : a < 2 ^ 32) (hb : b < 2 ^ 32) (h : bytesOf (a : Nat) 4 = bytesOf (b : Nat) 4) : a = b := by
  have h1 := valOf_bytesOf (a : Int) 4 (by omega) (by omega)
  have h2 := valOf_bytesOf (b : Int) 4 (by omega) (by omega)
  rw [h, h2] at h1
  omega
theorem turned_dec {l : Ln} (hE : encE l = 0) {i t : Nat} (hi : i + 4 ≤ 60) (ht : t < 2 ^ 32) (h0 : t ≠ 0) : decR (turned (encB l) i t 4) = (2, zeroL) := by
  have hbl : (bodyL l).length = 60 := bodyL_len (by have := (encE_zero.1 hE).2; omega)
  rcases dec_cases (turned (encB l) i t 4) with ⟨_, _, h3, h4⟩ | h
  · exfalso
    have hb2 : (bodyL (decR (turned (encB l) i t 4)).2).length = 60 := bodyL_len (by have := (encE_zero.1 h3).2; omega)
    have e1 : turned (encB l) i t 4 = turned (bodyL l) i t 4 ++ sumB (bodyL l) := by unfold encB; exact turned_app _ _ i t (by omega)
    obtain ⟨m, hm⟩ : ∃ m, m = (decR (turned (encB l) i t 4)).2 := ⟨_, rfl⟩
    rw [← hm] at h4 hb2
    rw [e1] at h4
    unfold encB at h4
    have h5 := (List.append_inj h4 (by rw [hb2, turned_len, hbl]))
    have h6 : moreN 0 (nb (bodyL m)) = moreN 0 (nb (bodyL l)) := bytesOf_inj4 (moreN_lt _ _) (moreN_lt _ _) h5.2
    rw [h5.1] at h6
    exact turned_sum (bodyL l) i t (bodyL_mem l) (by omega) ht h0 h6
  · exact h
/-- A line that is written has numbers that are small. -/
theorem small_of {n m : Int} (h : 0 ≤ n ∧ n ≤ m) (hm : m ≤ 9223372036854775807) : -9223372036854775808 ≤ n ∧ n ≤ 9223372036854775807 := by omega

end Go.Proofs.Ytbfchclfonicmaa
