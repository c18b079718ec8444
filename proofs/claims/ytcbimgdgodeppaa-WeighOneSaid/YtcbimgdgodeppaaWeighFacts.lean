/-
  Plain facts for WeighTurns and WeighAll: a list that is turned; what shares keep. No program.
-/
import Derived.Test.YtcbimgdgodeppaaWeighRefS
namespace Go.Proofs.Ytcbimgdgodeppaa
open Go.RowKit

theorem up_toNat64 {zs : List Int} (h : ∀ z ∈ zs, 0 ≤ z ∧ z ≤ 18446744073709551615) : up (zs.map Int.toNat) = zs ∧ ∀ b ∈ zs.map Int.toNat, b < 18446744073709551616 := by
  constructor
  · unfold up
    rw [List.map_map]
    conv => rhs; rw [← List.map_id zs]
    exact List.map_congr_left fun z hz => by have := h z hz; simp; omega
  · intro b hb
    obtain ⟨z, hz, rfl⟩ := List.mem_map.1 hb
    have := h z hz; omega

def turnL (l : List Nat) (n : Nat) : List Nat := (List.range l.length).map fun i => l.getD ((i + n) % l.length) 0
theorem turnL_len (l : List Nat) (n : Nat) : (turnL l n).length = l.length := by simp [turnL]
theorem turnL_at (l : List Nat) (n : Nat) {i : Nat} (hi : i < l.length) : (turnL l n).getD i 0 = l.getD ((i + n) % l.length) 0 := by
  simp [turnL, List.getD_eq_getElem?_getD, hi]
theorem turn_index {L j : Nat} (n : Nat) (h : j < L) : ∃ i, i < L ∧ (i + n) % L = j := by
  refine ⟨(j + (L - n % L)) % L, Nat.mod_lt _ (by omega), ?_⟩
  have hr := Nat.mod_lt n (show 0 < L by omega)
  rw [Nat.mod_add_mod]
  have e : j + (L - n % L) + n = j + L * (n / L + 1) := by
    have := Nat.div_add_mod n L
    rw [Nat.mul_add, Nat.mul_one]; omega
  rw [e, Nat.add_mul_mod_self_left, Nat.mod_eq_of_lt h]
theorem turn_mem (l : List Nat) (n b : Nat) : b ∈ l ↔ b ∈ turnL l n := by
  constructor
  · intro h
    obtain ⟨j, hj, e⟩ := List.getElem_of_mem h
    obtain ⟨i, hi, hij⟩ := turn_index n hj
    refine List.mem_map.2 ⟨i, List.mem_range.2 hi, ?_⟩
    rw [hij, List.getD_eq_getElem?_getD, List.getElem?_eq_getElem hj]
    exact e
  · intro h
    obtain ⟨i, hi, e⟩ := List.mem_map.1 h
    have h0 := List.mem_range.1 hi
    have hj := Nat.mod_lt (i + n) (show 0 < l.length by omega)
    rw [List.getD_eq_getElem?_getD, List.getElem?_eq_getElem hj] at e
    rw [← e]
    exact List.getElem_mem hj
theorem turn_units (l : List Nat) (n : Nat) {i : Nat} (hi : i < l.length) : (unitsN (turnL l n)).getD i 0 = (unitsN l).getD ((i + n) % l.length) 0 :=
  units_turn (fun b => (turn_mem l n b).symm) (by rw [turnL_len]; exact hi) (Nat.mod_lt _ (by omega)) (turnL_at l n hi)

/-- Shared: the shares' number, their sum, what is none, and which is more. -/
theorem shared_all {total : Int} {bs : List Nat} (h : (shareR total bs).1 = 0) : 0 ≤ total ∧ (shareR total bs).2.length = bs.length ∧ sumF (fun i => (shareR total bs).2.getD i 0) bs.length = total ∧
    (∀ i, i < bs.length → 0 ≤ (shareR total bs).2.getD i 0) ∧ (∀ i, i < bs.length → posN (bs.getD i 0) = false → (shareR total bs).2.getD i 0 = 0) ∧
    ∀ i k, i < bs.length → k < bs.length → posN (bs.getD k 0) = true → bs.getD k 0 ≤ bs.getD i 0 → bs.getD i 0 ≤ infBits → (shareR total bs).2.getD k 0 ≤ (shareR total bs).2.getD i 0 + 1 := by
  unfold shareR at h ⊢
  by_cases h1 : total < 0 ∨ total > 1048576 ∨ bs.length = 0 ∨ bs.length > 4096
  · rw [if_pos h1] at h; exact absurd h (by decide)
  rw [if_neg h1] at h ⊢
  by_cases h2 : allN (unitsN bs) = 0
  · rw [if_pos h2] at h; exact absurd h (by decide)
  rw [if_neg h2]
  have ha : 0 < allN (unitsN bs) := by have := allN_nonneg (unitsN bs); omega
  have ht : 0 ≤ total := by omega
  have hl := unitsN_len bs
  have e : ∀ j, j < bs.length → (unitsN bs).getD j 0 = unitN (anyInf bs) ((mostN bs).getD 0) (bs.getD j 0) := fun j hj => by simp [unitsN, List.getD_eq_getElem?_getD, hj]
  refine ⟨ht, by rw [shareN_len, hl], ?_, fun i hi => share_nonneg ht ha (by rw [hl]; exact hi), fun i hi hp => share_none ha (by rw [hl]; exact hi) (by rw [e i hi]; exact unit_none hp), fun i k hi hk hp hle hinf => share_order ht ha (by rw [hl]; exact hi) (by rw [hl]; exact hk) ?_⟩
  · have := share_sum (total := total) ha
    rw [hl] at this
    exact this
  · rw [e i hi, e k hk]
    refine unit_mono hp hle hinf fun hf he => ?_
    have hm : bs.getD i 0 ∈ bs := by
      rw [List.getD_eq_getElem?_getD, List.getElem?_eq_getElem hi]; exact List.getElem_mem hi
    have : anyInf bs = true := List.any_eq_true.2 ⟨_, hm, by rw [he]; decide⟩
    rw [this] at hf; exact absurd hf (by decide)
end Go.Proofs.Ytcbimgdgodeppaa
