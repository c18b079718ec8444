/-
  The document's own in, plain, Owned, Quotas (stowageref16).
-/
import Derived.Test.YtbmgiekiildaaaaTableRef
namespace Go.Proofs.Ytbmgiekiildaaaa
open Go.RowKit

/-- May it be a tenant? -/
def plainQ (id q r b : Int) (s : ByteArray) : Prop := inR id 1 7 ∧ inR q 1 64 ∧ inR r 0 4294967296 ∧ inR b 1 64 ∧ s.size = 16
instance (id q r b : Int) (s : ByteArray) : Decidable (plainQ id q r b s) := by unfold plainQ; infer_instance

theorem ownN_zero (id : Int) : ownN [] id = 0 := by unfold ownN; split <;> rfl
theorem ownN_take {os : List Int} {k : Nat} (hk : k < os.length) (id : Int) : ownN (os.take (k + 1)) id = ownN (os.take k) id + (if os.getD k 0 = id ∧ inR id 1 7 then 1 else 0) := by
  rw [List.take_succ_eq_append_getElem hk]
  unfold ownN
  by_cases h : 1 ≤ id ∧ id ≤ 7
  · rw [if_pos h, if_pos h, List.countP_append, List.countP_cons, List.countP_nil]
    have hg : os.getD k 0 = os[k] := by simp [List.getD, hk]
    rw [hg, Nat.zero_add]
    by_cases he : os[k] = id
    · rw [if_pos (show os[k] = id ∧ inR id 1 7 from ⟨he, h⟩), if_pos (decide_eq_true he)]
    · rw [if_neg (show ¬ (os[k] = id ∧ inR id 1 7) from fun hh => he hh.1), if_neg (by simpa using he)]
  · rw [if_neg h, if_neg h, if_neg (fun hh => h hh.2)]

theorem sumQ_take {ts : List Ten} {k : Nat} (hk : k < ts.length) : sumQ (ts.take (k + 1)) = sumQ (ts.take k) + ts[k].quota := by
  rw [List.take_succ_eq_append_getElem hk]
  unfold sumQ
  rw [List.map_append, List.sum_append_int]
  simp
theorem sumQ_small {ts : List Ten} (h : ∀ x ∈ ts, 1 ≤ x.quota ∧ x.quota ≤ 64) : ∀ k, 0 ≤ sumQ (ts.take k) ∧ sumQ (ts.take k) ≤ 64 * k := fun k => by
  induction k with
  | zero => simp [sumQ]
  | succ k ih =>
    by_cases hk : k < ts.length
    · have := h _ (List.getElem_mem hk)
      rw [sumQ_take hk]
      omega
    · rw [List.take_of_length_le (by omega)] at ih ⊢
      omega

end Go.Proofs.Ytbmgiekiildaaaa
