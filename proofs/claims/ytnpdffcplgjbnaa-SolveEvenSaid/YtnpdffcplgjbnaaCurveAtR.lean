/-
  The document's own: what a size brings (stowageref11).
-/
import Derived.Test.YtnpdffcplgjbnaaCurveRef
namespace Go.Proofs.Ytnpdffcplgjbnaa
open Go.RowKit

set_option maxHeartbeats 800000 in
/-- 'At'. -/
theorem refAt_any (A : Option Addr) (n : Nat) (c : List Int) (z : Int) (w : World) (h : Ints w w.heap.size .i64 A c) (hm : c.length ≤ 9223372036854775807) :
    Calls Try.prog 19 #[.slice A c.length n, .int .i64 z] w fun e w' => e = .returned (.int .i64 (atN c z)) ∧ w = w' := by
  have HT : Hid (atN c z = if c.length = 0 ∨ z < 0 then 0 else if (c.length : Int) ≤ z then c.getD (c.length - 1) 0 else c.getD z.toNat 0) := rfl
  by_cases h0 : c.length = 0
  · have hr : atN c z = 0 := by rw [HT.out, if_pos (Or.inl h0)]
    rw [hr, h0]
    clear HT h hr h0 hm
    go_enter Try.func19, Try.ntmps19
    go_wp2
    go_ret
    exact ⟨rfl, rfl⟩
  · have d0 : ((c.length : Int) == 0) = false := by rw [beq_eq_false_iff_ne]; omega
    have n0 : ¬ c.length = 0 := h0
    by_cases hz : z < 0
    · have hr : atN c z = 0 := by rw [HT.out, if_pos (Or.inr hz)]
      rw [hr]
      have d1 : decide (z < 0) = true := decide_eq_true hz
      obtain ⟨N, hN⟩ : ∃ N, N = c.length := ⟨_, rfl⟩
      rw [← hN] at d0 ⊢
      clear HT h hr h0 hm hN n0
      go_enter Try.func19, Try.ntmps19
      go_wp2
      go_ret
      exact ⟨rfl, rfl⟩
    · obtain ⟨b, o, rfl, hb, hc⟩ := h.at_ (by omega)
      have d1 : decide (z < 0) = false := decide_eq_false hz
      have z0 : 0 ≤ z := by omega
      by_cases hlz : (c.length : Int) ≤ z
      · have hr : atN c z = c.getD (c.length - 1) 0 := by rw [HT.out, if_neg (by omega), if_pos hlz]
        rw [hr]
        obtain ⟨K, hK⟩ : ∃ K, K = c.length - 1 := ⟨_, rfl⟩
        have q := hc K (by omega)
        rw [← hK]
        obtain ⟨x, hx⟩ : ∃ x, x = c.getD K 0 := ⟨_, rfl⟩
        rw [← hx] at q ⊢
        have e1 : (c.length : Int) - 1 = (K : Int) := by omega
        have k1 : (K : Int) < (c.length : Int) := by omega
        obtain ⟨N, hN⟩ : ∃ N, N = c.length := ⟨_, rfl⟩
        rw [← hN] at d0 hlz e1 k1 hm ⊢
        clear HT h hr h0 hN hc hx n0 hK
        go_enter Try.func19, Try.ntmps19
        go_wp2
        go_ret
        exact ⟨rfl, rfl⟩
      · have hr : atN c z = c.getD z.toNat 0 := by rw [HT.out, if_neg (by omega), if_neg hlz]
        rw [hr]
        obtain ⟨k, rfl⟩ : ∃ k : Nat, z = k := ⟨z.toNat, by omega⟩
        rw [Int.toNat_natCast]
        have q := hc k (by omega)
        have k1 : (k : Int) < (c.length : Int) := by omega
        obtain ⟨x, hx⟩ : ∃ x, x = c.getD k 0 := ⟨_, rfl⟩
        rw [← hx] at q ⊢
        obtain ⟨N, hN⟩ : ∃ N, N = c.length := ⟨_, rfl⟩
        rw [← hN] at d0 k1 hlz ⊢
        clear HT h hr h0 hN hc hx n0
        go_enter Try.func19, Try.ntmps19
        go_wp2
        go_ret
        exact ⟨rfl, rfl⟩

end Go.Proofs.Ytnpdffcplgjbnaa
