/-
  The program's small functions of bytes: doubled, turned, spread; and its images of all bytes.
-/
import Derived.Test.YtcoiincgclglbaaAesC0
import Derived.Test.YtcoiincgclglbaaAesRef
namespace Go.Proofs.Ytcoiincgclglbaa
open Go.RowKit

set_option maxHeartbeats 800000 in
/-- 'double'. -/
theorem double_any (b : Nat) (w : World) (hb : b < 256) : Calls Try.prog 26 #[.int .u8 (b : Int)] w fun e w' => e = .returned (.int .u8 (timesN 2 b : Nat)) ∧ w = w' := by
  have h := dbl_is b hb
  have h1 := b8_x (b * 2 % 256) (b / 128 * 27) (by omega) (by omega)
  rw [h] at h1
  have HX := Lib.hid h1
  clear h h1
  go_enter Try.func26, Try.ntmps26
  go_wp2
  go_ret
  exact ⟨ret_int HX.out, rfl⟩

set_option maxHeartbeats 800000 in
/-- 'bits.RotateLeft8'. -/
theorem rot8_any (v n : Nat) (w : World) (hv : v < 256) (h1 : 1 ≤ n) (hn : n ≤ 4) :
    Calls Try.prog 50 #[.int .u8 (v : Int), .int .i64 (n : Int)] w fun e w' => e = .returned (.int .u8 (leftN v n : Nat)) ∧ w = w' := by
  have ha : bits .and .u64 (n : Int) 7 = (n : Int) := by
    have := b64_a n 7 (by omega) (by decide)
    rw [show n &&& 7 = n by rcases (show n = 1 ∨ n = 2 ∨ n = 3 ∨ n = 4 by omega) with rfl | rfl | rfl | rfl <;> rfl] at this
    exact this
  have h2 : (n : Int) ≤ 4 := by omega
  have h3 : (0 : Int) ≤ (n : Int) := by omega
  have h4 : (0 : Int) ≤ 8 - (n : Int) := by omega
  have h6 : ((8 : Int) - (n : Int)).toNat = 8 - n := by omega
  have e1 : bits .or .u8 ((v : Int) * 2 ^ n % 256) ((v : Int) / 2 ^ (8 - n)) = ((leftN v n : Nat) : Int) := by
    have a1 : ((v : Int) / 2 ^ (8 - n)) = ((v / 2 ^ (8 - n) : Nat) : Int) := by rw [Int.natCast_ediv, Int.natCast_pow]; rfl
    have a2 : ((v : Int) * 2 ^ n % 256) = ((v * 2 ^ n % 256 : Nat) : Int) := by
      rw [Int.natCast_emod, Int.natCast_mul, Int.natCast_pow]; rfl
    rw [a1, a2, b8_o _ _ (Nat.mod_lt _ (by decide)) (Nat.lt_of_le_of_lt (Nat.div_le_self _ _) hv)]; rfl
  have HE := Lib.hid e1
  clear e1
  go_enter Try.func50, Try.ntmps50
  go_wp2
  go_ret
  exact ⟨ret_int HE.out, rfl⟩

def spTo (v : Nat) : Nat → Nat
  | 0 => v ^^^ 99
  | k + 1 => spTo v k ^^^ leftN v (k + 1)
theorem spTo_lt {v : Nat} (hv : v < 256) : ∀ k, spTo v k < 256
  | 0 => xor_lt8 hv (by decide)
  | k + 1 => xor_lt8 (spTo_lt hv k) (leftN_lt hv)
set_option maxHeartbeats 800000 in
/-- 'spread'. -/
theorem spread_any (v : Nat) (w : World) (hv : v < 256) : Calls Try.prog 41 #[.int .u8 (v : Int)] w fun e w' => e = .returned (.int .u8 (spreadN v : Nat)) ∧ w = w' := by
  have h0 := b8_x v 99 hv (by decide)
  have hh : bits .xor .u8 (v : Int) 99 = ((v ^^^ 99 : Nat) : Int) := h0
  clear h0
  go_enter Try.func41, Try.ntmps41
  go_wp2
  go_loop [3, 4] (fun s i => ∃ k : Nat, k ≤ 4 ∧ i = .int .i64 ((k : Int) + 1) ∧ s = .int .u8 (spTo v k : Nat)) (fun _ i => 5 - (intOf i).toNat)
  case atStart => exact ⟨0, by omega, rfl, rfl⟩
  case round =>
    obtain ⟨k, hk, rfl, rfl⟩ := hrel
    clear hh
    by_cases hlt : k < 4
    · have hs := spTo_lt hv k
      have hT := fun W => rot8_any v (k + 1) W hv (by omega) (by omega)
      have hx := b8_x (spTo v k) (leftN v (k + 1)) hs (leftN_lt hv)
      have hn : spTo v (k + 1) = spTo v k ^^^ leftN v (k + 1) := rfl
      rw [← hn] at hx
      obtain ⟨q, hq⟩ : ∃ q, q = leftN v (k + 1) := ⟨_, rfl⟩
      obtain ⟨s, hs'⟩ : ∃ s, s = spTo v k := ⟨_, rfl⟩
      obtain ⟨t, ht⟩ : ∃ s, s = spTo v (k + 1) := ⟨_, rfl⟩
      have ek : ((k + 1 : Nat) : Int) = (k : Int) + 1 := rfl
      rw [← hs'] at hx hs ⊢
      simp only [← hq, ek] at hT
      rw [← hq, ← ht] at hx
      have HT := Lib.hid hT
      have HH := Lib.hid ht
      have k1 : (k : Int) + 1 ≤ 4 := by omega
      have k0 : (0 : Int) ≤ (k : Int) := by omega
      clear hq hs' ht hT hn hs ek
      go_wp2_with (go_at_call 50; with_reducible (refine Calls.mono (HT.out _) ?_); rintro e w' ⟨rfl, rfl⟩)
      go_round
      case rel => exact ⟨k + 1, by omega, by go_num, by rw [← HH.out]⟩
      case measure => simp [intOf]; omega
    · have hk4 : k = 4 := by omega
      subst hk4
      go_wp2
      go_ret
      exact ⟨rfl, rfl⟩

end Go.Proofs.Ytcoiincgclglbaa
