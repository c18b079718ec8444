/-
  A number turned right; one step of eight words, in memory.
-/
import Derived.Test.YtocnbhefjhammaaDoorShaRef
import Derived.Test.YtocnbhefjhammaaDoorShaAsk
import Derived.Deep.RegionLaw
import Derived.Deep.RegionWith
namespace Go.Proofs.YtocnbhefjhammaaDoor
open Go.RowKit

theorem and31 : ∀ n : Nat, n < 32 → 1 ≤ n → bits .and .u64 (18446744073709551616 - (n : Int)) 31 = 32 - (n : Int) := by decide +kernel

/-- 'bits.RotateLeft32' by a count below zero. -/
theorem rotl_any (x n : Nat) (w : World) (hx : x < 2 ^ 32) (h1 : 1 ≤ n) (hn : n ≤ 31) :
    Calls Tryd.prog 43 #[.int .u32 (x : Int), .int .i64 (-(n : Int))] w fun e w' => e = .returned (.int .u32 (rotrN x n : Nat)) ∧ w' = w := by
  have ha := and31 n (by omega) h1
  have hw : IntKind.u64.wrap (-(n : Int)) = 18446744073709551616 - (n : Int) := by rw [IntKind.wrap_u64]; omega
  have e1 : bits .or .u32 ((x : Int) * 2 ^ (32 - n) % 4294967296) ((x : Int) / 2 ^ n) = ((rotrN x n : Nat) : Int) := by
    have a1 : ((x : Int) / 2 ^ n) = ((x / 2 ^ n : Nat) : Int) := by rw [Int.natCast_ediv, Int.natCast_pow]; rfl
    have a2 : ((x : Int) * 2 ^ (32 - n) % 4294967296) = ((x * 2 ^ (32 - n) % 4294967296 : Nat) : Int) := by
      rw [Int.natCast_emod, Int.natCast_mul, Int.natCast_pow]; rfl
    rw [a1, a2, u32_o _ _ (by omega) (div_lt hx), Nat.or_comm]; rfl
  have HE := Lib.hid e1
  clear e1
  have h2 : (n : Int) ≤ 31 := by omega
  have h3 : (0 : Int) ≤ 32 - (n : Int) := by omega
  have h4 : (1 : Int) ≤ (n : Int) := by omega
  have h5 : (32 : Int) - (32 - (n : Int)) = n := by omega
  have h6 : ((32 : Int) - (n : Int)).toNat = 32 - n := by omega
  go_enter Tryd.func43, Tryd.ntmps43
  go_wp2
  trace_state
  go_ret
  exact ⟨ret_int HE.out, rfl⟩

/-- 'right'. -/
theorem right_any (x n : Nat) (w : World) (hx : x < 2 ^ 32) (h1 : 1 ≤ n) (hn : n ≤ 31) :
    Calls Tryd.prog 40 #[.int .u32 (x : Int), .int .i64 (n : Int)] w fun e w' => e = .returned (.int .u32 (rotrN x n : Nat)) ∧ w = w' := by
  have H := Lib.hid (rotl_any x n w hx h1 hn)
  have h2 : (n : Int) ≤ 31 := by omega
  go_enter Tryd.func40, Tryd.ntmps40
  go_wp2_with (go_at_call 43; with_reducible (refine Calls.mono H.out ?_); rintro e w' ⟨rfl, rfl⟩)
  go_ret
  exact ⟨rfl, rfl⟩

end Go.Proofs.YtocnbhefjhammaaDoor
