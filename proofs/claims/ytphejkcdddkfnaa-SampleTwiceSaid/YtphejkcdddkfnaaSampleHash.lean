/-
  The document's own Hash.
-/
import Derived.Test.YtphejkcdddkfnaaWords
import Derived.Test.YtphejkcdddkfnaaSampleNums
import Derived.Test.YtphejkcdddkfnaaChecked
import Derived.Tactics
import Derived.Tactics2
import Derived.LoopTactic
import Derived.OpenShut
import Derived.WalkLawsBesides
import Derived.BigQuiet
namespace Go.Proofs.Ytphejkcdddkfnaa
open Go.RowKit

set_option maxHeartbeats 800000 in
theorem refHash_any (v b : Int) (w : World) : Calls Try.prog 11 #[.int .i64 v, .int .i64 b] w fun e w' => e = .returned (.int .i64 (hashN v b : Nat)) ∧ w = w' := by
  have e1 := wN_eq v
  have e2 := wN_eq b
  have e3 := wN_eq (11400714819323198485 * (wN v : Int))
  have e4 := wN_eq (14029467366897019727 * (wN b : Int))
  have e5 : IntKind.u64.wrap ((wN (11400714819323198485 * (wN v : Int)) : Int) + (wN (14029467366897019727 * (wN b : Int)) : Int)) = (hashA v b : Int) := wN_eq _
  have l5 : hashA v b < 18446744073709551616 := wN_lt _
  have e8 : IntKind.u64.wrap (((hashA v b ^^^ hashA v b / 536870912 : Nat) : Int) * 13787848793156543929) = (hashM v b : Int) := wN_eq _
  have l8 : hashM v b < 18446744073709551616 := wN_lt _
  have hR : hashN v b = (hashM v b ^^^ hashM v b / 4294967296) % 16777216 := rfl
  obtain ⟨R, hRR⟩ : ∃ R, R = hashN v b := ⟨_, rfl⟩
  rw [← hRR] at hR ⊢
  obtain ⟨h, hh⟩ : ∃ h, h = hashA v b := ⟨_, rfl⟩
  obtain ⟨m, hm⟩ : ∃ m, m = hashM v b := ⟨_, rfl⟩
  rw [← hm] at e8 l8 hR
  rw [← hh] at e5 l5 e8
  obtain ⟨p, hp⟩ : ∃ p, p = wN (11400714819323198485 * (wN v : Int)) := ⟨_, rfl⟩
  obtain ⟨q, hq⟩ : ∃ q, q = wN (14029467366897019727 * (wN b : Int)) := ⟨_, rfl⟩
  rw [← hp] at e3 e5
  rw [← hq] at e4 e5
  obtain ⟨v', hv⟩ : ∃ v', v' = wN v := ⟨_, rfl⟩
  obtain ⟨b', hb⟩ : ∃ b', b' = wN b := ⟨_, rfl⟩
  rw [← hv] at e1 e3
  rw [← hb] at e2 e4
  have x1 := u64_xor_nat h (h / 536870912) l5 (by omega)
  have x2 := u64_xor_nat m (m / 4294967296) l8 (by omega)
  have d1 : (h : Int) / 536870912 = ((h / 536870912 : Nat) : Int) := by omega
  have d2 : (m : Int) / 4294967296 = ((m / 4294967296 : Nat) : Int) := by omega
  obtain ⟨x, hx⟩ : ∃ x, x = h ^^^ h / 536870912 := ⟨_, rfl⟩
  obtain ⟨y, hy⟩ : ∃ y, y = m ^^^ m / 4294967296 := ⟨_, rfl⟩
  rw [← hx] at x1 e8
  rw [← hy] at x2 hR
  obtain ⟨hd, hd1⟩ : ∃ d, d = h / 536870912 := ⟨_, rfl⟩
  obtain ⟨md, hd2⟩ : ∃ d, d = m / 4294967296 := ⟨_, rfl⟩
  rw [← hd1] at x1 d1
  rw [← hd2] at x2 d2
  have r1 : (y : Int).tmod 16777216 = (R : Int) := by rw [Int.tmod_eq_emod_of_nonneg (by omega)]; omega
  have r2 : (y : Int) % 16777216 = (R : Int) := by omega
  have r3 : Hid (wrap64 (R : Int) = (R : Int)) := by unfold Hid wrap64; omega
  clear hRR hh hm hp hq hv hb hx hy hd1 hd2 l5 l8 hR
  go_enter Try.func11, Try.ntmps11
  go_wp2
  go_ret
  exact ⟨by first | rfl | exact congrArg (fun z => Ending.returned (.int .i64 z)) r3.out, rfl⟩

end Go.Proofs.Ytphejkcdddkfnaa
