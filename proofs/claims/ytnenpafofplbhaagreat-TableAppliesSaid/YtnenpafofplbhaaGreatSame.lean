/-
  The document's own SameInts.
-/
import Derived.Test.YtnenpafofplbhaaGreatWords
import Derived.Test.YtnenpafofplbhaaGreatChecked
import Derived.Tactics
import Derived.Tactics2
import Derived.LoopTactic
import Derived.OpenShut
import Derived.WalkLawsBesides
import Derived.BigQuiet
namespace Go.Proofs.YtnenpafofplbhaaGreat
open Go.RowKit

theorem ints_none (w : World) (B : Nat) (A : Option Addr) : Ints w B .i64 A [] := fun i hi => absurd hi (Nat.not_lt_zero i)
set_option maxHeartbeats 800000 in
/-- 'SameInts', of the same. -/
theorem sameInts_any (A0 A1 : Option Addr) (c0 c1 : Nat) (l : List Int) (w : World) (h0 : Ints w w.heap.size .i64 A0 l) (h1 : Ints w w.heap.size .i64 A1 l) (hm : l.length ≤ 140737488355328) :
    Calls Tryz.prog 18 #[.slice A0 l.length c0, .slice A1 l.length c1] w fun e w' => e = .returned (.bool true) ∧ ∃ m, w' = w.drewN m := by
  obtain ⟨n, hn⟩ : ∃ n, n = l.length := ⟨_, rfl⟩
  have HC : Hid (∀ m i, i < n → ∃ b0 o0 b1 o1, A0 = some ⟨b0, o0, none⟩ ∧ A1 = some ⟨b1, o1, none⟩ ∧ (w.drewN m).cell? ⟨b0, o0 + i, none⟩ = some (.int .i64 (l.getD i 0)) ∧ (w.drewN m).cell? ⟨b1, o1 + i, none⟩ = some (.int .i64 (l.getD i 0))) := fun m i hi => by
    obtain ⟨b0, o0, e0, _, q0⟩ := h0 i (by omega)
    obtain ⟨b1, o1, e1, _, q1⟩ := h1 i (by omega)
    exact ⟨b0, o0, b1, o1, e0, e1, q0, q1⟩
  rw [← hn] at hm ⊢
  clear h0 h1 hn
  go_enter Tryz.func18, Tryz.ntmps18
  go_wp2
  go_loopw [5] (fun i wr => ∃ k m : Nat, k ≤ n ∧ i = .int .i64 k ∧ wr = w.drewN m) (fun i _ => n - (intOf i).toNat)
  case atStart => exact ⟨0, 0, Nat.zero_le _, rfl, rfl⟩
  case round =>
    obtain ⟨k, m, hk, rfl, hwm⟩ := hrel
    by_cases hlt : k < n
    · obtain ⟨b0, o0, b1, o1, rfl, rfl, q0, q1⟩ := HC.out m k hlt
      rw [← hwm] at q0 q1
      have HWM := Lib.hid hwm
      clear hwm
      obtain ⟨x, hx⟩ : ∃ x, x = l.getD k 0 := ⟨_, rfl⟩
      rw [← hx] at q0 q1
      have k1 : (k : Int) < (n : Int) := by omega
      have k0 : (0 : Int) ≤ (k : Int) := by omega
      have e1 : (x == x) = true := beq_self_eq_true x
      clear hx
      go_wp2
      go_quiet (fail)
      go_wp2
      go_roundw
      case rel => first | exact ⟨k + 1, m + nq, by omega, by go_num, by rw [HWM.out, World.drewN_drewN]⟩ | ((repeat apply Exists.intro); exact ⟨⟨k + 1, m + nq, by omega, by go_num, by rw [HWM.out, World.drewN_drewN]⟩, rfl⟩)
      case measure => simp [intOf]; omega
    · have hk8 : n = k := by omega
      subst hk8
      have HWM := Lib.hid hwm
      clear hwm
      go_wp2
      go_ret
      exact ⟨rfl, _, HWM.out⟩

end Go.Proofs.YtnenpafofplbhaaGreat
