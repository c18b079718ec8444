/-
  The document's own digest (stowageref03), its smaller functions: what they answer; nothing that was there is changed.
-/
import Derived.Test.YtocnbhefjhammaaDoorArrs
import Derived.Test.YtocnbhefjhammaaDoorShaNums
import Derived.Test.YtocnbhefjhammaaDoorChecked
import Derived.Tactics
import Derived.Tactics2
import Derived.LoopTactic
import Derived.OpenShut
import Derived.WalkLawsBesides
import Derived.BigQuiet
import Derived.BigRegion
import Derived.Deep.RegionHeld3
import Derived.Deep.DeepCutAuto
namespace Go.Proofs.YtocnbhefjhammaaDoor
open Go.RowKit

theorem u32_x (a b : Nat) (ha : a < 2 ^ 32) (hb : b < 2 ^ 32) : bits .xor .u32 (a : Int) (b : Int) = ((a ^^^ b : Nat) : Int) := u32_xor_nat a b (by omega) (by omega)
theorem u32_a (a b : Nat) (ha : a < 2 ^ 32) (hb : b < 2 ^ 32) : bits .and .u32 (a : Int) (b : Int) = ((a &&& b : Nat) : Int) := u32_and_nat a b (by omega) (by omega)
theorem u32_o (a b : Nat) (ha : a < 2 ^ 32) (hb : b < 2 ^ 32) : bits .or .u32 (a : Int) (b : Int) = ((a ||| b : Nat) : Int) := u32_or_nat a b (by omega) (by omega)
theorem u32_s (a b : Nat) : IntKind.u32.wrap ((a : Int) + (b : Int)) = ((add32 a b : Nat) : Int) := by
  rw [IntKind.wrap_u32]; unfold add32; omega
theorem u32_n (a : Nat) (ha : a < 2 ^ 32) : bits .xor .u32 IntKind.u32.max (a : Int) = ((not32 a : Nat) : Int) := by
  rw [show IntKind.u32.max = ((4294967295 : Nat) : Int) from rfl, u32_x _ _ (by decide) ha]; rfl

/-- 'rotr'. -/
theorem rotr_any (x n : Nat) (w : World) (hx : x < 2 ^ 32) (hn : n ≤ 32) :
    Calls Tryd.prog 31 #[.int .u32 (x : Int), .int .i64 (n : Int)] w fun e w' => e = .returned (.int .u32 (rotrN x n : Nat)) ∧ ∃ m, w' = w.drewN m := by
  have h1 : (n : Int) ≤ 32 := by omega
  have h2 : (0 : Int) ≤ (n : Int) := by omega
  have h3 : (0 : Int) ≤ 32 - (n : Int) := by omega
  have e1 : bits .or .u32 ((x : Int) / 2 ^ n) ((x : Int) * 2 ^ (32 - n) % 4294967296) = ((rotrN x n : Nat) : Int) := by
    have a1 : ((x : Int) / 2 ^ n) = ((x / 2 ^ n : Nat) : Int) := by rw [Int.natCast_ediv, Int.natCast_pow]; rfl
    have a2 : ((x : Int) * 2 ^ (32 - n) % 4294967296) = ((x * 2 ^ (32 - n) % 4294967296 : Nat) : Int) := by
      rw [Int.natCast_emod, Int.natCast_mul, Int.natCast_pow]; rfl
    rw [a1, a2, u32_o _ _ (div_lt hx) (by omega)]; rfl
  have HE := Lib.hid e1
  clear e1
  go_enter Tryd.func31, Tryd.ntmps31
  go_wp2
  go_quiet (fail)
  go_wp2
  go_ret
  exact ⟨ret_int HE.out, nq, rfl⟩

theorem Tryd.infoU32 : (Tryd.prog.info? 51).map (fun i => (i.zero, i.size, i.bytes)) = some (some (.int .u32 0), 1, 4) := by kernel_rfl

/-- 'roots'. -/
theorem roots_any (w : World) : Calls Tryd.prog 25 #[] w fun e w' => ∃ A c, e = .returned (.slice A 64 c) ∧ 64 ≤ c ∧ Ints w' w'.heap.size .u32 A (up shaK) ∧ Below w.heap.size w w' := by
  have HI := Lib.hid (fun cs (hcs : cs.toList = (up shaK).map (Value.int .u32)) => Ints.new w 51 .u32 (up shaK) cs hcs)
  go_enter Tryd.func25, Tryd.ntmps25
  go_wp2
  go_ret
  refine ⟨_, _, rfl, Nat.le_refl _, ?_, (Below.refl _ _).alloc (Nat.le_refl _) _⟩
  rw [World.size_alloc]
  exact HI.out _ rfl

end Go.Proofs.YtocnbhefjhammaaDoor
