/-
  AesBlocks where the key or the block has another size, from what is asked of the layer's calls.
-/
import Derived.Test.YtgmmmnoakflinaaAesWalk
import Derived.Test.YtgmmmnoakflinaaAesSpec
namespace Go.Proofs.Ytgmmmnoakflinaa
open Go.RowKit

set_option maxHeartbeats 1600000 in
/-- AesBlocks, a size that is none. -/
theorem aesBlocks_no {R : World → Addr → List Nat → Prop} (A0 A1 : Option Addr) (c0 c1 : Nat) (key b : List Nat) (w : World) (HS : AesSpec w R) (h0 : Ints w w.heap.size .u8 A0 (up key)) (hk : ∀ x ∈ key, x < 256)
    (hc0 : key.length ≤ c0) (hm0 : key.length ≤ 140737488355328) (hm1 : b.length ≤ 140737488355328) (hno : ¬ (key.length = 16 ∧ b.length = 16)) :
    Calls Try.prog 3 #[.slice A0 key.length c0, .slice A1 b.length c1] w fun e w' => e = .returned (.bool true) ∧ Below w.heap.size w w' := by
  have HA := Lib.hid (aesAwake HS)
  by_cases hl : key.length = 16
  · have HN := Lib.hid (HS.new A0 c0 key w (Below.refl _ _) h0 hk hl (by omega))
    have HKP := Lib.hid HS.keep
    rw [hl]
    by_cases hlb : b.length = 16
    · exact absurd ⟨hl, hlb⟩ hno
    · have H1 := Lib.hid (fun (W : World) (a : Addr) (hw : Below w.heap.size w W) (hr : R W a key) => HS.blockNo a key A1 b.length c1 W hw hr hlb hm1)
      have hnb : ((b.length : Int) != 16) = true := by simp; omega
      have hnb2 : ¬ (b.length : Int) = 16 := by omega
      clear HS h0 hk hl hlb hc0 hm0 hm1 hno
      go_enter Try.func3, Try.ntmps3
      go_wp2_with (first
        | (go_at_call 9; with_reducible (refine Calls.mono (HA.out _ hbx) ?_); rintro e w3 ⟨rfl, hb3⟩; have hbx := chain hbx hb3)
        | (go_at_call 10; with_reducible (refine Calls.mono (H1.out _ _ hbx hr1) ?_); rintro e w2 ⟨A2, c2, rfl, hb2⟩; have hbx := chain hbx hb2)
        | (go_at_call 8; with_reducible (refine Calls.mono HN.out ?_); rintro e w1 ⟨a, rfl, hr1, hbx⟩))
      go_ret
      exact ⟨rfl, hbx⟩
  · have HN := Lib.hid (HS.newNo A0 key.length c0 w (Below.refl _ _) hl hm0)
    have hnb : ((key.length : Int) != 16) = true := by simp; omega
    have hnb2 : ¬ (key.length : Int) = 16 := by omega
    clear HS h0 hk hl hc0 hm0 hm1 hno
    go_enter Try.func3, Try.ntmps3
    go_wp2_with (first
      | (go_at_call 9; with_reducible (refine Calls.mono (HA.out _ hbx) ?_); rintro e w2 ⟨rfl, hb2⟩; have hbx := chain hbx hb2)
      | (go_at_call 8; with_reducible (refine Calls.mono HN.out ?_); rintro e w1 ⟨rfl, hbx⟩))
    go_ret
    exact ⟨rfl, hbx⟩

end Go.Proofs.Ytgmmmnoakflinaa
