/-
  The program's stream is as it is asked to be.
-/
import Derived.Test.YtcoiincgclglbaaStrCode
import Derived.Test.YtcoiincgclglbaaStrSpec
namespace Go.Proofs.Ytcoiincgclglbaa
open Go.RowKit

set_option maxRecDepth 20000 in
set_option maxHeartbeats 1600000 in
theorem apply_key (A0 A1 A2 : Option Addr) (n m L c0 c1 c2 : Nat) (w : World) (hn : n ≠ 16) :
    Calls Try.prog 9 #[.slice A0 n c0, .slice A1 m c1, .slice A2 L c2] w fun e w' => ∃ A c, e = .returned (.tuple #[.slice A 0 c, .int .i64 1]) ∧ Below w.heap.size w w' := by
  have H1 := Lib.hid (new_no A0 n c0 w hn)
  have hb : Below w.heap.size w (w.alloc (.cells #[.pointer none] 35)) := (Below.refl _ _).alloc (Nat.le_refl _) _
  have HB := Lib.hid hb
  clear hn hb
  go_enter Try.func9, Try.ntmps9
  go_wp2_with (go_at_call 14; with_reducible (refine Calls.mono H1.out ?_); rintro e w1 ⟨rfl, rfl⟩)
  go_ret2
  exact ⟨none, 0, rfl, HB.out⟩

set_option maxRecDepth 20000 in
set_option maxHeartbeats 1600000 in
theorem apply_ctr (A0 A1 A2 : Option Addr) (c0 c1 c2 m L : Nat) (key : List Nat) (w : World) (h0 : Ints w w.heap.size .u8 A0 (up key)) (hk : ∀ x ∈ key, x < 256) (hkl : key.length = 16) (hc0 : 16 ≤ c0) (hm : m ≠ 16) :
    Calls Try.prog 9 #[.slice A0 16 c0, .slice A1 m c1, .slice A2 L c2] w fun e w' => ∃ A c, e = .returned (.tuple #[.slice A 0 c, .int .i64 1]) ∧ Below w.heap.size w w' := by
  have H1 := Lib.hid (aesNew_any A0 c0 key w h0 hk hkl hc0)
  have h1 : ¬ (m : Int) = 16 := by omega
  clear h0 hk hkl hc0 hm
  go_enter Try.func9, Try.ntmps9
  go_wp2_with (go_at_call 14; with_reducible (refine Calls.mono H1.out ?_); rintro e w1 ⟨a, rfl, _, hb1⟩; have hb2 := hb1.alloc hb1.size (.cells #[.pointer (some a)] 35))
  go_ret2
  exact ⟨none, 0, rfl, hb2⟩

set_option maxRecDepth 20000 in
set_option maxHeartbeats 1600000 in
theorem apply_long (A0 A1 A2 : Option Addr) (c0 c1 c2 L : Nat) (key : List Nat) (w : World) (h0 : Ints w w.heap.size .u8 A0 (up key)) (hk : ∀ x ∈ key, x < 256) (hkl : key.length = 16) (hc0 : 16 ≤ c0) (hL : 1048576 < L) :
    Calls Try.prog 9 #[.slice A0 16 c0, .slice A1 16 c1, .slice A2 L c2] w fun e w' => ∃ A c, e = .returned (.tuple #[.slice A 0 c, .int .i64 7]) ∧ Below w.heap.size w w' := by
  have H1 := Lib.hid (aesNew_any A0 c0 key w h0 hk hkl hc0)
  have h1 : (1048576 : Int) < (L : Int) := by omega
  clear h0 hk hkl hc0 hL
  go_enter Try.func9, Try.ntmps9
  go_wp2_with (go_at_call 14; with_reducible (refine Calls.mono H1.out ?_); rintro e w1 ⟨a, rfl, _, hb1⟩; have hb2 := hb1.alloc hb1.size (.cells #[.pointer (some a)] 35))
  go_ret2
  exact ⟨none, 0, rfl, hb2⟩

theorem str_spec (w0 : World) : StrSpec w0 where
  apply := fun A0 A1 A2 c0 c1 c2 key ctr text w _ h0 h1 h2 _ hk hc ht hkl hcl hc0 hc1 hc2 htl => apply_go A0 A1 A2 c0 c1 c2 key ctr text w h0 h1 h2 hk hc ht hkl hcl hc0 hc1 hc2 htl
  applyArg := fun A0 A1 A2 c0 c1 c2 key ctr text w _ h0 _ _ hk _ hn hc0 _ _ _ _ _ => by
    by_cases hkl : key.length = 16
    · have hcl : ctr.length ≠ 16 := fun h => hn ⟨hkl, h⟩
      rw [hkl] at hc0 ⊢
      exact apply_ctr A0 A1 A2 c0 c1 c2 ctr.length text.length key w h0 hk hkl hc0 hcl
    · exact apply_key A0 A1 A2 key.length ctr.length text.length c0 c1 c2 w hkl
  applyLong := fun A0 A1 A2 c0 c1 c2 key ctr text w _ h0 _ _ hk _ hkl _ hc0 _ _ hl _ => apply_long A0 A1 A2 c0 c1 c2 text.length key w h0 hk hkl hc0 hl
  counter := fun s v w _ _ _ _ _ => counter_any s v w

end Go.Proofs.Ytcoiincgclglbaa
