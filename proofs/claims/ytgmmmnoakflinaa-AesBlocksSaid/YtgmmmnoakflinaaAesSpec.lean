/-
  What is asked of the layer aes, as properties of its calls: a cipher that is kept, wherever: a property R of a world, of its address and of its key; the law's own 'awake' and AesNone, AesBack from these.
-/
import Derived.Test.YtgmmmnoakflinaaArrs
import Derived.Test.YtgmmmnoakflinaaAesBlk
import Derived.Test.YtgmmmnoakflinaaChecked
import Derived.Tactics
import Derived.Tactics2
import Derived.LoopTactic
import Derived.OpenShut
import Derived.WalkLawsBesides
import Derived.BigQuiet
import Derived.BigRegion
import Derived.Deep.DeepCutAuto
import Derived.Lib.SlBytesConst
namespace Go.Proofs.Ytgmmmnoakflinaa
open Go.RowKit

structure AesSpec (w0 : World) (R : World → Addr → List Nat → Prop) : Prop where
  new : ∀ (A : Option Addr) (c : Nat) (key : List Nat) (w : World), Below w0.heap.size w0 w → Ints w w.heap.size .u8 A (up key) → (∀ x ∈ key, x < 256) → key.length = 16 → 16 ≤ c →
    Calls Try.prog 8 #[.slice A 16 c] w fun e w' => ∃ a, e = .returned (.tuple #[.pointer (some a), .int .i64 0]) ∧ R w' a key ∧ Below w.heap.size w w'
  newNo : ∀ (A : Option Addr) (n c : Nat) (w : World), Below w0.heap.size w0 w → n ≠ 16 → n ≤ 140737488355328 →
    Calls Try.prog 8 #[.slice A n c] w fun e w' => e = .returned (.tuple #[.pointer none, .int .i64 1]) ∧ Below w.heap.size w w'
  block : ∀ (a : Addr) (key : List Nat) (A : Option Addr) (c : Nat) (b : List Nat) (w : World), Below w0.heap.size w0 w → R w a key → (∀ x ∈ key, x < 256) → Ints w w.heap.size .u8 A (up b) → (∀ x ∈ b, x < 256) → b.length = 16 → 16 ≤ c →
    Calls Try.prog 10 #[.pointer (some a), .slice A 16 c] w fun e w' => ∃ A' c', e = .returned (.tuple #[.slice A' 16 c', .int .i64 0]) ∧ 16 ≤ c' ∧ Ints w' w'.heap.size .u8 A' (up (encN key b)) ∧ Below w.heap.size w w'
  back : ∀ (a : Addr) (key : List Nat) (A : Option Addr) (c : Nat) (b : List Nat) (w : World), Below w0.heap.size w0 w → R w a key → (∀ x ∈ key, x < 256) → Ints w w.heap.size .u8 A (up b) → (∀ x ∈ b, x < 256) → b.length = 16 → 16 ≤ c →
    Calls Try.prog 13 #[.pointer (some a), .slice A 16 c] w fun e w' => ∃ A' c', e = .returned (.tuple #[.slice A' 16 c', .int .i64 0]) ∧ 16 ≤ c' ∧ Ints w' w'.heap.size .u8 A' (up (decN key b)) ∧ Below w.heap.size w w'
  blockNo : ∀ (a : Addr) (key : List Nat) (A : Option Addr) (n c : Nat) (w : World), Below w0.heap.size w0 w → R w a key → n ≠ 16 → n ≤ 140737488355328 →
    Calls Try.prog 10 #[.pointer (some a), .slice A n c] w fun e w' => ∃ A' c', e = .returned (.tuple #[.slice A' 0 c', .int .i64 1]) ∧ Below w.heap.size w w'
  nilBlock : ∀ (A : Option Addr) (n c : Nat) (w : World), Below w0.heap.size w0 w → Calls Try.prog 10 #[.pointer none, .slice A n c] w fun e w' => ∃ A' c', e = .returned (.tuple #[.slice A' 0 c', .int .i64 11]) ∧ Below w.heap.size w w'
  nilBack : ∀ (A : Option Addr) (n c : Nat) (w : World), Below w0.heap.size w0 w → Calls Try.prog 13 #[.pointer none, .slice A n c] w fun e w' => ∃ A' c', e = .returned (.tuple #[.slice A' 0 c', .int .i64 11]) ∧ Below w.heap.size w w'
  keep : ∀ (w w' : World) (a : Addr) (key : List Nat), R w a key → Below w.heap.size w w' → R w' a key

def exKey : List Nat := [0, 1, 2, 3, 4, 5, 6, 7, 8, 9, 10, 11, 12, 13, 14, 15]
def exIn : List Nat := [0, 17, 34, 51, 68, 85, 102, 119, 136, 153, 170, 187, 204, 221, 238, 255]
theorem exKey_lt : ∀ x ∈ exKey, x < 256 := by decide
theorem exIn_lt : ∀ x ∈ exIn, x < 256 := by decide

set_option maxHeartbeats 800000 in
set_option maxRecDepth 20000 in
theorem aesAwake {w0 : World} {R : World → Addr → List Nat → Prop} (HS : AesSpec w0 R) (w : World) (hw : Below w0.heap.size w0 w) :
    Calls Try.prog 9 #[] w fun e w' => e = .returned (.bool true) ∧ Below w.heap.size w w' := by
  have kc := fun (w : World) (C : Array Value) (n c : Nat) => Lib.run_convert_bytes_const (P := Try.prog) w 22 5 C n c Try.underlying22 Try.underlying5
  have H1 : Hid (∀ (t : TypeId) (fr : Nat × Nat), Calls Try.prog 8 #[.slice (some ⟨w.heap.size, 0, none⟩) 16 16] (w.alloc (.cells #[.int .u8 0, .int .u8 1, .int .u8 2, .int .u8 3, .int .u8 4, .int .u8 5, .int .u8 6, .int .u8 7, .int .u8 8, .int .u8 9, .int .u8 10, .int .u8 11, .int .u8 12, .int .u8 13, .int .u8 14, .int .u8 15] t fr))
      fun e w' => ∃ a, e = .returned (.tuple #[.pointer (some a), .int .i64 0]) ∧ R w' a exKey ∧ Below w.heap.size w w') := fun t fr =>
    (HS.new (some ⟨w.heap.size, 0, none⟩) 16 exKey _ (hw.alloc hw.size _) ((Ints.newMark w t .u8 (up exKey) _ fr rfl).more (by simp)) exKey_lt rfl (Nat.le_refl _)).mono fun e w' ⟨a, h1, h2, h3⟩ => ⟨a, h1, h2, ((Below.refl _ _).alloc (Nat.le_refl _) _).trans (h3.mono (by simp))⟩
  have H2 : Hid (∀ (W : World) (a : Addr) (t : TypeId) (fr : Nat × Nat), Below w.heap.size w W → R W a exKey → Calls Try.prog 10 #[.pointer (some a), .slice (some ⟨W.heap.size, 0, none⟩) 16 16]
      (W.alloc (.cells #[.int .u8 0, .int .u8 17, .int .u8 34, .int .u8 51, .int .u8 68, .int .u8 85, .int .u8 102, .int .u8 119, .int .u8 136, .int .u8 153, .int .u8 170, .int .u8 187, .int .u8 204, .int .u8 221, .int .u8 238, .int .u8 255] t fr))
      fun e w' => ∃ b o c', e = .returned (.tuple #[.slice (some ⟨b, o, none⟩) 16 c', .int .i64 0]) ∧ w'.cell? ⟨b, o, none⟩ = some (.int .u8 105) ∧ w'.cell? ⟨b, o + 15, none⟩ = some (.int .u8 90) ∧ Below w.heap.size w w') := fun W a t fr hb hr =>
    (HS.block a exKey (some ⟨W.heap.size, 0, none⟩) 16 exIn _ (hw.trans (hb.mono hw.size) |>.alloc (Nat.le_trans hw.size hb.size) _) (HS.keep _ _ _ _ hr ((Below.refl _ _).alloc (Nat.le_refl _) _)) exKey_lt ((Ints.newMark W t .u8 (up exIn) _ fr rfl).more (by simp)) exIn_lt rfl (Nat.le_refl _)).mono fun e w' ⟨A', c', h1, h2, h3, h4⟩ => by
      have he : encN exKey exIn = [105, 196, 224, 216, 106, 123, 4, 48, 216, 205, 183, 128, 112, 180, 197, 90] := enc_example
      rw [he] at h3
      obtain ⟨b, o, rfl, _, hc⟩ := h3.at_ (by decide)
      exact ⟨b, o, c', h1, hc 0 (by decide), hc 15 (by decide), hb.trans (((Below.refl W.heap.size W).alloc (Nat.le_refl _) _ |>.trans (h4.mono (by simp))).mono hb.size)⟩
  clear HS
  go_enter Try.func9, Try.ntmps9
  go_wp2_with (first
    | (go_at_call 8; with_reducible (refine Calls.mono (H1.out _ _) ?_); rintro e w1 ⟨a, rfl, hr1, hb1⟩)
    | (go_at_call 10; with_reducible (refine Calls.mono (H2.out _ _ _ _ hb1 hr1) ?_); rintro e w2 ⟨b, o, c', rfl, hc0, hc15, hb2⟩))
  go_ret
  exact ⟨rfl, hb2⟩

/-- AesNone. -/
theorem aesNone_go {R : World → Addr → List Nat → Prop} (A : Option Addr) (n c : Nat) (w : World) (HS : AesSpec w R) :
    Calls Try.prog 5 #[.slice A n c] w fun e w' => e = .returned (.bool true) ∧ Below w.heap.size w w' := by
  have HA := Lib.hid (aesAwake HS)
  have H1 := Lib.hid HS.nilBlock
  have H2 := Lib.hid HS.nilBack
  clear HS
  go_enter Try.func5, Try.ntmps5
  go_wp2_with (first
    | (go_at_call 10; with_reducible (refine Calls.mono (H1.out _ _ _ _ (Below.refl _ _)) ?_); rintro e w1 ⟨A1, c1, rfl, hb1⟩)
    | (go_at_call 13; with_reducible (refine Calls.mono (H2.out _ _ _ _ hb1) ?_); rintro e w2 ⟨A2, c2, rfl, hb2⟩; have hbx := chain hb1 hb2)
    | (go_at_call 9; with_reducible (refine Calls.mono (HA.out _ hbx) ?_); rintro e w3 ⟨rfl, hb3⟩))
  go_ret
  exact ⟨rfl, chain hbx hb3⟩

end Go.Proofs.Ytgmmmnoakflinaa
