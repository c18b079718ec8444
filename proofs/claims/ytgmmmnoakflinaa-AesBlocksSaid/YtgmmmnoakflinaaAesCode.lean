/-
  The program's ciphers are as they are asked to be.
-/
import Derived.Test.YtgmmmnoakflinaaAesSpec
import Derived.Test.YtgmmmnoakflinaaAesCNew
import Derived.Test.YtgmmmnoakflinaaAesCBack
namespace Go.Proofs.Ytgmmmnoakflinaa
open Go.RowKit

set_option maxHeartbeats 800000 in
/-- 'New', refused. -/
theorem new_len (A : Option Addr) (n c : Nat) (w : World) (hn : n ≠ 16) : Calls Try.prog 8 #[.slice A n c] w fun e w' => e = .returned (.tuple #[.pointer none, .int .i64 1]) ∧ w = w' := by
  have h1 : ¬ (n : Int) = 16 := by omega
  go_enter Try.func8, Try.ntmps8
  go_wp2
  go_ret2
  exact ⟨rfl, rfl⟩
set_option maxHeartbeats 800000 in
theorem back_len (a : Addr) (A : Option Addr) (n c : Nat) (w : World) (hn : n ≠ 16) : Calls Try.prog 13 #[.pointer (some a), .slice A n c] w fun e w' => e = .returned (.tuple #[.slice none 0 0, .int .i64 1]) ∧ w = w' := by
  have HF := Lib.hid (fun W => refuse_len a A n c W hn)
  go_enter Try.func13, Try.ntmps13
  go_wp2_with (go_at_call 18; with_reducible (refine Calls.mono (HF.out _) ?_); rintro e w' ⟨rfl, rfl⟩)
  go_ret2
  exact ⟨rfl, rfl⟩

theorem aes_spec (w0 : World) : AesSpec w0 Ciph where
  new := fun A c key w _ hr hk hl hc => new_any A c key w hr hk hl hc
  newNo := fun A n c w _ hn _ => (new_len A n c w hn).mono fun _ _ ⟨h1, h2⟩ => ⟨h1, h2 ▸ Below.refl _ _⟩
  block := fun a key A c b w _ hR _ hr hb hl hc => (block_any a key A c b w hR hr hb hl hc).mono fun _ _ ⟨g, h1, h2, h3⟩ => ⟨some ⟨g, 0, none⟩, 16, h1, Nat.le_refl _, ints_of_BA h2 (lt_row h2), h3⟩
  back := fun a key A c b w _ hR _ hr hb hl hc => (back_any a key A c b w hR hr hb hl hc).mono fun _ _ ⟨g, h1, h2, h3⟩ => ⟨some ⟨g, 0, none⟩, 16, h1, Nat.le_refl _, ints_of_BA h2 (lt_row h2), h3⟩
  blockNo := fun a _ A n c w _ _ hn _ => (block_len a A n c w hn).mono fun _ _ ⟨h1, h2⟩ => ⟨none, 0, h1, h2 ▸ Below.refl _ _⟩
  nilBlock := fun A n c w _ => (block_nil A n c w).mono fun _ _ ⟨h1, h2⟩ => ⟨none, 0, h1, h2 ▸ Below.refl _ _⟩
  nilBack := fun A n c w _ => (back_nil A n c w).mono fun _ _ ⟨h1, h2⟩ => ⟨none, 0, h1, h2 ▸ Below.refl _ _⟩
  keep := fun _ _ _ _ h hb => h.keep hb

end Go.Proofs.Ytgmmmnoakflinaa
