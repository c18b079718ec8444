/-
  Laws of layer 5 as walks, from what is asked of the layer's calls.
-/
import Derived.Test.YtgmmmnoakflinaaAesSpec
namespace Go.Proofs.Ytgmmmnoakflinaa
open Go.RowKit

set_option maxHeartbeats 1600000 in
/-- AesBack. -/
theorem aesBack_go {R : World → Addr → List Nat → Prop} (A0 A1 : Option Addr) (c0 c1 : Nat) (key b : List Nat) (w : World) (HS : AesSpec w R) (h0 : Ints w w.heap.size .u8 A0 (up key)) (h1 : Ints w w.heap.size .u8 A1 (up b)) (hk : ∀ x ∈ key, x < 256) (hb : ∀ x ∈ b, x < 256)
    (hc0 : key.length ≤ c0) (hc1 : b.length ≤ c1) (hm0 : key.length ≤ 140737488355328) :
    Calls Try.prog 4 #[.slice A0 key.length c0, .slice A1 b.length c1] w fun e w' => e = .returned (.bool true) ∧ Below w.heap.size w w' := by
  have HA := Lib.hid (aesAwake HS)
  by_cases hl : key.length = 16
  · have HN := Lib.hid (HS.new A0 c0 key w (Below.refl _ _) h0 hk hl (by omega))
    rw [hl]
    by_cases hlb : b.length = 16
    · have ok : Ok16 b := ⟨hlb, hb⟩
      have ek := encN_ok hk ok
      have dk := decN_ok hk ok
      have H1 := Lib.hid (fun (W : World) (a : Addr) (hw : Below w.heap.size w W) (hr : R W a key) => HS.block a key A1 c1 b W hw hr hk ((h1.below hw).more hw.size) hb hlb (by omega))
      have H2 : Hid (∀ (W : World) (a : Addr) (A : Option Addr) (c : Nat), Below w.heap.size w W → R W a key → Ints W W.heap.size .u8 A (up (encN key b)) → 16 ≤ c →
          Calls Try.prog 13 #[.pointer (some a), .slice A 16 c] W fun e w' => ∃ A' c', e = .returned (.tuple #[.slice A' 16 c', .int .i64 0]) ∧ 16 ≤ c' ∧ Ints w' w'.heap.size .u8 A' (up b) ∧ Below W.heap.size W w') := fun W a A c hw hr hi hc => by
        have h := HS.back a key A c (encN key b) W hw hr hk hi ek.lt ek.len hc
        rw [dec_enc hk ok] at h
        exact h
      have H3 := Lib.hid (fun (W : World) (a : Addr) (hw : Below w.heap.size w W) (hr : R W a key) => HS.back a key A1 c1 b W hw hr hk ((h1.below hw).more hw.size) hb hlb (by omega))
      have H4 : Hid (∀ (W : World) (a : Addr) (A : Option Addr) (c : Nat), Below w.heap.size w W → R W a key → Ints W W.heap.size .u8 A (up (decN key b)) → 16 ≤ c →
          Calls Try.prog 10 #[.pointer (some a), .slice A 16 c] W fun e w' => ∃ A' c', e = .returned (.tuple #[.slice A' 16 c', .int .i64 0]) ∧ 16 ≤ c' ∧ Ints w' w'.heap.size .u8 A' (up b) ∧ Below W.heap.size W w') := fun W a A c hw hr hi hc => by
        have h := HS.block a key A c (decN key b) W hw hr hk hi dk.lt dk.len hc
        rw [enc_dec hk ok] at h
        exact h
      have HKP := Lib.hid HS.keep
      have HTX : Hid (∀ (W : World) (A : Option Addr) (c : Nat), Ints W W.heap.size .u8 A (up b) → (convert 22 9 (.slice A 16 c)).run Try.prog W = .ok (.string (strOfNums (up b))) W) := fun W A c h =>
        h.textAs Try.underlying22 Try.underlying5 Try.underlying9 (by rw [up_len, hlb]) rfl c
      have HI1 := Lib.hid h1
      rw [hlb]
      obtain ⟨tx, htx⟩ : ∃ t, t = strOfNums (up b) := ⟨_, rfl⟩
      rw [← htx] at HTX
      clear htx HS h0 h1 hk hb ok ek dk hl hlb hc0 hm0
      go_enter Try.func4, Try.ntmps4
      go_wp2_with (first
        | (go_at_call 8; with_reducible (refine Calls.mono HN.out ?_); rintro e w1 ⟨a, rfl, hr1, hbx⟩)
        | (go_at_call 9; with_reducible (refine Calls.mono (HA.out _ hbx) ?_); rintro e w2 ⟨rfl, hb2⟩; have hr2 := HKP.out _ _ _ _ hr1 hb2; have hbx := chain hbx hb2)
        | (go_at_call 10; with_reducible (refine Calls.mono (H4.out _ _ _ _ hbx hr5 hi5 hc5) ?_); rintro e w6 ⟨A6, c6, rfl, hc6, hi6, hb6⟩; have hbx := chain hbx hb6; have k6 := HTX.out _ _ c6 hi6; have k4 := HTX.out _ _ c4 ((hi4.below (chain hb5 hb6)).more (chain hb5 hb6).size); have k1 := HTX.out w6 A1 c1 ((HI1.out.below hbx).more hbx.size))
        | (go_at_call 13; have h4 := hi4; with_reducible (refine Calls.mono (H3.out _ _ hbx hr4) ?_); rintro e w5 ⟨A5, c5, rfl, hc5, hi5, hb5⟩; have hr5 := HKP.out _ _ _ _ hr4 hb5; have hbx := chain hbx hb5)
        | (go_at_call 13; with_reducible (refine Calls.mono (H2.out _ _ _ _ hbx hr3 hi3 hc3) ?_); rintro e w4 ⟨A4, c4, rfl, hc4, hi4, hb4⟩; have hr4 := HKP.out _ _ _ _ hr3 hb4; have hbx := chain hbx hb4)
        | (go_at_call 10; with_reducible (refine Calls.mono (H1.out _ _ hbx hr2) ?_); rintro e w3 ⟨A3, c3, rfl, hc3, hi3, hb3⟩; have hr3 := HKP.out _ _ _ _ hr2 hb3; have hbx := chain hbx hb3))
      go_ret
      exact ⟨rfl, hbx⟩
    · have hnb : ((b.length : Int) != 16) = true := by simp; omega
      have hnb2 : ¬ (b.length : Int) = 16 := by omega
      clear HS h0 h1 hk hb hl hc0 hc1 hm0
      go_enter Try.func4, Try.ntmps4
      go_wp2_with (first
        | (go_at_call 8; with_reducible (refine Calls.mono HN.out ?_); rintro e w1 ⟨a, rfl, hr1, hbx⟩)
        | (go_at_call 9; with_reducible (refine Calls.mono (HA.out _ hbx) ?_); rintro e w2 ⟨rfl, hb2⟩; have hbx := chain hbx hb2))
      go_ret
      exact ⟨rfl, hbx⟩
  · have HN := Lib.hid (HS.newNo A0 key.length c0 w (Below.refl _ _) hl hm0)
    clear HS h0 h1 hk hb hl hc0 hc1 hm0
    go_enter Try.func4, Try.ntmps4
    go_wp2_with (first
      | (go_at_call 8; with_reducible (refine Calls.mono HN.out ?_); rintro e w1 ⟨rfl, hbx⟩)
      | (go_at_call 9; with_reducible (refine Calls.mono (HA.out _ hbx) ?_); rintro e w2 ⟨rfl, hb2⟩; have hbx := chain hbx hb2))
    go_ret
    exact ⟨rfl, hbx⟩

end Go.Proofs.Ytgmmmnoakflinaa
