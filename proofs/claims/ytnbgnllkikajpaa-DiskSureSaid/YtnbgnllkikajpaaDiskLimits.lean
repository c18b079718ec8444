/-
  DiskLimits: with a limit so many writes and flushes are done, and none behind; a crash brings the power back.
-/
import Derived.Test.YtnbgnllkikajpaaDiskSpec
namespace Go.Proofs.Ytnbgnllkikajpaa
open Go.RowKit

section
variable {w : World} {Rep : World → Nat → (Nat → Prop) → Dk → Prop}
def LimR (Rep : World → Nat → (Nat → Prop) → Dk → Prop) (w : World) (p n i : Nat) (W : World) : Prop := ∃ s, LimD n i s ∧ OwnD Rep w W p s
theorem limR_flush (HS : DiskSpec w Rep) {W : World} {p n i : Nat} (h : LimR Rep w p n i W) : Calls Try.prog 16 #[.pointer (some ⟨p, 0, none⟩)] W fun e w' => e = .returned (.int .i64 (if i < n then 0 else 8)) ∧ LimR Rep w p n (i + 1) w' := by
  obtain ⟨s, hl, F, h1, h2, h3⟩ := h
  obtain ⟨q1, q2⟩ := lim_flush hl
  rw [← q2]
  exact (HS.flush p F s W h3 h1 h2).mono fun e w' ⟨F', r1, r2, r3, r4⟩ => ⟨r1, _, q1, own_turn h2 h3 r2 r3 r4⟩
theorem limR_write (HS : DiskSpec w Rep) {W : World} {p n i k : Nat} (h : LimR Rep w p n i W) (hk : k < 3) (hi : i ≤ 400) :
    Calls Try.prog 12 #[.pointer (some ⟨p, 0, none⟩), .int .i64 (k : Int), .slice (some ⟨W.heap.size, 0, none⟩) 64 64] (W.alloc (.cells (CB zeroSec) 5)) fun e w' => e = .returned (.int .i64 (if i < n then 0 else 8)) ∧ LimR Rep w p n (i + 1) w' := by
  obtain ⟨s, hl, F, h1, h2, h3⟩ := h
  obtain ⟨q1, q2⟩ := lim_write hl hk
  rw [← q2]
  have hb : Below W.heap.size W (W.alloc (.cells (CB zeroSec) 5)) := (Below.refl _ _).alloc (Nat.le_refl _) _
  have hp := hl.pen
  exact (HS.write (k : Int) (some ⟨W.heap.size, 0, none⟩) 64 zeroSec p F s _ (chain h3 hb) (by unfold I64c; omega) (RwB.new W zeroSec).ints sec_zero.2 (by decide) (by decide) (fun _ b o e hF' => by
    have := HS.lt W p F _ h1 b hF'
    injection e with e
    injection e with e1 _
    omega) (by omega) (HS.later h1 hb) h2).mono fun e w' ⟨F', r1, r2, r3, r4⟩ => ⟨r1, _, q1, own_turn h2 (chain h3 hb) r2 r3 r4⟩

set_option maxHeartbeats 1600000 in
set_option maxRecDepth 20000 in
/-- DiskLimits. -/
theorem diskLimits_go (n : Nat) (B : Option Addr) (l : List Bool) (c : Nat) (w : World) (HS : DiskSpec w Rep) (hn : n < 256) (hB : Bools w w.heap.size B l) :
    Calls Try.prog 5 #[.int .u8 (n : Int), .slice B l.length c] w fun e w' => e = .returned (.bool true) ∧ Below w.heap.size w w' := by
  have HA := Lib.hid (fun (W : World) (hb : Below w.heap.size w W) => diskAwake HS W hb)
  have H1 := Lib.hid (own_newD (Rep := Rep) HS (W := w) (n := 3) (Below.refl _ _) (by decide) (by decide))
  have HOB : Hid (∀ W p s, OwnD Rep w W p s → Below w.heap.size w W) := fun W p s h => h.below
  have HLT : Hid (∀ W W' p s, OwnD Rep w W p s → Below W.heap.size W W' → OwnD Rep w W' p s) := fun W W' p s h hb => h.later HS hb
  have HLI : Hid (∀ W p, OwnD Rep w W p (newD 3) → Calls Try.prog 18 #[.pointer (some ⟨p, 0, none⟩), .int .i64 (n : Int)] W fun e w' => e = .returned (.tuple #[]) ∧ LimR Rep w p n 0 w') := fun W p h => by
    obtain ⟨F, h1, h2, h3⟩ := h
    exact (HS.limit (n : Int) p F _ W h3 (by unfold I64c; omega) h1 h2).mono fun e w' ⟨F', r1, r2, r3, r4⟩ => ⟨r1, _, lim_start n, own_turn h2 h3 r2 r3 r4⟩
  have HFL : Hid (∀ W p i, LimR Rep w p n i W → Calls Try.prog 16 #[.pointer (some ⟨p, 0, none⟩)] W fun e w' => e = .returned (.int .i64 (if i < n then 0 else 8)) ∧ LimR Rep w p n (i + 1) w') := fun W p i h => limR_flush HS h
  have HWR : Hid (∀ W p i (k : Nat), LimR Rep w p n i W → k < 3 → i ≤ 400 → Calls Try.prog 12 #[.pointer (some ⟨p, 0, none⟩), .int .i64 (k : Int), .slice (some ⟨W.heap.size, 0, none⟩) 64 64] (W.alloc (.cells (CB zeroSec) 5)) fun e w' => e = .returned (.int .i64 (if i < n then 0 else 8)) ∧ LimR Rep w p n (i + 1) w') := fun W p i k h hk hi => limR_write HS h hk hi
  have HCR : Hid (∀ W p i, LimR Rep w p n i W → Calls Try.prog 19 #[.pointer (some ⟨p, 0, none⟩), .slice none 0 0] W fun e w' => e = .returned (.tuple #[]) ∧ ∃ s, FreeD 3 0 s ∧ OwnD Rep w w' p s) := fun W p i h => by
    obtain ⟨s, hl, F, h1, h2, h3⟩ := h
    exact (HS.crash none 0 [] p F s W h3 (Bools.none _ _ _) (Nat.zero_le 0) (Nat.zero_le _) (fun h => absurd h (Nat.lt_irrefl 0)) h1 h2).mono fun e w' ⟨F', r1, r2, r3, r4⟩ => ⟨r1, _, free_crash hl.ok hl.three [], own_turn h2 h3 r2 r3 r4⟩
  have HRD : Hid (∀ W p s, FreeD 3 0 s → OwnD Rep w W p s → Calls Try.prog 14 #[.pointer (some ⟨p, 0, none⟩), .int .i64 0] W fun e w' => ∃ A c, e = .returned (.tuple #[.slice A 64 c, .int .i64 0]) ∧ OwnD Rep w w' p s) := fun W p s hf h => by
    obtain ⟨F, h1, h2, h3⟩ := h
    exact (HS.read 0 p F s W h3 h1 h2 (free_read hf (by decide)).1).mono fun e w' ⟨A, c, r1, _, _, r4⟩ => ⟨A, c, r1, OwnD.later HS ⟨F, h1, h2, h3⟩ r4⟩
  have HFE : Hid (∀ W p s, FreeD 3 0 s → OwnD Rep w W p s → Calls Try.prog 16 #[.pointer (some ⟨p, 0, none⟩)] W fun e w' => e = .returned (.int .i64 0) ∧ Below w.heap.size w w') := fun W p s hf h => by
    obtain ⟨F, h1, h2, h3⟩ := h
    have q := (free_flush hf).2.1
    exact (HS.flush p F s W h3 h1 h2).mono fun e w' ⟨F', r1, r2, r3, r4⟩ => ⟨by rw [r1, q], (own_turn (s' := flushS s) h2 h3 r2 r3 r4).below⟩
  have HBO : Hid (∀ W, Below w.heap.size w W → ∀ i, i < l.length → ∃ b o, B = some ⟨b, o, none⟩ ∧ W.cell? ⟨b, o + i, none⟩ = some (.bool (l.getD i false))) := fun W hb i hi => by
    obtain ⟨b, o, e, _, hc⟩ := (hB.below hb) i hi
    exact ⟨b, o, e, hc⟩
  have hmk := make64
  obtain ⟨Z, hZ⟩ : ∃ Z, Z = CB zeroSec := ⟨_, rfl⟩
  rw [← hZ] at hmk HWR
  have HLB : Hid (∀ W p i, LimR Rep w p n i W → Below w.heap.size w W) := fun W p i h => by obtain ⟨s, _, h⟩ := h; exact h.below
  obtain ⟨L, hL⟩ : ∃ L, L = l.length := ⟨_, rfl⟩
  have HL := Lib.hid hL
  have HN := Lib.hid hn
  rw [← hL]
  have n0 : (0 : Int) ≤ (n : Int) := by omega
  have n1 : (n : Int) < 256 := by omega
  have nw : Hid (IntKind.i64.wrap (n : Int) = (n : Int)) := IntWalk.i64_in _ (by omega)
  clear HS hB hZ hL
  go_enter Try.func5, Try.ntmps5
  go_wp2_with (first
    | (go_at_call 9; with_reducible (refine Calls.mono H1.out ?_); rintro e w1 ⟨p, rfl, ho1⟩)
    | (go_at_call 10; with_reducible (refine Calls.mono (HA.out _ (HOB.out _ _ _ ho1)) ?_); rintro e w2 ⟨rfl, hb2⟩; have ho2 := HLT.out _ _ _ _ ho1 hb2)
    | (go_at_call 18; with_reducible (refine Calls.mono (HLI.out _ _ ho2) ?_); rintro e w3 ⟨rfl, hl3⟩; have HL3 := Lib.hid hl3; clear hl3))
  clear ho1 ho2 hb2 HLI H1 HA
  go_loopw [7] (fun i wx => ∃ j : Nat, j ≤ L ∧ j ≤ 400 ∧ i = .int .i64 j ∧ Hid (LimR Rep w p n j wx)) (fun i _ => 400 - (intOf i).toNat)
  case atStart => exact ⟨0, Nat.zero_le _, Nat.zero_le _, rfl, HL3.out⟩
  case round =>
    clear HL3
    obtain ⟨j, hjL, hj4, rfl, hR⟩ := hrel
    have j0 : (0 : Int) ≤ (j : Int) := by omega
    by_cases hj : j < L
    · have j1 : (j : Int) < (L : Int) := by omega
      by_cases hj2 : j < 400
      · have j2 : (j : Int) < 400 := by omega
        obtain ⟨b, o, rfl, hc⟩ := HBO.out wr (HLB.out _ _ _ hR.out) j (by have := HL.out; omega)
        have hF := Lib.hid (HFL.out _ _ _ hR.out)
        have hW := Lib.hid (HWR.out wr p j (j % 3) hR.out (Nat.mod_lt _ (by decide)) (by omega))
        have hm : Hid ((j : Int).tmod 3 = ((j % 3 : Nat) : Int)) := by unfold Hid; rw [Int.tmod_eq_emod_of_nonneg (by omega)]; omega
        have hm2 : (j : Int).tmod 3 = ((j % 3 : Nat) : Int) := hm.out
        obtain ⟨r, hr⟩ : ∃ r, r = j % 3 := ⟨_, rfl⟩
        rw [← hr] at hm2 hW
        clear HFL HWR HCR HRD HFE HBO HLT HOB hm hr hR
        by_cases hjn : j < n
        · rw [if_pos hjn] at hF hW
          have d1 : (j : Int) < (n : Int) := by omega
          cases hbl : l.getD j false with
          | true =>
            rw [hbl] at hc
            clear hbl hW
            go_wp2_with (go_at_call 16; with_reducible (refine Calls.mono hF.out ?_); rintro e w4 ⟨rfl, hl4⟩; have HL4 := Lib.hid hl4; clear hl4)
            go_roundw
            case rel => first | exact ⟨j + 1, by omega, by omega, by go_num, HL4.out⟩ | ((repeat apply Exists.intro); exact ⟨⟨j + 1, by omega, by omega, by go_num, HL4.out⟩, rfl⟩)
            case measure => simp [intOf]; omega
          | false =>
            rw [hbl] at hc
            clear hbl hF
            go_wp2_with (go_at_call 12; with_reducible (refine Calls.mono hW.out ?_); rintro e w4 ⟨rfl, hl4⟩; have HL4 := Lib.hid hl4; clear hl4)
            go_roundw
            case rel => first | exact ⟨j + 1, by omega, by omega, by go_num, HL4.out⟩ | ((repeat apply Exists.intro); exact ⟨⟨j + 1, by omega, by omega, by go_num, HL4.out⟩, rfl⟩)
            case measure => simp [intOf]; omega
        · rw [if_neg hjn] at hF hW
          have d1 : ¬ (j : Int) < (n : Int) := by omega
          cases hbl : l.getD j false with
          | true =>
            rw [hbl] at hc
            clear hbl hW
            go_wp2_with (go_at_call 16; with_reducible (refine Calls.mono hF.out ?_); rintro e w4 ⟨rfl, hl4⟩; have HL4 := Lib.hid hl4; clear hl4)
            go_roundw
            case rel => first | exact ⟨j + 1, by omega, by omega, by go_num, HL4.out⟩ | ((repeat apply Exists.intro); exact ⟨⟨j + 1, by omega, by omega, by go_num, HL4.out⟩, rfl⟩)
            case measure => simp [intOf]; omega
          | false =>
            rw [hbl] at hc
            clear hbl hF
            go_wp2_with (go_at_call 12; with_reducible (refine Calls.mono hW.out ?_); rintro e w4 ⟨rfl, hl4⟩; have HL4 := Lib.hid hl4; clear hl4)
            go_roundw
            case rel => first | exact ⟨j + 1, by omega, by omega, by go_num, HL4.out⟩ | ((repeat apply Exists.intro); exact ⟨⟨j + 1, by omega, by omega, by go_num, HL4.out⟩, rfl⟩)
            case measure => simp [intOf]; omega
      · have j2 : ¬ (j : Int) < 400 := by omega
        clear HFL HWR HBO HLT HOB
        go_wp2_with (first
          | (go_at_call 19; with_reducible (refine Calls.mono (HCR.out _ _ _ hR.out) ?_); rintro e w4 ⟨rfl, s4, hf4, ho4⟩)
          | (go_at_call 14; with_reducible (refine Calls.mono (HRD.out _ _ _ hf4 ho4) ?_); rintro e w5 ⟨A5, c5, rfl, ho5⟩)
          | (go_at_call 16; with_reducible (refine Calls.mono (HFE.out _ _ _ hf4 ho5) ?_); rintro e w6 ⟨rfl, hb6⟩))
        go_ret
        exact ⟨rfl, hb6⟩
    · have j1 : ¬ (j : Int) < (L : Int) := by omega
      clear HFL HWR HBO HLT HOB
      go_wp2_with (first
        | (go_at_call 19; with_reducible (refine Calls.mono (HCR.out _ _ _ hR.out) ?_); rintro e w4 ⟨rfl, s4, hf4, ho4⟩)
        | (go_at_call 14; with_reducible (refine Calls.mono (HRD.out _ _ _ hf4 ho4) ?_); rintro e w5 ⟨A5, c5, rfl, ho5⟩)
        | (go_at_call 16; with_reducible (refine Calls.mono (HFE.out _ _ _ hf4 ho5) ?_); rintro e w6 ⟨rfl, hb6⟩))
      go_ret
      exact ⟨rfl, hb6⟩
end

end Go.Proofs.Ytnbgnllkikajpaa
