/-
  AesBlocks: any block under any key, from what is asked of the layer's calls.
-/
import Derived.Test.YtgmmmnoakflinaaAesNo
import Derived.Deep.RegionHeld3
namespace Go.Proofs.Ytgmmmnoakflinaa
open Go.RowKit

set_option maxHeartbeats 1600000 in
theorem aesBlocks_both {R : World → Addr → List Nat → Prop} (A0 A1 : Option Addr) (c0 c1 : Nat) (key b : List Nat) (w : World) (HS : AesSpec w R) (h0 : Ints w w.heap.size .u8 A0 (up key)) (h1 : Ints w w.heap.size .u8 A1 (up b)) (hk : ∀ x ∈ key, x < 256) (hb : ∀ x ∈ b, x < 256)
    (hc0 : 16 ≤ c0) (hc1 : 16 ≤ c1) (hl : key.length = 16) (hlb : b.length = 16) :
    Calls Try.prog 3 #[.slice A0 16 c0, .slice A1 16 c1] w fun e w' => e = .returned (.bool true) ∧ Below w.heap.size w w' := by
  have HA := Lib.hid (aesAwake HS)
  have HN := Lib.hid (HS.new A0 c0 key w (Below.refl _ _) h0 hk hl hc0)
  have H1 := Lib.hid (fun (W : World) (a : Addr) (hw : Below w.heap.size w W) (hr : R W a key) => HS.block a key A1 c1 b W hw hr hk ((h1.below hw).more hw.size) hb hlb hc1)
  have HSB := Lib.hid refSubs_any
  have HRB := Lib.hid (fun (W : World) (A2 : Option Addr) (c2 : Nat) (hw : Below w.heap.size w W) (hs : Ints W W.heap.size .u8 A2 (up sbox)) => refBlock_any A0 A1 A2 c0 c1 c2 key b W ((h0.below hw).more hw.size) ((h1.below hw).more hw.size) hs hk hb hl hlb hc0)
  obtain ⟨SB, hSB⟩ : ∃ l, l = up sbox := ⟨_, rfl⟩
  simp only [← hSB] at HSB HRB
  clear hSB
  have hel : (up (encN key b)).length = 16 := by rw [up_len]; exact (encN_ok hk ⟨hlb, hb⟩).len
  have HEL := Lib.hid hel
  clear hel
  obtain ⟨d, hd⟩ : ∃ d, d = up (encN key b) := ⟨_, rfl⟩
  simp only [← hd] at H1 HRB HEL
  obtain ⟨t, ht⟩ : ∃ t, strOfNums d = t := ⟨_, rfl⟩
  have HT := Lib.hid ht
  have hbx0 : Below w.heap.size w w := Below.refl _ _
  clear hd ht h0 h1 hk hb hl hlb hc0 hc1 HS
  go_enter Try.func3, Try.ntmps3
  go_wp2_with (first
    | (go_at_call 10; with_reducible (refine Calls.mono (H1.out _ _ hbx hr1) ?_); rintro e w2 ⟨A2, c2, rfl, hc2, hi2, hb2⟩; have hbx := chain hbx hb2)
    | (go_at_call 8; with_reducible (refine Calls.mono HN.out ?_); rintro e w1 ⟨a, rfl, hr1, hbx⟩))
  have HSS : Hid (∀ W : World, Below w2.heap.size w2 W → Below w2.heap.size w2 W ∧ (convert 22 9 (.slice A2 16 c2)).run Try.prog W = .ok (.string t) W) := fun W hb =>
    ⟨hb, (hi2.below hb).textAs Try.underlying22 Try.underlying5 Try.underlying9 HEL.out HT.out c2⟩
  have HBW := Lib.hid hbx
  clear hi2 hb2 hbx hbx0 hr1 H1 HN
  have hbx : Below w2.heap.size w2 w2.drew := (Below.refl _ _).drew
  refine wp_region_held_drew (S := (fun W => Below w2.heap.size w2 W ∧ (convert 22 9 (.slice A2 16 c2)).run Try.prog W = .ok (.string t) W)) (by kernel_rfl) (HSS.out _ hbx) (fun hHeld => ?_)
  refine wpAnyH_ready (rs := [0]) (by kernel_rfl) (by simp) ?_
  refine AllReadyH.cons (o := _) rfl (fun K hK => ?_) AllReadyH.nil
  go_simp
  (go_at_call 9; with_reducible (refine Calls.mono (HA.out _ (chain HBW.out hbx)) ?_); rintro e w3 ⟨rfl, hb3⟩; have hbx := chain hbx hb3)
  refine hK.out _ _ (HSS.out _ hbx) (fun hHeld0 => ?_)
  (try simp only [Act.put, List.setIfInBounds_toArray, List.set_cons_zero, List.set_cons_succ])
  clear hK K
  refine wpAnyH_take (i := 1) (oi := _) (v := ?_) rfl (by kernel_rfl) (by kernel_rfl) (by kernel_rfl) (fun _ _ _ h => h) (Or.inl ⟨by rfl, ?_⟩) (by assumption) ?_
  rotate_left 1
  · intro w hSw; (try dsimp only at hSw); first | (go_simp; done) | (go_simp; with_reducible rfl)
  change wpAnyH _ _ _ _ _ _ _ (Act.put _ (some 50) _) _
  (try simp only [Act.put, List.setIfInBounds_toArray, List.set_cons_zero, List.set_cons_succ])
  refine wpAnyH_take (i := 2) (oi := _) (v := ?_) rfl (by kernel_rfl) (by kernel_rfl) (by kernel_rfl) (fun _ _ _ h => h) (Or.inl ⟨by rfl, ?_⟩) (by assumption) ?_
  rotate_left 1
  · intro w hSw; (try dsimp only at hSw); first | (go_simp; done) | (go_simp; with_reducible rfl)
  change wpAnyH _ _ _ _ _ _ _ (Act.put _ (some 51) _) _
  (try simp only [Act.put, List.setIfInBounds_toArray, List.set_cons_zero, List.set_cons_succ])
  refine wpAnyH_take (i := 3) (oi := _) (v := ?_) rfl (by kernel_rfl) (by kernel_rfl) (by kernel_rfl) (fun _ _ _ h => h) (Or.inl ⟨by rfl, ?_⟩) (by assumption) ?_
  rotate_left 1
  · intro w hSw; (try dsimp only at hSw); first | (go_simp; done) | (go_simp; with_reducible rfl)
  change wpAnyH _ _ _ _ _ _ _ (Act.put _ (some 52) _) _
  (try simp only [Act.put, List.setIfInBounds_toArray, List.set_cons_zero, List.set_cons_succ])
  refine wpAnyH_take (i := 4) (oi := _) (v := ?_) rfl (by kernel_rfl) (by kernel_rfl) (by kernel_rfl) (fun _ _ _ h => h) (Or.inl ⟨by rfl, ?_⟩) (by assumption) ?_
  rotate_left 1
  · intro w hSw; (try dsimp only at hSw); first | (go_simp; done) | (go_simp; with_reducible rfl)
  change wpAnyH _ _ _ _ _ _ _ (Act.put _ (some 53) _) _
  (try simp only [Act.put, List.setIfInBounds_toArray, List.set_cons_zero, List.set_cons_succ])
  refine wpAnyH_take (i := 5) (oi := _) (v := ?_) rfl (by kernel_rfl) (by kernel_rfl) (by kernel_rfl) (fun _ _ _ h => h) (Or.inl ⟨by rfl, ?_⟩) (by assumption) ?_
  rotate_left 1
  · intro w hSw; (try dsimp only at hSw); first | (go_simp; done) | (go_simp; with_reducible rfl)
  change wpAnyH _ _ _ _ _ _ _ (Act.put _ (some 54) _) _
  (try simp only [Act.put, List.setIfInBounds_toArray, List.set_cons_zero, List.set_cons_succ])
  refine wpAnyH_take (i := 6) (oi := _) (v := ?_) rfl (by kernel_rfl) (by kernel_rfl) (by kernel_rfl) (fun _ _ _ h => h) (Or.inl ⟨by rfl, ?_⟩) (by assumption) ?_
  rotate_left 1
  · intro w hSw; (try dsimp only at hSw); first | (go_simp; done) | (go_simp; with_reducible rfl)
  change wpAnyH _ _ _ _ _ _ _ (Act.put _ (some 55) _) _
  (try simp only [Act.put, List.setIfInBounds_toArray, List.set_cons_zero, List.set_cons_succ])
  refine wpAnyH_take (i := 7) (oi := _) (v := ?_) rfl (by kernel_rfl) (by kernel_rfl) (by kernel_rfl) (fun _ _ _ h => h) (Or.inl ⟨by rfl, ?_⟩) (by assumption) ?_
  rotate_left 1
  · intro w hSw; (try dsimp only at hSw); first | (go_simp; done) | (go_simp; with_reducible rfl)
  change wpAnyH _ _ _ _ _ _ _ (Act.put _ (some 56) _) _
  (try simp only [Act.put, List.setIfInBounds_toArray, List.set_cons_zero, List.set_cons_succ])
  refine wpAnyH_take (i := 8) (oi := _) (v := ?_) rfl (by kernel_rfl) (by kernel_rfl) (by kernel_rfl) (fun _ _ _ h => h) (Or.inl ⟨by rfl, ?_⟩) (by assumption) ?_
  rotate_left 1
  · intro w hSw; (try dsimp only at hSw); first | (go_simp; done) | (go_simp; with_reducible rfl)
  change wpAnyH _ _ _ _ _ _ _ (Act.put _ (some 57) _) _
  (try simp only [Act.put, List.setIfInBounds_toArray, List.set_cons_zero, List.set_cons_succ])
  refine wpAnyH_take (i := 9) (oi := _) (v := ?_) rfl (by kernel_rfl) (by kernel_rfl) (by kernel_rfl) (fun _ _ _ h => h) (Or.inl ⟨by rfl, ?_⟩) (by assumption) ?_
  rotate_left 1
  · intro w hSw; (try dsimp only at hSw); first | (go_simp; done) | (go_simp; with_reducible rfl)
  change wpAnyH _ _ _ _ _ _ _ (Act.put _ (some 58) _) _
  (try simp only [Act.put, List.setIfInBounds_toArray, List.set_cons_zero, List.set_cons_succ])
  refine wpAnyH_take (i := 10) (oi := _) (v := ?_) rfl (by kernel_rfl) (by kernel_rfl) (by kernel_rfl) (fun _ _ _ h => h) (Or.inl ⟨by rfl, ?_⟩) (by assumption) ?_
  rotate_left 1
  · intro w hSw; (try dsimp only at hSw); first | (go_simp; done) | (go_simp; with_reducible rfl)
  change wpAnyH _ _ _ _ _ _ _ (Act.put _ (some 59) _) _
  (try simp only [Act.put, List.setIfInBounds_toArray, List.set_cons_zero, List.set_cons_succ])
  refine wpAnyH_take (i := 11) (oi := _) (v := ?_) rfl (by kernel_rfl) (by kernel_rfl) (by kernel_rfl) (fun _ _ _ h => h) (Or.inl ⟨by rfl, ?_⟩) (by assumption) ?_
  rotate_left 1
  · intro w hSw; (try dsimp only at hSw); first | (go_simp; done) | (go_simp; with_reducible rfl)
  change wpAnyH _ _ _ _ _ _ _ (Act.put _ (some 60) _) _
  (try simp only [Act.put, List.setIfInBounds_toArray, List.set_cons_zero, List.set_cons_succ])
  refine wpAnyH_take (i := 12) (oi := _) (v := ?_) rfl (by kernel_rfl) (by kernel_rfl) (by kernel_rfl) (fun _ _ _ h => h) (Or.inl ⟨by rfl, ?_⟩) (by assumption) ?_
  rotate_left 1
  · intro w hSw; (try dsimp only at hSw); first | (go_simp; done) | (go_simp; with_reducible rfl)
  change wpAnyH _ _ _ _ _ _ _ (Act.put _ (some 61) _) _
  (try simp only [Act.put, List.setIfInBounds_toArray, List.set_cons_zero, List.set_cons_succ])
  refine wpAnyH_take (i := 13) (oi := _) (v := ?_) rfl (by kernel_rfl) (by kernel_rfl) (by kernel_rfl) (fun _ _ _ h => h) (Or.inl ⟨by rfl, ?_⟩) (by assumption) ?_
  rotate_left 1
  · intro w hSw; (try dsimp only at hSw); first | (go_simp; done) | (go_simp; with_reducible rfl)
  change wpAnyH _ _ _ _ _ _ _ (Act.put _ (some 62) _) _
  (try simp only [Act.put, List.setIfInBounds_toArray, List.set_cons_zero, List.set_cons_succ])
  refine wpAnyH_ready (rs := [14]) (by kernel_rfl) (by simp) ?_
  refine AllReadyH.cons (o := _) rfl (fun K hK => ?_) AllReadyH.nil
  go_simp
  (go_at_call 12; with_reducible (refine Calls.mono (HSB.out _) ?_); rintro e w4 ⟨A4, c4, rfl, _, hi4, hb4⟩; have hbx := chain hbx hb4)
  refine hK.out _ _ (HSS.out _ hbx) (fun hHeld14 => ?_)
  (try simp only [Act.put, List.setIfInBounds_toArray, List.set_cons_zero, List.set_cons_succ])
  clear hK K
  refine wpAnyH_ready (rs := [15]) (by kernel_rfl) (by simp) ?_
  refine AllReadyH.cons (o := _) rfl (fun K hK => ?_) AllReadyH.nil
  go_simp
  (go_at_call 11; with_reducible (refine Calls.mono (HRB.out _ _ _ (chain HBW.out hbx) hi4) ?_); rintro e w5 ⟨A5, c5, rfl, hi5, hb5⟩; have hbx := chain hbx hb5; have hk5 := hi5.textAs (P := Try.prog) (n := 16) (t := t) Try.underlying22 Try.underlying5 Try.underlying9 HEL.out HT.out c5)
  refine hK.out _ _ (HSS.out _ hbx) (fun hHeld15 => ?_)
  (try simp only [Act.put, List.setIfInBounds_toArray, List.set_cons_zero, List.set_cons_succ])
  clear hK K
  refine wpAnyH_ready (rs := [16]) (by kernel_rfl) (by simp) ?_
  refine AllReadyH.cons (o := _) rfl (fun K hK => ?_) AllReadyH.nil
  go_simp
  refine hK.out _ _ (HSS.out _ hbx) (fun hHeld16 => ?_)
  (try simp only [Act.put, List.setIfInBounds_toArray, List.set_cons_zero, List.set_cons_succ])
  clear hK K
  refine wpAnyH_take (i := 17) (oi := _) (v := ?_) rfl (by kernel_rfl) (by kernel_rfl) (by kernel_rfl) (fun _ _ _ h => h) (Or.inl ⟨by rfl, ?_⟩) (by assumption) ?_
  rotate_left 1
  · intro w hSw; (try dsimp only at hSw); first | (go_simp; done) | (go_simp; with_reducible rfl)
  change wpAnyH _ _ _ _ _ _ _ (Act.put _ (some 66) _) _
  (try simp only [Act.put, List.setIfInBounds_toArray, List.set_cons_zero, List.set_cons_succ])
  refine wpAnyH_take (i := 18) (oi := _) (v := ?_) rfl (by kernel_rfl) (by kernel_rfl) (by kernel_rfl) (fun _ _ _ h => h) (Or.inl ⟨by rfl, ?_⟩) (by assumption) ?_
  rotate_left 1
  · intro w hSw; (try dsimp only at hSw); first | (go_simp; done) | (go_simp; with_reducible rfl)
  change wpAnyH _ _ _ _ _ _ _ (Act.put _ (some 67) _) _
  (try simp only [Act.put, List.setIfInBounds_toArray, List.set_cons_zero, List.set_cons_succ])
  refine wpAnyH_take (i := 19) (oi := _) (v := ?_) rfl (by kernel_rfl) (by kernel_rfl) (by kernel_rfl) (fun _ _ _ h => h) (Or.inl ⟨by rfl, ?_⟩) (by assumption) ?_
  rotate_left 1
  · intro w hSw; (try dsimp only at hSw); first | (go_simp; done) | (go_simp; with_reducible rfl)
  change wpAnyH _ _ _ _ _ _ _ (Act.put _ (some 4) _) _
  (try simp only [Act.put, List.setIfInBounds_toArray, List.set_cons_zero, List.set_cons_succ])
  refine wpAnyH_done (by kernel_rfl) ?_ _
  go_wp2
  go_ret
  exact ⟨rfl, chain HBW.out hbx⟩

/-- AesBlocks. -/
theorem aesBlocks_go {R : World → Addr → List Nat → Prop} (A0 A1 : Option Addr) (c0 c1 : Nat) (key b : List Nat) (w : World) (HS : AesSpec w R) (h0 : Ints w w.heap.size .u8 A0 (up key)) (h1 : Ints w w.heap.size .u8 A1 (up b)) (hk : ∀ x ∈ key, x < 256) (hb : ∀ x ∈ b, x < 256)
    (hc0 : key.length ≤ c0) (hc1 : b.length ≤ c1) (hm0 : key.length ≤ 140737488355328) (hm1 : b.length ≤ 140737488355328) :
    Calls Try.prog 3 #[.slice A0 key.length c0, .slice A1 b.length c1] w fun e w' => e = .returned (.bool true) ∧ Below w.heap.size w w' := by
  by_cases h : key.length = 16 ∧ b.length = 16
  · have := aesBlocks_both A0 A1 c0 c1 key b w HS h0 h1 hk hb (by omega) (by omega) h.1 h.2
    rw [h.1, h.2]
    exact this
  · exact aesBlocks_no A0 A1 c0 c1 key b w HS h0 hk hc0 hm0 hm1 h

end Go.Proofs.Ytgmmmnoakflinaa
