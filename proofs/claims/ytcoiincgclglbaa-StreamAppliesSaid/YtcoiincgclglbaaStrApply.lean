/-
  StreamApplies, from what is asked of the layer's calls.
-/
import Derived.Test.YtcoiincgclglbaaStrRef
import Derived.Test.YtcoiincgclglbaaStrBack
import Derived.Deep.RegionHeld3
namespace Go.Proofs.Ytcoiincgclglbaa
open Go.RowKit

set_option maxRecDepth 20000 in
set_option maxHeartbeats 1600000 in
theorem strApplies_ok (A0 A1 A2 : Option Addr) (c0 c1 c2 : Nat) (key ctr text : List Nat) (w : World) (HS : StrSpec w) (h0 : Ints w w.heap.size .u8 A0 (up key)) (h1 : Ints w w.heap.size .u8 A1 (up ctr)) (h2 : Ints w w.heap.size .u8 A2 (up text)) (hA2 : A2 = none → c2 = 0)
    (hk : ∀ x ∈ key, x < 256) (hc : ∀ x ∈ ctr, x < 256) (ht : ∀ x ∈ text, x < 256) (hl0 : key.length = 16) (hl1 : ctr.length = 16) (hc0 : 16 ≤ c0) (hc1 : 16 ≤ c1) (hc2 : text.length ≤ c2) :
    Calls Try.prog 3 #[.slice A0 16 c0, .slice A1 16 c1, .slice A2 text.length c2] w fun e w' => e = .returned (.bool true) ∧ Below w.heap.size w w' := by
  have HA := Lib.hid (strAwake HS)
  have HAP := Lib.hid (fun (W : World) (A : Option Addr) (c : Nat) (t : List Nat) (hb : Below w.heap.size w W) (h : Ints W W.heap.size .u8 A (up t)) (hA : A = none → c = 0) (htl : ∀ x ∈ t, x < 256) (hc : t.length ≤ c) (hm : t.length ≤ 1048576) => HS.apply A0 A1 A c0 c1 c key ctr t W hb ((h0.below hb).more hb.size) ((h1.below hb).more hb.size) h hA hk ‹_› htl hl0 hl1 hc0 hc1 hc hm)
  have HRF := Lib.hid (fun (W : World) (A : Option Addr) (c : Nat) (t : List Nat) (hb : Below w.heap.size w W) (h : Ints W W.heap.size .u8 A (up t)) (htl : ∀ x ∈ t, x < 256) (hm : t.length ≤ 400) => refApply_any A0 A1 A c0 c1 c key ctr t W ((h0.below hb).more hb.size) ((h1.below hb).more hb.size) h hk ‹_› htl hl0 hl1 hc0 hm)
  have H2 := Lib.hid h2
  have HT := Lib.hid ht
  have HA2 := Lib.hid hA2
  clear HS h0 h1 h2 hk hc ht hl0 hl1 hA2
  go_enter Try.func3, Try.ntmps3
  go_upto_if 11 with fail
  go_cut [2] (fun s wx => (∃ n : Nat, s = .slice A2 n c2 ∧ n ≤ text.length ∧ n ≤ 400) ∧ wx = w)
  case first =>
    by_cases h4 : (400 : Int) < text.length
    · have hc4 : (400 : Int) ≤ c2 := by omega
      have HL4 := Lib.hid h4
      clear hc2
      go_wp2
      go_meet
      exact ⟨⟨400, rfl, by have := HL4.out; omega, Nat.le_refl _⟩, rfl⟩
    · go_wp2
      go_meet
      exact ⟨⟨text.length, rfl, Nat.le_refl _, by omega⟩, rfl⟩
  case rest =>
    obtain ⟨⟨n, rfl, hn, hn4⟩, hw⟩ := hcut
    have hw' := hw.symm
    subst hw'
    have hTl : (text.take n).length = n := by rw [List.length_take]; omega
    have HTT : Hid (∀ x ∈ text.take n, x < 256) := fun x hx => HT.out x (List.mem_of_mem_take hx)
    have HIT := Lib.hid (take_up H2.out n)
    obtain ⟨T, hT⟩ : ∃ T, T = text.take n := ⟨_, rfl⟩
    rw [← hT] at hTl HTT HIT
    have HP1 := Lib.hid (HAP.out w A2 c2 T (Below.refl _ _) HIT.out HA2.out HTT.out (by omega) (by omega))
    have HR1 := Lib.hid (fun (W : World) (hb : Below w.heap.size w W) => HRF.out W A2 c2 T hb ((HIT.out.below hb).more hb.size) HTT.out (by omega))
    rw [hTl] at HP1 HR1
    have hel : (up (applyN key ctr T)).length = n := by rw [up_len, applyN_len, hTl]
    have HEL := Lib.hid hel
    clear hel
    obtain ⟨d, hd⟩ : ∃ d, d = up (applyN key ctr T) := ⟨_, rfl⟩
    simp only [← hd] at HP1 HR1 HEL
    obtain ⟨t, ht⟩ : ∃ t, strOfNums d = t := ⟨_, rfl⟩
    have HTX := Lib.hid ht
    clear hT hTl hw hd ht HAP HRF
    go_wp2_with (go_at_call 9; with_reducible (refine Calls.mono HP1.out ?_); rintro e w2 ⟨A3, c3, rfl, hc3, hn3, hi2, hb2⟩)
    have HSS : Hid (∀ W : World, Below w2.heap.size w2 W → Below w2.heap.size w2 W ∧ (convert 22 9 (.slice A3 n c3)).run Try.prog W = .ok (.string t) W) := fun W hb =>
      ⟨hb, (hi2.below hb).textAs Try.underlying22 Try.underlying5 Try.underlying9 HEL.out HTX.out c3⟩
    have HBW := Lib.hid hb2
    clear hi2 hb2 HP1 hn3
    have hbx : Below w2.heap.size w2 w2.drew := (Below.refl _ _).drew
    refine wp_region_held_drew (S := (fun W => Below w2.heap.size w2 W ∧ (convert 22 9 (.slice A3 n c3)).run Try.prog W = .ok (.string t) W)) (by kernel_rfl) (HSS.out _ hbx) (fun hHeld => ?_)
    refine wpAnyH_ready (rs := [0]) (by kernel_rfl) (by simp) ?_
    refine AllReadyH.cons (o := _) rfl (fun K hK => ?_) AllReadyH.nil
    go_simp
    (go_at_call 10; with_reducible (refine Calls.mono (HA.out _ (chain HBW.out hbx)) ?_); rintro e w3 ⟨rfl, hb3⟩; have hbx := chain hbx hb3)
    refine hK.out _ _ (HSS.out _ hbx) (fun hHeld0 => ?_)
    (try simp only [Act.put, List.setIfInBounds_toArray, List.set_cons_zero, List.set_cons_succ])
    clear hK K
    refine wpAnyH_take (i := 1) (oi := _) (v := ?_) rfl (by kernel_rfl) (by kernel_rfl) (by kernel_rfl) (fun _ _ _ h => h) (Or.inl ⟨by rfl, ?_⟩) (by assumption) ?_
    rotate_left 1
    · intro w hSw; (try dsimp only at hSw); first | (go_simp; done) | (go_simp; with_reducible rfl)
    change wpAnyH _ _ _ _ _ _ _ (Act.put _ (some 40) _) _
    (try simp only [Act.put, List.setIfInBounds_toArray, List.set_cons_zero, List.set_cons_succ])
    refine wpAnyH_take (i := 2) (oi := _) (v := ?_) rfl (by kernel_rfl) (by kernel_rfl) (by kernel_rfl) (fun _ _ _ h => h) (Or.inl ⟨by rfl, ?_⟩) (by assumption) ?_
    rotate_left 1
    · intro w hSw; (try dsimp only at hSw); first | (go_simp; done) | (go_simp; with_reducible rfl)
    change wpAnyH _ _ _ _ _ _ _ (Act.put _ (some 41) _) _
    (try simp only [Act.put, List.setIfInBounds_toArray, List.set_cons_zero, List.set_cons_succ])
    refine wpAnyH_take (i := 3) (oi := _) (v := ?_) rfl (by kernel_rfl) (by kernel_rfl) (by kernel_rfl) (fun _ _ _ h => h) (Or.inl ⟨by rfl, ?_⟩) (by assumption) ?_
    rotate_left 1
    · intro w hSw; (try dsimp only at hSw); first | (go_simp; done) | (go_simp; with_reducible rfl)
    change wpAnyH _ _ _ _ _ _ _ (Act.put _ (some 42) _) _
    (try simp only [Act.put, List.setIfInBounds_toArray, List.set_cons_zero, List.set_cons_succ])
    refine wpAnyH_take (i := 4) (oi := _) (v := ?_) rfl (by kernel_rfl) (by kernel_rfl) (by kernel_rfl) (fun _ _ _ h => h) (Or.inl ⟨by rfl, ?_⟩) (by assumption) ?_
    rotate_left 1
    · intro w hSw; (try dsimp only at hSw); first | (go_simp; done) | (go_simp; with_reducible rfl)
    change wpAnyH _ _ _ _ _ _ _ (Act.put _ (some 43) _) _
    (try simp only [Act.put, List.setIfInBounds_toArray, List.set_cons_zero, List.set_cons_succ])
    refine wpAnyH_take (i := 5) (oi := _) (v := ?_) rfl (by kernel_rfl) (by kernel_rfl) (by kernel_rfl) (fun _ _ _ h => h) (Or.inl ⟨by rfl, ?_⟩) (by assumption) ?_
    rotate_left 1
    · intro w hSw; (try dsimp only at hSw); first | (go_simp; done) | (go_simp; with_reducible rfl)
    change wpAnyH _ _ _ _ _ _ _ (Act.put _ (some 44) _) _
    (try simp only [Act.put, List.setIfInBounds_toArray, List.set_cons_zero, List.set_cons_succ])
    refine wpAnyH_take (i := 6) (oi := _) (v := ?_) rfl (by kernel_rfl) (by kernel_rfl) (by kernel_rfl) (fun _ _ _ h => h) (Or.inl ⟨by rfl, ?_⟩) (by assumption) ?_
    rotate_left 1
    · intro w hSw; (try dsimp only at hSw); first | (go_simp; done) | (go_simp; with_reducible rfl)
    change wpAnyH _ _ _ _ _ _ _ (Act.put _ (some 45) _) _
    (try simp only [Act.put, List.setIfInBounds_toArray, List.set_cons_zero, List.set_cons_succ])
    refine wpAnyH_take (i := 7) (oi := _) (v := ?_) rfl (by kernel_rfl) (by kernel_rfl) (by kernel_rfl) (fun _ _ _ h => h) (Or.inl ⟨by rfl, ?_⟩) (by assumption) ?_
    rotate_left 1
    · intro w hSw; (try dsimp only at hSw); first | (go_simp; done) | (go_simp; with_reducible rfl)
    change wpAnyH _ _ _ _ _ _ _ (Act.put _ (some 46) _) _
    (try simp only [Act.put, List.setIfInBounds_toArray, List.set_cons_zero, List.set_cons_succ])
    refine wpAnyH_take (i := 8) (oi := _) (v := ?_) rfl (by kernel_rfl) (by kernel_rfl) (by kernel_rfl) (fun _ _ _ h => h) (Or.inl ⟨by rfl, ?_⟩) (by assumption) ?_
    rotate_left 1
    · intro w hSw; (try dsimp only at hSw); first | (go_simp; done) | (go_simp; with_reducible rfl)
    change wpAnyH _ _ _ _ _ _ _ (Act.put _ (some 47) _) _
    (try simp only [Act.put, List.setIfInBounds_toArray, List.set_cons_zero, List.set_cons_succ])
    refine wpAnyH_take (i := 9) (oi := _) (v := ?_) rfl (by kernel_rfl) (by kernel_rfl) (by kernel_rfl) (fun _ _ _ h => h) (Or.inl ⟨by rfl, ?_⟩) (by assumption) ?_
    rotate_left 1
    · intro w hSw; (try dsimp only at hSw); first | (go_simp; done) | (go_simp; with_reducible rfl)
    change wpAnyH _ _ _ _ _ _ _ (Act.put _ (some 48) _) _
    (try simp only [Act.put, List.setIfInBounds_toArray, List.set_cons_zero, List.set_cons_succ])
    refine wpAnyH_take (i := 10) (oi := _) (v := ?_) rfl (by kernel_rfl) (by kernel_rfl) (by kernel_rfl) (fun _ _ _ h => h) (Or.inl ⟨by rfl, ?_⟩) (by assumption) ?_
    rotate_left 1
    · intro w hSw; (try dsimp only at hSw); first | (go_simp; done) | (go_simp; with_reducible rfl)
    change wpAnyH _ _ _ _ _ _ _ (Act.put _ (some 49) _) _
    (try simp only [Act.put, List.setIfInBounds_toArray, List.set_cons_zero, List.set_cons_succ])
    refine wpAnyH_ready (rs := [11]) (by kernel_rfl) (by simp) ?_
    refine AllReadyH.cons (o := _) rfl (fun K hK => ?_) AllReadyH.nil
    go_simp
    (go_at_call 11; with_reducible (refine Calls.mono (HR1.out _ (chain HBW.out hbx)) ?_); rintro e w5 ⟨A5, c5, rfl, hc5, hi5, hb5⟩; have hbx := chain hbx hb5; have hk5 := hi5.textAs (P := Try.prog) (n := n) (t := t) Try.underlying22 Try.underlying5 Try.underlying9 HEL.out HTX.out c5)
    refine hK.out _ _ (HSS.out _ hbx) (fun hHeld11 => ?_)
    (try simp only [Act.put, List.setIfInBounds_toArray, List.set_cons_zero, List.set_cons_succ])
    clear hK K
    refine wpAnyH_ready (rs := [12]) (by kernel_rfl) (by simp) ?_
    refine AllReadyH.cons (o := _) rfl (fun K hK => ?_) AllReadyH.nil
    go_simp
    refine hK.out _ _ (HSS.out _ hbx) (fun hHeld12 => ?_)
    (try simp only [Act.put, List.setIfInBounds_toArray, List.set_cons_zero, List.set_cons_succ])
    clear hK K
    refine wpAnyH_take (i := 13) (oi := _) (v := ?_) rfl (by kernel_rfl) (by kernel_rfl) (by kernel_rfl) (fun _ _ _ h => h) (Or.inl ⟨by rfl, ?_⟩) (by assumption) ?_
    rotate_left 1
    · intro w hSw; (try dsimp only at hSw); first | (go_simp; done) | (go_simp; with_reducible rfl)
    change wpAnyH _ _ _ _ _ _ _ (Act.put _ (some 52) _) _
    (try simp only [Act.put, List.setIfInBounds_toArray, List.set_cons_zero, List.set_cons_succ])
    refine wpAnyH_take (i := 14) (oi := _) (v := ?_) rfl (by kernel_rfl) (by kernel_rfl) (by kernel_rfl) (fun _ _ _ h => h) (Or.inl ⟨by rfl, ?_⟩) (by assumption) ?_
    rotate_left 1
    · intro w hSw; (try dsimp only at hSw); first | (go_simp; done) | (go_simp; with_reducible rfl)
    change wpAnyH _ _ _ _ _ _ _ (Act.put _ (some 53) _) _
    (try simp only [Act.put, List.setIfInBounds_toArray, List.set_cons_zero, List.set_cons_succ])
    refine wpAnyH_take (i := 15) (oi := _) (v := ?_) rfl (by kernel_rfl) (by kernel_rfl) (by kernel_rfl) (fun _ _ _ h => h) (Or.inl ⟨by rfl, ?_⟩) (by assumption) ?_
    rotate_left 1
    · intro w hSw; (try dsimp only at hSw); first | (go_simp; done) | (go_simp; with_reducible rfl)
    change wpAnyH _ _ _ _ _ _ _ (Act.put _ (some 6) _) _
    (try simp only [Act.put, List.setIfInBounds_toArray, List.set_cons_zero, List.set_cons_succ])
    refine wpAnyH_done (by kernel_rfl) ?_ _
    go_wp2
    go_ret
    exact ⟨rfl, chain HBW.out hbx⟩

set_option maxRecDepth 20000 in
set_option maxHeartbeats 1600000 in
theorem strApplies_no (A0 A1 A2 : Option Addr) (c0 c1 c2 : Nat) (key ctr text : List Nat) (w : World) (HS : StrSpec w) (h0 : Ints w w.heap.size .u8 A0 (up key)) (h1 : Ints w w.heap.size .u8 A1 (up ctr)) (h2 : Ints w w.heap.size .u8 A2 (up text))
    (hk : ∀ x ∈ key, x < 256) (hc : ∀ x ∈ ctr, x < 256) (hno : ¬ (key.length = 16 ∧ ctr.length = 16)) (hc0 : key.length ≤ c0) (hc1 : ctr.length ≤ c1) (hc2 : text.length ≤ c2) (hm0 : key.length ≤ 140737488355328) (hm1 : ctr.length ≤ 140737488355328) :
    Calls Try.prog 3 #[.slice A0 key.length c0, .slice A1 ctr.length c1, .slice A2 text.length c2] w fun e w' => e = .returned (.bool true) ∧ Below w.heap.size w w' := by
  have HA := Lib.hid (strAwake HS)
  have HAP := Lib.hid (fun (W : World) (A : Option Addr) (c : Nat) (t : List Nat) (hb : Below w.heap.size w W) (h : Ints W W.heap.size .u8 A (up t)) (hc : t.length ≤ c) (hm : t.length ≤ 140737488355328) => HS.applyArg A0 A1 A c0 c1 c key ctr t W hb ((h0.below hb).more hb.size) ((h1.below hb).more hb.size) h hk ‹_› hno hc0 hc1 hc hm0 hm1 hm)
  have H2 := Lib.hid h2
  by_cases hl : key.length = 16
  · have hl2 : ctr.length ≠ 16 := fun h => hno ⟨hl, h⟩
    have hnb : ((ctr.length : Int) != 16) = true := by simp; omega
    have hnb2 : ¬ (ctr.length : Int) = 16 := by omega
    rw [hl] at HAP ⊢
    clear HS h0 h1 h2 hk hc hno hc0 hc1 hm0 hm1 hl hl2
    go_enter Try.func3, Try.ntmps3
    go_upto_if 11 with fail
    go_cut [2] (fun s wx => (∃ n : Nat, s = .slice A2 n c2 ∧ n ≤ text.length ∧ n ≤ 400) ∧ wx = w)
    case first =>
      by_cases h4 : (400 : Int) < text.length
      · have hc4 : (400 : Int) ≤ c2 := by omega
        have HL4 := Lib.hid h4
        clear hc2
        go_wp2
        go_meet
        exact ⟨⟨400, rfl, by have := HL4.out; omega, Nat.le_refl _⟩, rfl⟩
      · go_wp2
        go_meet
        exact ⟨⟨text.length, rfl, Nat.le_refl _, by omega⟩, rfl⟩
    case rest =>
      obtain ⟨⟨n, rfl, hn, hn4⟩, hw⟩ := hcut
      have hw' := hw.symm
      subst hw'
      have hTl : (text.take n).length = n := by rw [List.length_take]; omega
      have HP1 := Lib.hid (HAP.out w A2 c2 (text.take n) (Below.refl _ _) (take_up H2.out n) (by omega) (by omega))
      rw [hTl] at HP1
      clear hTl hw
      go_wp2_with (first
        | (go_at_call 10; with_reducible (refine Calls.mono (HA.out _ hb3) ?_); rintro e w6 ⟨rfl, hb6⟩)
        | (go_at_call 9; with_reducible (refine Calls.mono HP1.out ?_); rintro e w3 ⟨A3, c3, rfl, hb3⟩))
      go_ret
      exact ⟨rfl, chain hb3 hb6⟩
  · have hnb : ((key.length : Int) != 16) = true := by simp; omega
    have hnb2 : ¬ (key.length : Int) = 16 := by omega
    clear HS h0 h1 h2 hk hc hno hc0 hc1 hm0 hm1 hl
    go_enter Try.func3, Try.ntmps3
    go_upto_if 11 with fail
    go_cut [2] (fun s wx => (∃ n : Nat, s = .slice A2 n c2 ∧ n ≤ text.length ∧ n ≤ 400) ∧ wx = w)
    case first =>
      by_cases h4 : (400 : Int) < text.length
      · have hc4 : (400 : Int) ≤ c2 := by omega
        have HL4 := Lib.hid h4
        clear hc2
        go_wp2
        go_meet
        exact ⟨⟨400, rfl, by have := HL4.out; omega, Nat.le_refl _⟩, rfl⟩
      · go_wp2
        go_meet
        exact ⟨⟨text.length, rfl, Nat.le_refl _, by omega⟩, rfl⟩
    case rest =>
      obtain ⟨⟨n, rfl, hn, hn4⟩, hw⟩ := hcut
      have hw' := hw.symm
      subst hw'
      have hTl : (text.take n).length = n := by rw [List.length_take]; omega
      have HP1 := Lib.hid (HAP.out w A2 c2 (text.take n) (Below.refl _ _) (take_up H2.out n) (by omega) (by omega))
      rw [hTl] at HP1
      clear hTl hw
      go_wp2_with (first
        | (go_at_call 10; with_reducible (refine Calls.mono (HA.out _ hb3) ?_); rintro e w6 ⟨rfl, hb6⟩)
        | (go_at_call 9; with_reducible (refine Calls.mono HP1.out ?_); rintro e w3 ⟨A3, c3, rfl, hb3⟩))
      go_ret
      exact ⟨rfl, chain hb3 hb6⟩

/-- StreamApplies. -/
theorem strApplies_go (A0 A1 A2 : Option Addr) (c0 c1 c2 : Nat) (key ctr text : List Nat) (w : World) (HS : StrSpec w) (h0 : Ints w w.heap.size .u8 A0 (up key)) (h1 : Ints w w.heap.size .u8 A1 (up ctr)) (h2 : Ints w w.heap.size .u8 A2 (up text)) (hA2 : A2 = none → c2 = 0)
    (hk : ∀ x ∈ key, x < 256) (hc : ∀ x ∈ ctr, x < 256) (ht : ∀ x ∈ text, x < 256) (hc0 : key.length ≤ c0) (hc1 : ctr.length ≤ c1) (hc2 : text.length ≤ c2) (hm0 : key.length ≤ 140737488355328) (hm1 : ctr.length ≤ 140737488355328) :
    Calls Try.prog 3 #[.slice A0 key.length c0, .slice A1 ctr.length c1, .slice A2 text.length c2] w fun e w' => e = .returned (.bool true) ∧ Below w.heap.size w w' := by
  by_cases h : key.length = 16 ∧ ctr.length = 16
  · have := strApplies_ok A0 A1 A2 c0 c1 c2 key ctr text w HS h0 h1 h2 hA2 hk hc ht h.1 h.2 (by omega) (by omega) hc2
    rw [h.1, h.2]
    exact this
  · exact strApplies_no A0 A1 A2 c0 c1 c2 key ctr text w HS h0 h1 h2 hk hc h hc0 hc1 hc2 hm0 hm1

end Go.Proofs.Ytcoiincgclglbaa
