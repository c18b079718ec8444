/-
  StreamBack, from what is asked of the layer's calls.
-/
import Derived.Test.YtcoiincgclglbaaStrMasks
import Derived.Deep.RegionHeld3
namespace Go.Proofs.Ytcoiincgclglbaa
open Go.RowKit

theorem take_up {w : World} {B : Nat} {A : Option Addr} {l : List Nat} (h : Ints w B .u8 A (up l)) (k : Nat) : Ints w B .u8 A (up (l.take k)) := by
  have := h.take k
  rw [show (up l).take k = up (l.take k) by simp [up]] at this
  exact this

set_option maxRecDepth 20000 in
set_option maxHeartbeats 1600000 in
theorem strBack_ok (A0 A1 A2 : Option Addr) (c0 c1 c2 q : Nat) (key ctr text : List Nat) (w : World) (HS : StrSpec w) (h0 : Ints w w.heap.size .u8 A0 (up key)) (h1 : Ints w w.heap.size .u8 A1 (up ctr)) (h2 : Ints w w.heap.size .u8 A2 (up text)) (hA2 : A2 = none → c2 = 0)
    (hk : ∀ x ∈ key, x < 256) (hc : ∀ x ∈ ctr, x < 256) (ht : ∀ x ∈ text, x < 256) (hl0 : key.length = 16) (hl1 : ctr.length = 16) (hc0 : 16 ≤ c0) (hc1 : 16 ≤ c1) (hc2 : text.length ≤ c2) (hq : q < 65536) :
    Calls Try.prog 5 #[.slice A0 16 c0, .slice A1 16 c1, .slice A2 text.length c2, .int .u16 (q : Int)] w fun e w' => e = .returned (.bool true) ∧ Below w.heap.size w w' := by
  have HA := Lib.hid (strAwake HS)
  have HAP := Lib.hid (fun (W : World) (A : Option Addr) (c : Nat) (t : List Nat) (hb : Below w.heap.size w W) (h : Ints W W.heap.size .u8 A (up t)) (hA : A = none → c = 0) (htl : ∀ x ∈ t, x < 256) (hc : t.length ≤ c) (hm : t.length ≤ 1048576) => HS.apply A0 A1 A c0 c1 c key ctr t W hb ((h0.below hb).more hb.size) ((h1.below hb).more hb.size) h hA hk ‹_› htl hl0 hl1 hc0 hc1 hc hm)
  have H2 := Lib.hid h2
  have HK := Lib.hid hk
  have HT := Lib.hid ht
  have HA2 := Lib.hid hA2
  clear HS h0 h1 h2 hk hc ht hl0 hl1 hA2
  go_enter Try.func5, Try.ntmps5
  go_upto_if 18 with fail
  go_cut [2] (fun s wx => (∃ n : Nat, s = .slice A2 n c2 ∧ n ≤ text.length ∧ n ≤ 4000) ∧ wx = w)
  case first =>
    by_cases h4 : (4000 : Int) < text.length
    · have hc4 : (4000 : Int) ≤ c2 := by omega
      have HL4 := Lib.hid h4
      clear hc2
      go_wp2
      go_meet
      exact ⟨⟨4000, rfl, by have := HL4.out; omega, Nat.le_refl _⟩, rfl⟩
    · go_wp2
      go_meet
      exact ⟨⟨text.length, rfl, Nat.le_refl _, by omega⟩, rfl⟩
  case rest =>
    obtain ⟨⟨n, rfl, hn, hn4⟩, hw⟩ := hcut
    have hw' := hw.symm
    subst hw'
    have hTl : (text.take n).length = n := by rw [List.length_take]; omega
    have HTT : Hid (∀ x ∈ text.take n, x < 256) := fun x hx => HT.out x (List.mem_of_mem_take hx)
    have HIT := Lib.hid (H2.out.take n)
    rw [show (up text).take n = up (text.take n) by simp [up]] at HIT
    obtain ⟨T, hT⟩ : ∃ T, T = text.take n := ⟨_, rfl⟩
    rw [← hT] at hTl HTT HIT
    obtain ⟨k, hk⟩ : ∃ k, k = q % (n + 1) := ⟨_, rfl⟩
    have hkn : k ≤ n := by have := Nat.mod_lt q (show 0 < n + 1 by omega); omega
    have hke : (q : Int) % ((n : Int) + 1) = (k : Int) := by rw [hk, Int.natCast_emod]; rfl
    have hkt : (q : Int).tmod ((n : Int) + 1) = (k : Int) := by rw [Int.tmod_eq_emod_of_nonneg (by omega)]; exact hke
    have hk0 : (0 : Int) ≤ (k : Int) := by omega
    have hkc : (k : Int) ≤ (c2 : Int) := by omega
    have hkl : (T.take k).length = k := by rw [List.length_take]; omega
    have HIK := Lib.hid (HIT.out.take k)
    rw [show (up T).take k = up (T.take k) by simp [up]] at HIK
    have HKT : Hid (∀ x ∈ T.take k, x < 256) := fun x hx => HTT.out x (List.mem_of_mem_take hx)
    have HP1 := Lib.hid (HAP.out w A2 c2 T (Below.refl _ _) HIT.out HA2.out HTT.out (by omega) (by omega))
    have HP3 := Lib.hid (fun (W : World) (hb : Below w.heap.size w W) => HAP.out W A2 c2 (T.take k) hb ((HIK.out.below hb).more hb.size) HA2.out HKT.out (by omega) (by omega))
    rw [hTl] at HP1
    rw [hkl] at HP3
    have HXT := Lib.hid (applyN_lt HK.out ctr HTT.out)
    have HTK := Lib.hid (applyN_take key ctr T k)
    have HBK := Lib.hid (applyN_back key ctr T)
    have hxl : (applyN key ctr T).length = n := by rw [applyN_len, hTl]
    obtain ⟨X, hX⟩ : ∃ X, X = applyN key ctr T := ⟨_, rfl⟩
    rw [← hX] at HP1 HXT HTK HBK hxl
    have HP2 := Lib.hid (fun (W : World) (A : Option Addr) (c : Nat) (hb : Below w.heap.size w W) (h : Ints W W.heap.size .u8 A (up X)) (hA : A = none → c = 0) (hc : X.length ≤ c) => HAP.out W A c X hb h hA HXT.out hc (by omega))
    rw [hxl, HBK.out] at HP2
    simp only [HTK.out] at HP3
    have HXL := Lib.hid hxl
    have HTL := Lib.hid hTl
    obtain ⟨t1, ht1⟩ : ∃ t, strOfNums (up T) = t := ⟨_, rfl⟩
    obtain ⟨t2, ht2⟩ : ∃ t, strOfNums (up (X.take k)) = t := ⟨_, rfl⟩
    have HT1 := Lib.hid ht1
    have HT2 := Lib.hid ht2
    have huT : (up T).length = n := by rw [up_len, hTl]
    have huX : (up (X.take k)).length = k := by rw [up_len, List.length_take]; omega
    have HUT := Lib.hid huT
    have HUX := Lib.hid huX
    clear hT hTl hw hk hX hxl ht1 ht2 huT huX hkl
    go_wp2_with (first
      | (go_at_call 10; with_reducible (refine Calls.mono (HA.out _ hb3) ?_); rintro e w4 ⟨rfl, hb4⟩; have hb34 := chain hb3 hb4)
      | (go_at_call 9; have h5 := hb5; with_reducible (refine Calls.mono (HP3.out _ hb35) ?_); rintro e w6 ⟨A6, c6, rfl, hc6, hn6, hi6, hb6⟩)
      | (go_at_call 9; have h4 := hb4; with_reducible (refine Calls.mono (HP2.out _ _ _ hb34 ((hi3.below hb4).more hb4.size) hn3 hc3) ?_); rintro e w5 ⟨A5, c5, rfl, hc5, hn5, hi5, hb5⟩; have hb35 := chain hb34 hb5)
      | (go_at_call 9; with_reducible (refine Calls.mono HP1.out ?_); rintro e w3 ⟨A3, c3, rfl, hc3, hn3, hi3, hb3⟩; have hkc3 : (k : Int) ≤ (c3 : Int) := (by omega)))
    have HI5 := Lib.hid (fun (W : World) (hb : Below w6.heap.size w6 W) => hi5.below (hb6.trans (hb.mono hb6.size)))
    have hb36 := (chain hb4 hb5).trans (hb6.mono (chain hb4 hb5).size)
    have hbw6 := chain hb35 hb6
    have HSS : Hid (∀ W : World, Below w6.heap.size w6 W → (convert 22 9 (.slice A5 n c5)).run Try.prog W = .ok (.string t1) W ∧ (convert 22 9 (.slice A2 n c2)).run Try.prog W = .ok (.string t1) W ∧
        (convert 22 9 (.slice A6 k c6)).run Try.prog W = .ok (.string t2) W ∧ (convert 22 9 (.slice A3 k c3)).run Try.prog W = .ok (.string t2) W ∧ Below w6.heap.size w6 W) := fun W hb =>
      ⟨(HI5.out W hb).textAs Try.underlying22 Try.underlying5 Try.underlying9 HUT.out HT1.out c5,
       (HIT.out.below (hbw6.trans (hb.mono hbw6.size))).textAs Try.underlying22 Try.underlying5 Try.underlying9 HUT.out HT1.out c2,
       (hi6.below hb).textAs Try.underlying22 Try.underlying5 Try.underlying9 HUX.out HT2.out c6,
       (take_up (hi3.below (hb36.trans (hb.mono hb36.size))) k).textAs Try.underlying22 Try.underlying5 Try.underlying9 HUX.out HT2.out c3, hb⟩
    have HBW := Lib.hid hbw6
    clear HI5 hb36 hbw6 hi5 hi6 hi3 hb3 hb4 hb5 hb6 h4 h5 hb34 hb35 HP1 HP2 HP3 HAP
    have hbx : Below w6.heap.size w6 w6.drew := (Below.refl _ _).drew
    go_region_held3 (fun W => (convert 22 9 (.slice A5 n c5)).run Try.prog W = .ok (.string t1) W ∧ (convert 22 9 (.slice A2 n c2)).run Try.prog W = .ok (.string t1) W ∧ (convert 22 9 (.slice A6 k c6)).run Try.prog W = .ok (.string t2) W ∧ (convert 22 9 (.slice A3 k c3)).run Try.prog W = .ok (.string t2) W ∧ Below w6.heap.size w6 W)
      (first
        | exact HSS.out _ hbx) (fail)
    go_wp2
    go_ret
    exact ⟨rfl, HBW.out.trans (hbx.mono HBW.out.size)⟩

set_option maxRecDepth 20000 in
set_option maxHeartbeats 1600000 in
theorem strBack_no (A0 A1 A2 : Option Addr) (c0 c1 c2 q : Nat) (key ctr text : List Nat) (w : World) (HS : StrSpec w) (h0 : Ints w w.heap.size .u8 A0 (up key)) (h1 : Ints w w.heap.size .u8 A1 (up ctr)) (h2 : Ints w w.heap.size .u8 A2 (up text))
    (hk : ∀ x ∈ key, x < 256) (hc : ∀ x ∈ ctr, x < 256) (hno : ¬ (key.length = 16 ∧ ctr.length = 16)) (hc0 : key.length ≤ c0) (hc1 : ctr.length ≤ c1) (hc2 : text.length ≤ c2) (hm0 : key.length ≤ 140737488355328) (hm1 : ctr.length ≤ 140737488355328) :
    Calls Try.prog 5 #[.slice A0 key.length c0, .slice A1 ctr.length c1, .slice A2 text.length c2, .int .u16 (q : Int)] w fun e w' => e = .returned (.bool true) ∧ Below w.heap.size w w' := by
  have HA := Lib.hid (strAwake HS)
  have HAP := Lib.hid (fun (W : World) (A : Option Addr) (c : Nat) (t : List Nat) (hb : Below w.heap.size w W) (h : Ints W W.heap.size .u8 A (up t)) (hc : t.length ≤ c) (hm : t.length ≤ 140737488355328) => HS.applyArg A0 A1 A c0 c1 c key ctr t W hb ((h0.below hb).more hb.size) ((h1.below hb).more hb.size) h hk ‹_› hno hc0 hc1 hc hm0 hm1 hm)
  have H2 := Lib.hid h2
  clear HS h0 h1 h2 hk hc hno hc0 hc1 hm0 hm1
  go_enter Try.func5, Try.ntmps5
  go_upto_if 18 with fail
  go_cut [2] (fun s wx => (∃ n : Nat, s = .slice A2 n c2 ∧ n ≤ text.length ∧ n ≤ 4000) ∧ wx = w)
  case first =>
    by_cases h4 : (4000 : Int) < text.length
    · have hc4 : (4000 : Int) ≤ c2 := by omega
      have HL4 := Lib.hid h4
      clear hc2
      go_wp2
      go_meet
      exact ⟨⟨4000, rfl, by have := HL4.out; omega, Nat.le_refl _⟩, rfl⟩
    · go_wp2
      go_meet
      exact ⟨⟨text.length, rfl, Nat.le_refl _, by omega⟩, rfl⟩
  case rest =>
    obtain ⟨⟨n, rfl, hn, hn4⟩, hw⟩ := hcut
    have hw' := hw.symm
    subst hw'
    have hTl : (text.take n).length = n := by rw [List.length_take]; omega
    have HP1 := Lib.hid (HAP.out w A2 c2 (text.take n) (Below.refl _ _) (take_up H2.out n) (by omega) (by omega))
    rw [hTl] at HP1
    clear hTl hw
    go_wp2_with (first
      | (go_at_call 10; have h6 := hb6; with_reducible (refine Calls.mono (HA.out _ (chain hb3 h6)) ?_); rintro e w7 ⟨rfl, hb7⟩)
      | (go_at_call 10; with_reducible (refine Calls.mono (HA.out _ hb3) ?_); rintro e w6 ⟨rfl, hb6⟩)
      | (go_at_call 9; with_reducible (refine Calls.mono HP1.out ?_); rintro e w3 ⟨A3, c3, rfl, hb3⟩))
    go_ret
    exact ⟨rfl, chain hb3 (chain hb6 hb7)⟩

/-- StreamBack. -/
theorem strBack_go (A0 A1 A2 : Option Addr) (c0 c1 c2 q : Nat) (key ctr text : List Nat) (w : World) (HS : StrSpec w) (h0 : Ints w w.heap.size .u8 A0 (up key)) (h1 : Ints w w.heap.size .u8 A1 (up ctr)) (h2 : Ints w w.heap.size .u8 A2 (up text)) (hA2 : A2 = none → c2 = 0)
    (hk : ∀ x ∈ key, x < 256) (hc : ∀ x ∈ ctr, x < 256) (ht : ∀ x ∈ text, x < 256) (hc0 : key.length ≤ c0) (hc1 : ctr.length ≤ c1) (hc2 : text.length ≤ c2) (hm0 : key.length ≤ 140737488355328) (hm1 : ctr.length ≤ 140737488355328) (hq : q < 65536) :
    Calls Try.prog 5 #[.slice A0 key.length c0, .slice A1 ctr.length c1, .slice A2 text.length c2, .int .u16 (q : Int)] w fun e w' => e = .returned (.bool true) ∧ Below w.heap.size w w' := by
  by_cases h : key.length = 16 ∧ ctr.length = 16
  · have := strBack_ok A0 A1 A2 c0 c1 c2 q key ctr text w HS h0 h1 h2 hA2 hk hc ht h.1 h.2 (by omega) (by omega) hc2 hq
    rw [h.1, h.2]
    exact this
  · exact strBack_no A0 A1 A2 c0 c1 c2 q key ctr text w HS h0 h1 h2 hk hc h hc0 hc1 hc2 hm0 hm1

end Go.Proofs.Ytcoiincgclglbaa
