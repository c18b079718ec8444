/-
  StreamMasks, from what is asked of the layer's calls.
-/
import Derived.Test.YtcoiincgclglbaaStrSpec
import Derived.Deep.RegionLaw
namespace Go.Proofs.Ytcoiincgclglbaa
open Go.RowKit

theorem b8x (a b : Nat) (ha : a < 256) (hb : b < 256) : bits .xor .u8 (a : Int) (b : Int) = ((a ^^^ b : Nat) : Int) := u8_xor_nat a b ha hb
theorem rep_len (n : Nat) : (List.replicate n 0 : List Nat).length = n := List.length_replicate
theorem rep_lt (n : Nat) : ∀ x ∈ (List.replicate n 0 : List Nat), x < 256 := fun x hx => by have := (List.mem_replicate.1 hx).2; omega
theorem rep_at (n i : Nat) : (List.replicate n 0 : List Nat).getD i 0 = 0 := by
  rw [List.getD_eq_getElem?_getD, List.getElem?_replicate]
  split <;> rfl
theorem mask_zero (key c : List Nat) (n i : Nat) (h : i < n) : (applyN key c (List.replicate n 0)).getD i 0 = maskN key c i := by
  rw [applyN_at _ _ _ _ (by rw [rep_len]; exact h), rep_at, Nat.zero_xor]
theorem ints_at {w : World} {B : Nat} {A : Option Addr} {l : List Nat} (h : Ints w B .u8 A (up l)) {i : Nat} (hi : i < l.length) : ∃ b o, A = some ⟨b, o, none⟩ ∧ b < B ∧ w.cell? ⟨b, o + i, none⟩ = some (.int .u8 (l.getD i 0 : Nat)) := by
  obtain ⟨b, o, e, hb, hc⟩ := h i (by rw [up_len]; exact hi)
  rw [up_getD] at hc
  exact ⟨b, o, e, hb, hc⟩

set_option maxRecDepth 20000 in
set_option maxHeartbeats 1600000 in
theorem strMasks_ok (A0 A1 A2 : Option Addr) (c0 c1 c2 : Nat) (key ctr text : List Nat) (w : World) (HS : StrSpec w) (h0 : Ints w w.heap.size .u8 A0 (up key)) (h1 : Ints w w.heap.size .u8 A1 (up ctr)) (h2 : Ints w w.heap.size .u8 A2 (up text)) (hA2 : A2 = none → c2 = 0)
    (hk : ∀ x ∈ key, x < 256) (hc : ∀ x ∈ ctr, x < 256) (ht : ∀ x ∈ text, x < 256) (hl0 : key.length = 16) (hl1 : ctr.length = 16) (hc0 : 16 ≤ c0) (hc1 : 16 ≤ c1) (hc2 : text.length ≤ c2) :
    Calls Try.prog 8 #[.slice A0 16 c0, .slice A1 16 c1, .slice A2 text.length c2] w fun e w' => e = .returned (.bool true) ∧ Below w.heap.size w w' := by
  obtain ⟨i0, hi, hz0, hz1, hz2⟩ := info_parts Try.infoU8s
  have HA := Lib.hid (strAwake HS)
  have HAP := Lib.hid (fun (W : World) (A : Option Addr) (c : Nat) (t : List Nat) (hb : Below w.heap.size w W) (h : Ints W W.heap.size .u8 A (up t)) (hA : A = none → c = 0) (htl : ∀ x ∈ t, x < 256) (hc : t.length ≤ c) (hm : t.length ≤ 1048576) => HS.apply A0 A1 A c0 c1 c key ctr t W hb ((h0.below hb).more hb.size) ((h1.below hb).more hb.size) h hA hk ‹_› htl hl0 hl1 hc0 hc1 hc hm)
  have H2 := Lib.hid h2
  have HK := Lib.hid hk
  have HT := Lib.hid ht
  have HA2 := Lib.hid hA2
  clear HS h0 h1 h2 hk hc ht hl0 hl1 hA2
  go_enter Try.func8, Try.ntmps8
  go_upto_if 14 with fail
  go_cut [2] (fun s wx => (∃ n : Nat, s = .slice A2 n c2 ∧ n ≤ text.length ∧ n ≤ 400) ∧ wx = w)
  case first =>
    by_cases h4 : (400 : Int) < text.length
    · have hc4 : (400 : Int) ≤ c2 := by omega
      have HL4 := Lib.hid h4
      clear hc2
      go_wp2
      go_meet
      exact ⟨⟨400, rfl, by have := HL4.out; omega, Nat.le_refl _⟩, rfl⟩
    · go_wp2
      go_meet
      exact ⟨⟨text.length, rfl, Nat.le_refl _, by omega⟩, rfl⟩
  case rest =>
    obtain ⟨⟨n, rfl, hn, hn4⟩, hw⟩ := hcut
    have hw' := hw.symm
    subst hw'
    have hTl : (text.take n).length = n := by rw [List.length_take]; omega
    have HTT : Hid (∀ x ∈ text.take n, x < 256) := fun x hx => HT.out x (List.mem_of_mem_take hx)
    have HIT := Lib.hid (H2.out.take n)
    rw [show (up text).take n = up (text.take n) by simp [up]] at HIT
    have HZT := Lib.hid (rep_lt n)
    obtain ⟨T, hT⟩ : ∃ T, T = text.take n := ⟨_, rfl⟩
    rw [← hT] at hTl HTT HIT
    have HP1 := Lib.hid (HAP.out w A2 c2 T (Below.refl _ _) HIT.out HA2.out HTT.out (by omega) (by omega))
    rw [hTl] at HP1
    have HTL := Lib.hid hTl
    clear hT hTl hw
    go_wp2_with (first
      | (at_make; go_loud (refine wpList_make_full _ rfl _ _ 22 rfl w3.heap.size 5 i0 (.int .u8 0) 1 Try.underlying22 hi hz0 hz1 .i64 .i64 (n : Int) (n : Int) n rfl rfl rfl rfl (by rw [hz2]; omega) (by unfold maxLen; omega) (Nat.le_refl _) ?_; intro w4 hown4 hg4; have hz4 := made_ints hown4; have hb4 : Below w3.heap.size w3 w4 := (Below.refl _ _).grown hg4 (Nat.le_refl _) fun q hq => (by cases hq); have hb34 := chain hb3 hb4; have HP2 := Lib.hid (HAP.out w4 (some ⟨w3.heap.size, 0, none⟩) n (List.replicate n 0) hb34 hz4 (fun h => by cases h) HZT.out (by rw [rep_len]; exact Nat.le_refl _) (by rw [rep_len]; omega)); rw [rep_len] at HP2; clear hown4 hg4))
      | (go_at_call 10; with_reducible (refine Calls.mono (HA.out _ hb45) ?_); rintro e w6 ⟨rfl, hb6⟩)
      | (go_at_call 9; with_reducible (refine Calls.mono HP2.out ?_); rintro e w5 ⟨A5, c5, rfl, hc5, hn5, hi5, hb5⟩; have hb45 := chain hb34 hb5; have hi3' := (hi3.below (chain hb4 hb5)))
      | (go_at_call 9; with_reducible (refine Calls.mono HP1.out ?_); rintro e w3 ⟨A3, c3, rfl, hc3, hn3, hi3, hb3⟩))
    have hb36 := chain (chain hb4 hb5) hb6
    have HC3 := Lib.hid (fun (W : World) (hb : Below w6.heap.size w6 W) => (hi3.below (hb36.trans (hb.mono hb36.size))))
    have HC5 := Lib.hid (fun (W : World) (hb : Below w6.heap.size w6 W) => (hi5.below (hb6.trans (hb.mono hb6.size))))
    have hbw6 := chain hb45 hb6
    have HC2 := Lib.hid (fun (W : World) (hb : Below w6.heap.size w6 W) => (HIT.out.below (hbw6.trans (hb.mono hbw6.size))))
    have HBW := Lib.hid hbw6
    have hap := applyN_len key ctr T
    have hap2 := applyN_len key ctr (List.replicate n 0)
    have HA1 := Lib.hid hap
    have HA2' := Lib.hid hap2
    clear hap hap2 hi3 hi5 hi3' hz4 hb36 hb6 hb45 hb5 hb34 hb4 hb3 hbw6 HP1 HP2
    go_loopw [11] (fun i wr => ∃ k : Nat, k ≤ n ∧ i = .int .i64 k ∧ Below w6.heap.size w6 wr) (fun i _ => n - (intOf i).toNat)
    case atStart => exact ⟨0, Nat.zero_le _, rfl, Below.refl _ _⟩
    case round =>
      obtain ⟨k, hk, rfl, hbel⟩ := hrel
      by_cases hlt : k < n
      · obtain ⟨b3, o3, e3, _, hq3⟩ := ints_at (HC3.out wr hbel) (i := k) (by rw [HA1.out, HTL.out]; exact hlt)
        obtain ⟨b5, o5, e5, _, hq5⟩ := ints_at (HC5.out wr hbel) (i := k) (by rw [HA2'.out, rep_len]; exact hlt)
        obtain ⟨b2, o2, e2, _, hq2⟩ := ints_at (HC2.out wr hbel) (i := k) (by rw [HTL.out]; exact hlt)
        subst e3 e5 e2
        rw [applyN_at _ _ _ _ (by rw [HTL.out]; exact hlt)] at hq3
        rw [mask_zero _ _ _ _ hlt] at hq5
        have hm := maskN_lt HK.out ctr k
        have hx := getD_lt' (by decide) HTT.out k
        obtain ⟨x, hxe⟩ : ∃ x, x = T.getD k 0 := ⟨_, rfl⟩
        obtain ⟨m, hme⟩ : ∃ m, m = maskN key ctr k := ⟨_, rfl⟩
        rw [← hxe] at hq3 hq2 hx
        rw [← hme] at hq3 hq5 hm
        have hb := b8x m x hm hx
        rw [Nat.xor_comm m x] at hb
        obtain ⟨y, hye⟩ : ∃ y, y = x ^^^ m := ⟨_, rfl⟩
        rw [← hye] at hq3 hb
        have hkn : (k : Int) < (n : Int) := by omega
        have hkc3 : (k : Int) < (c3 : Int) := by omega
        have hkc5 : (k : Int) < (c5 : Int) := by omega
        have hk0 : (0 : Int) ≤ (k : Int) := by omega
        have HBE := Lib.hid hbel
        clear hxe hme hye hbel
        go_wp2
        go_quiet (fail)
        go_wp2
        go_roundw
        case rel => exact ⟨k + 1, by omega, by go_num, below_drewN HBE.out _⟩
        case measure => simp [intOf]; omega
      · have hkn : k = n := by omega
        subst hkn
        go_wp2
        go_ret
        exact ⟨rfl, HBW.out.trans (hbel.mono HBW.out.size)⟩

set_option maxRecDepth 20000 in
set_option maxHeartbeats 1600000 in
theorem strMasks_no (A0 A1 A2 : Option Addr) (c0 c1 c2 : Nat) (key ctr text : List Nat) (w : World) (HS : StrSpec w) (h0 : Ints w w.heap.size .u8 A0 (up key)) (h1 : Ints w w.heap.size .u8 A1 (up ctr)) (h2 : Ints w w.heap.size .u8 A2 (up text))
    (hk : ∀ x ∈ key, x < 256) (hc : ∀ x ∈ ctr, x < 256) (hno : ¬ (key.length = 16 ∧ ctr.length = 16)) (hc0 : key.length ≤ c0) (hc1 : ctr.length ≤ c1) (hc2 : text.length ≤ c2) (hm0 : key.length ≤ 140737488355328) (hm1 : ctr.length ≤ 140737488355328) :
    Calls Try.prog 8 #[.slice A0 key.length c0, .slice A1 ctr.length c1, .slice A2 text.length c2] w fun e w' => e = .returned (.bool true) ∧ Below w.heap.size w w' := by
  obtain ⟨i0, hi, hz0, hz1, hz2⟩ := info_parts Try.infoU8s
  have HA := Lib.hid (strAwake HS)
  have HAP := Lib.hid (fun (W : World) (A : Option Addr) (c : Nat) (t : List Nat) (hb : Below w.heap.size w W) (h : Ints W W.heap.size .u8 A (up t)) (hc : t.length ≤ c) (hm : t.length ≤ 140737488355328) => HS.applyArg A0 A1 A c0 c1 c key ctr t W hb ((h0.below hb).more hb.size) ((h1.below hb).more hb.size) h hk ‹_› hno hc0 hc1 hc hm0 hm1 hm)
  have H2 := Lib.hid h2
  clear HS h0 h1 h2 hk hc hno hc0 hc1 hm0 hm1
  go_enter Try.func8, Try.ntmps8
  go_upto_if 14 with fail
  go_cut [2] (fun s wx => (∃ n : Nat, s = .slice A2 n c2 ∧ n ≤ text.length ∧ n ≤ 400) ∧ wx = w)
  case first =>
    by_cases h4 : (400 : Int) < text.length
    · have hc4 : (400 : Int) ≤ c2 := by omega
      have HL4 := Lib.hid h4
      clear hc2
      go_wp2
      go_meet
      exact ⟨⟨400, rfl, by have := HL4.out; omega, Nat.le_refl _⟩, rfl⟩
    · go_wp2
      go_meet
      exact ⟨⟨text.length, rfl, Nat.le_refl _, by omega⟩, rfl⟩
  case rest =>
    obtain ⟨⟨n, rfl, hn, hn4⟩, hw⟩ := hcut
    have hw' := hw.symm
    subst hw'
    have hTl : (text.take n).length = n := by rw [List.length_take]; omega
    have HIT := Lib.hid (H2.out.take n)
    rw [show (up text).take n = up (text.take n) by simp [up]] at HIT
    obtain ⟨T, hT⟩ : ∃ T, T = text.take n := ⟨_, rfl⟩
    rw [← hT] at hTl HIT
    have HP1 := Lib.hid (HAP.out w A2 c2 T (Below.refl _ _) HIT.out (by omega) (by omega))
    rw [hTl] at HP1
    clear hT hTl hw
    go_wp2_with (first
      | (at_make; refine wpList_make_full _ rfl _ _ 22 rfl w3.heap.size 5 i0 (.int .u8 0) 1 Try.underlying22 hi hz0 hz1 .i64 .i64 (n : Int) (n : Int) n rfl rfl rfl rfl (by rw [hz2]; omega) (by unfold maxLen; omega) (Nat.le_refl _) ?_; intro w4 hown4 hg4; have hz4 := made_ints hown4; have hb4 : Below w3.heap.size w3 w4 := (Below.refl _ _).grown hg4 (Nat.le_refl _) fun q hq => (by cases hq); have hb34 := chain hb3 hb4; have HP2 := Lib.hid (HAP.out w4 (some ⟨w3.heap.size, 0, none⟩) n (List.replicate n 0) hb34 hz4 (by rw [rep_len]; exact Nat.le_refl _) (by rw [rep_len]; omega)); rw [rep_len] at HP2; clear hown4 hg4)
      | (go_at_call 10; have h6 := hb6; with_reducible (refine Calls.mono (HA.out _ (chain hb45 h6)) ?_); rintro e w7 ⟨rfl, hb7⟩)
      | (go_at_call 10; with_reducible (refine Calls.mono (HA.out _ hb45) ?_); rintro e w6 ⟨rfl, hb6⟩)
      | (go_at_call 9; with_reducible (refine Calls.mono HP2.out ?_); rintro e w5 ⟨A5, c5, rfl, hb5⟩; have hb45 := chain hb34 hb5)
      | (go_at_call 9; with_reducible (refine Calls.mono HP1.out ?_); rintro e w3 ⟨A3, c3, rfl, hb3⟩))
    go_ret
    exact ⟨rfl, chain hb45 (chain hb6 hb7)⟩

/-- StreamMasks. -/
theorem strMasks_go (A0 A1 A2 : Option Addr) (c0 c1 c2 : Nat) (key ctr text : List Nat) (w : World) (HS : StrSpec w) (h0 : Ints w w.heap.size .u8 A0 (up key)) (h1 : Ints w w.heap.size .u8 A1 (up ctr)) (h2 : Ints w w.heap.size .u8 A2 (up text)) (hA2 : A2 = none → c2 = 0)
    (hk : ∀ x ∈ key, x < 256) (hc : ∀ x ∈ ctr, x < 256) (ht : ∀ x ∈ text, x < 256) (hc0 : key.length ≤ c0) (hc1 : ctr.length ≤ c1) (hc2 : text.length ≤ c2) (hm0 : key.length ≤ 140737488355328) (hm1 : ctr.length ≤ 140737488355328) :
    Calls Try.prog 8 #[.slice A0 key.length c0, .slice A1 ctr.length c1, .slice A2 text.length c2] w fun e w' => e = .returned (.bool true) ∧ Below w.heap.size w w' := by
  by_cases h : key.length = 16 ∧ ctr.length = 16
  · have := strMasks_ok A0 A1 A2 c0 c1 c2 key ctr text w HS h0 h1 h2 hA2 hk hc ht h.1 h.2 (by omega) (by omega) hc2
    rw [h.1, h.2]
    exact this
  · exact strMasks_no A0 A1 A2 c0 c1 c2 key ctr text w HS h0 h1 h2 hk hc h hc0 hc1 hc2 hm0 hm1

end Go.Proofs.Ytcoiincgclglbaa
