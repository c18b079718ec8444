/-
  Laws of layer 2 as walks, from what is asked of the layer's functions: CrcBytes, CrcFinds. Conditions: those properties; what comes in is of its type.
-/
import Derived.Test.YtkikigpdcjkneaaCrcLaws
import Derived.BigRegion
import Derived.ChangeAlike
namespace Go.Proofs.Ytkikigpdcjkneaa
open Go.RowKit

theorem nb_append (a b : List Int) : nb (a ++ b) = nb a ++ nb b := by simp [nb]
theorem moreN_snoc (s : Nat) (zs : List Int) (k : Nat) (hk : k < zs.length) (hz : ∀ z ∈ zs, 0 ≤ z ∧ z ≤ 255) :
    moreN (moreN s (nb (zs.take k))) (nb [zs.getD k 0]) = moreN s (nb (zs.take (k + 1))) := by
  rw [moreN_append _ _ _ (nb_lt fun z hz' => hz z (List.mem_of_mem_take hz')), take_snoc zs k hk, nb_append]

set_option maxHeartbeats 800000 in
set_option maxRecDepth 100000 in
theorem crcBytes_go (HSum : SumSpec) (HMore : MoreSpec) (A : Option Addr) (c : Nat) (zs : List Int) (s : Nat) (w : World) (hr : Ints w w.heap.size .u8 A zs) (hz : ∀ z ∈ zs, 0 ≤ z ∧ z ≤ 255) (hc : zs.length ≤ c) (hm : zs.length ≤ 9223372036854775807) (hs : s < 2 ^ 32) :
    Calls Try.prog 9 #[.int .u32 (s : Int), .slice A zs.length c] w fun e w' => e = .returned (.bool true) ∧ Below w.heap.size w w' := by
  have HA := Lib.hid (crcAwake HSum)
  have HM := Lib.hid HMore
  have HZ := Lib.hid hz
  have HS := Lib.hid hs
  clear HSum HMore hz hs
  go_enter Try.func9, Try.ntmps9
  go_wp2
  go_loopw [5, 6] (fun t i wr => ∃ k : Nat, k ≤ zs.length ∧ k ≤ 300 ∧ i = .int .i64 k ∧ t = .int .u32 (moreN s (nb (zs.take k)) : Nat) ∧ Below w.heap.size w wr) (fun _ i _ => zs.length - (intOf i).toNat)
  case atStart => exact ⟨0, Nat.zero_le _, by omega, rfl, by rw [List.take_zero]; show _ = Value.int .u32 ((moreN s [] : Nat) : Int); rw [moreN_nil HS.out], Below.refl _ _⟩
  case round =>
    obtain ⟨k, hk, hk3, rfl, rfl, hbel⟩ := hrel
    by_cases hlt : k < zs.length ∧ k < 300
    · obtain ⟨hl1, hl2⟩ := hlt
      obtain ⟨b, off, e1, _, _⟩ := hr k hl1
      have hcut := ((hr.below hbel).cut (n := k) (c := c) hk hc)
      rw [if_neg (by omega), e1] at hcut
      have eA : (some (⟨b, off, none⟩ : Addr)).map (·.add k) = some ⟨b, off + k, none⟩ := by unfold Addr.add; split <;> simp_all
      rw [eA] at hcut
      have h1 := (hcut.take 1).more hbel.size
      have et : (zs.drop k).take 1 = [zs.getD k 0] := by
        rw [List.drop_eq_getElem_cons hl1, List.take_succ_cons, List.take_zero]; simp [List.getD, hl1]
      rw [et] at h1
      have hx := HZ.out _ (getD_mem hl1)
      have H := HM.out (some ⟨b, off + k, none⟩) (c - k) [zs.getD k 0] (moreN s (nb (zs.take k))) wr h1 (by intro z hz; simp at hz; subst hz; exact hx) (by simp; omega) (by simp) (moreN_lt _ _)
      rw [moreN_snoc s zs k hl1 HZ.out] at H
      have HC := Lib.hid H
      obtain ⟨t, ht⟩ : ∃ t, t = moreN s (nb (zs.take k)) := ⟨_, rfl⟩
      rw [← ht] at HC ⊢
      obtain rfl := e1
      have hq3 : ¬ c = k := by omega
      have hq4 : k + 1 ≤ c := by omega
      clear hcut h1 et hx H ht eA
      go_wp2_with (go_at_call 14; refine Calls.mono HC.out ?_; rintro e w1 ⟨rfl, hb1⟩)
      go_roundw
      case rel => exact ⟨k + 1, by omega, by omega, by go_num, rfl, hbel.trans (hb1.mono hbel.size)⟩
      case measure => simp [intOf]; omega
    · by_cases h3 : 300 < zs.length
      · have hk300 : k = 300 := by omega
        subst hk300
        have h4 : (300 : Int) < (zs.length : Int) := by omega
        have h5 : 300 ≤ c := by omega
        have HT : (zs.take 300).length = 300 := by rw [List.length_take]; omega
        have H1 := fun w1 (hb : Below w.heap.size w w1) => HM.out A c (zs.take 300) s w1 (((hr.below hb).more hb.size).take 300) (fun z hz => HZ.out z (List.mem_of_mem_take hz)) (by omega) (by omega) HS.out
        rw [HT] at H1
        have H2 := fun w1 => HM.out none 0 [] s w1 (Ints.nil _ _ _ _) (by simp) (by simp) (by simp) HS.out
        rw [show nb [] = [] from rfl, moreN_nil HS.out] at H2
        have HC1 := Lib.hid H1
        have HC2 := Lib.hid H2
        obtain ⟨t, ht⟩ : ∃ t, t = moreN s (nb (zs.take 300)) := ⟨_, rfl⟩
        rw [← ht] at HC1 ⊢
        clear hlt H1 H2 HT ht
        go_wp2_with (first
          | (go_at_call 11; refine Calls.mono (HA.out _) ?_; rintro e w1 ⟨rfl, hb1⟩; have hc1 := hbel.trans (hb1.mono hbel.size))
          | (go_at_call 14; with_reducible (refine Calls.mono (HC2.out _) ?_); rintro e w3 ⟨rfl, hb3⟩)
          | (go_at_call 14; refine Calls.mono (HC1.out _ hc1) ?_; rintro e w2 ⟨rfl, hb2⟩))
        go_ret
        exact ⟨rfl, chain (chain hc1 hb2) hb3⟩
      · have hkl : k = zs.length := by omega
        subst hkl
        have h4 : ¬ (300 : Int) < (zs.length : Int) := by omega
        have H1 := fun w1 (hb : Below w.heap.size w w1) => HM.out A c zs s w1 ((hr.below hb).more hb.size) HZ.out (by omega) (by omega) HS.out
        have H2 := fun w1 => HM.out none 0 [] s w1 (Ints.nil _ _ _ _) (by simp) (by simp) (by simp) HS.out
        rw [show nb [] = [] from rfl, moreN_nil HS.out] at H2
        have HC1 := Lib.hid H1
        have HC2 := Lib.hid H2
        rw [List.take_length]
        obtain ⟨t, ht⟩ : ∃ t, t = moreN s (nb zs) := ⟨_, rfl⟩
        rw [← ht] at HC1 ⊢
        clear hlt H1 H2 ht
        go_wp2_with (first
          | (go_at_call 11; refine Calls.mono (HA.out _) ?_; rintro e w1 ⟨rfl, hb1⟩; have hc1 := hbel.trans (hb1.mono hbel.size))
          | (go_at_call 14; with_reducible (refine Calls.mono (HC2.out _) ?_); rintro e w3 ⟨rfl, hb3⟩)
          | (go_at_call 14; refine Calls.mono (HC1.out _ hc1) ?_; rintro e w2 ⟨rfl, hb2⟩))
        go_ret
        exact ⟨rfl, chain (chain hc1 hb2) hb3⟩

end Go.Proofs.Ytkikigpdcjkneaa
