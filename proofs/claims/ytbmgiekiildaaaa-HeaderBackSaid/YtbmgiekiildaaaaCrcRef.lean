/-
  The document's own check sums (stowageref02): what they answer; nothing that was there is changed.
-/
import Derived.Test.YtbmgiekiildaaaaWords
import Derived.Test.YtbmgiekiildaaaaCrcNums
import Derived.Test.YtbmgiekiildaaaaChecked
import Derived.Tactics
import Derived.Tactics2
import Derived.LoopTactic
import Derived.OpenShut
import Derived.WalkLawsBesides
namespace Go.Proofs.Ytbmgiekiildaaaa
open Go.RowKit

theorem u32_x (a b : Nat) (ha : a < 2 ^ 32) (hb : b < 2 ^ 32) : bits .xor .u32 (a : Int) (b : Int) = ((a ^^^ b : Nat) : Int) := u32_xor_nat a b (by omega) (by omega)

theorem inv_bits (s : Nat) (hs : s < 2 ^ 32) : bits .xor .u32 IntKind.u32.max (s : Int) = ((inv32 s : Nat) : Int) := by
  rw [show IntKind.u32.max = ((4294967295 : Nat) : Int) from rfl, u32_x _ _ (by decide) hs, inv32_xor hs, Nat.xor_comm]
theorem nb_take_snoc (zs : List Int) (k : Nat) (h : k < zs.length) : nb (zs.take (k + 1)) = nb (zs.take k) ++ [(zs.getD k 0).toNat] := by
  rw [take_snoc zs k h]; simp [nb]
theorem bitStep_odd {r : Nat} (h : r % 2 = 1) : bitStep r = r / 2 ^^^ crcPoly := by unfold bitStep; rw [if_pos h]
theorem bitStep_even {r : Nat} (h : r % 2 = 0) : bitStep r = r / 2 := by unfold bitStep; rw [if_neg (by omega)]

set_option maxHeartbeats 800000 in
/-- 'More'. -/
theorem refMore_any (A : Option Addr) (c B : Nat) (zs : List Int) (s : Nat) (w : World) (hr : Ints w B .u8 A zs) (hz : ∀ z ∈ zs, 0 ≤ z ∧ z ≤ 255) (hm : zs.length ≤ 9223372036854775807) (hs : s < 2 ^ 32) :
    Calls Try.prog 33 #[.int .u32 (s : Int), .slice A zs.length c] w fun e w' => e = .returned (.int .u32 (moreN s (nb zs) : Nat)) ∧ w = w' := by
  have HZ := Lib.hid hz
  have HS := Lib.hid hs
  have hs1 : s ≤ 4294967295 := by omega
  have hib := inv_bits s hs
  have hil := inv32_lt s
  obtain ⟨t, ht⟩ : ∃ t, t = inv32 s := ⟨_, rfl⟩
  rw [← ht] at hib hil
  have HT := Lib.hid ht
  clear hz hs ht
  go_enter Try.func33, Try.ntmps33
  go_wp2
  go_loop [5, 6] (fun r i => ∃ k : Nat, k ≤ zs.length ∧ i = .int .i64 k ∧ r = .int .u32 (regs t (nb (zs.take k)) : Nat)) (fun _ i => zs.length - (intOf i).toNat)
  case atStart => exact ⟨0, Nat.zero_le _, rfl, rfl⟩
  case round =>
    obtain ⟨k, hk, rfl, rfl⟩ := hrel
    have hrl : regs t (nb (zs.take k)) < 2 ^ 32 := regs_lt _ hil (nb_lt fun z hz => HZ.out z (List.mem_of_mem_take hz))
    by_cases hlt : k < zs.length
    · obtain ⟨b, off, rfl, _, hc⟩ := hr k hlt
      have hx := HZ.out _ (getD_mem hlt)
      have HN : Hid (regs t (nb (zs.take (k + 1))) = byteStep (regs t (nb (zs.take k)) ^^^ (zs.getD k 0).toNat)) := by rw [nb_take_snoc zs k hlt]; exact regs_snoc _ _ _
      obtain ⟨x, hx'⟩ : ∃ x : Nat, (x : Int) = zs.getD k 0 := ⟨(zs.getD k 0).toNat, by omega⟩
      rw [← hx'] at hc hx HN
      obtain ⟨r, hr'⟩ : ∃ r, r = regs t (nb (zs.take k)) := ⟨_, rfl⟩
      rw [← hr'] at hrl HN ⊢
      have hxr := u32_x r x hrl (by omega)
      have hql : r ^^^ x < 2 ^ 32 := Nat.xor_lt_two_pow hrl (by omega)
      obtain ⟨q, hq⟩ : ∃ q, q = r ^^^ x := ⟨_, rfl⟩
      have HN2 : Hid (regs t (nb (zs.take (k + 1))) = bitsN 8 q) := by have := HN.out; unfold Hid; rw [this, hq]; rfl
      rw [← hq] at hxr hql
      have hx0 := hx.1
      have hx1 := hx.2
      clear hx' hr' hq HN hx
      go_wp2
      go_loop [5, 7] (fun r i => ∃ j : Nat, j ≤ 8 ∧ i = .int .i64 j ∧ r = .int .u32 (bitsN j q : Nat)) (fun _ i => 8 - (intOf i).toNat)
      case atStart => exact ⟨0, by omega, rfl, rfl⟩
      case round =>
        obtain ⟨j, hj, rfl, rfl⟩ := hrel
        by_cases hj8 : j < 8
        · have hpl := bitsN_lt (n := j) hql
          have HB := Lib.hid (bitsN_succ j q)
          obtain ⟨p, hp⟩ : ∃ p, p = bitsN j q := ⟨_, rfl⟩
          rw [← hp] at hpl HB ⊢
          clear hp
          have hpl1 : (p : Int) ≤ 4294967295 := by omega
          have hp2 := u32_x (p / 2) 3988292384 (by omega) (by decide)
          have ed : ((p / 2 : Nat) : Int) = (p : Int) / 2 := by omega
          rw [ed] at hp2
          rcases Nat.mod_two_eq_zero_or_one p with ho | ho
          · have ho1 : ((p : Int) % 2 == 1) = false := by simp; omega
            have ho2 : (p : Int) % 2 = 0 := by omega
            have HO := Lib.hid (bitStep_even ho)
            clear ho hp2 ed
            go_wp2
            go_round
            case rel => exact ⟨j + 1, by omega, by go_num, by rw [HB.out, HO.out]; go_num⟩
            case measure => simp [intOf]; omega
          · have ho1 : ((p : Int) % 2 == 1) = true := by simp; omega
            have ho2 : (p : Int) % 2 = 1 := by omega
            have HO := Lib.hid (bitStep_odd ho)
            clear ho ed
            go_wp2
            go_round
            case rel => exact ⟨j + 1, by omega, by go_num, by rw [HB.out, HO.out]; exact congrArg _ hp2⟩
            case measure => simp [intOf]; omega
        · have hj9 : j = 8 := by omega
          subst hj9
          rw [← HN2.out]
          go_wp2
          go_round
          case rel => exact ⟨k + 1, by omega, by go_num, rfl⟩
          case measure => simp [intOf]; omega
    · have hkl : k = zs.length := by omega
      subst hkl
      rw [List.take_length] at hrl ⊢
      have hie := inv_bits _ hrl
      have HM : Hid (inv32 (regs t (nb zs)) = moreN s (nb zs)) := by unfold Hid moreN; rw [← HT.out]
      go_wp2
      go_ret
      rw [← HM.out]
      exact ⟨rfl, rfl⟩

end Go.Proofs.Ytbmgiekiildaaaa
