/-
  The document's own answer for blocks (stowageref05), its smaller functions: what they answer; nothing that was there is changed. The document's own images of all bytes, and its round keys: what they answer; nothing that was there is changed.
-/
import Derived.Test.YtanpfodmmeagaaaDoorWordsG
import Derived.Test.YtanpfodmmeagaaaDoorAesBlkG
import Derived.Test.YtanpfodmmeagaaaDoorChecked
import Derived.Tactics
import Derived.Tactics2
import Derived.LoopTactic
import Derived.OpenShut
import Derived.WalkLawsBesides
import Derived.BigQuiet
import Derived.BigRegion
import Derived.StillTailTactics
import Derived.Deep.RegionHeld3
import Derived.Deep.DeepCutAuto
namespace Go.Proofs.YtanpfodmmeagaaaDoor
open Go.RowKit

theorem b8_x (a b : Nat) (ha : a < 256) (hb : b < 256) : bits .xor .u8 (a : Int) (b : Int) = ((a ^^^ b : Nat) : Int) := u8_xor_nat a b ha hb
theorem b8_o (a b : Nat) (ha : a < 256) (hb : b < 256) : bits .or .u8 (a : Int) (b : Int) = ((a ||| b : Nat) : Int) := u8_or_nat a b ha hb
theorem b8_a (a b : Nat) (ha : a < 256) (hb : b < 256) : bits .and .u8 (a : Int) (b : Int) = ((a &&& b : Nat) : Int) := u8_and_nat a b ha hb
theorem b64_x (a b : Nat) (ha : a < 2 ^ 64) (hb : b < 2 ^ 64) : bits .xor .u64 (a : Int) (b : Int) = ((a ^^^ b : Nat) : Int) := u64_xor_nat a b ha hb
theorem b64_a (a b : Nat) (ha : a < 2 ^ 64) (hb : b < 2 ^ 64) : bits .and .u64 (a : Int) (b : Int) = ((a &&& b : Nat) : Int) := u64_and_nat a b ha hb

theorem accN_lt {a b : Nat} (ha : a < 256) : ∀ i, i ≤ 8 → accN a b i < 2 ^ 16
  | 0, _ => by simp [accN]
  | i + 1, h => by
    have ih := accN_lt (b := b) ha i (by omega)
    simp only [accN]
    split
    · refine Nat.xor_lt_two_pow ih ?_
      have : 2 ^ i ≤ 128 := Nat.pow_le_pow_right (n := 2) (j := 7) (by decide) (by omega)
      have := Nat.mul_le_mul (show a ≤ 255 by omega) this
      omega
    · exact ih
theorem redN_lt {x : Nat} (hx : x < 2 ^ 16) : ∀ j, redN x j < 2 ^ 16
  | 0 => hx
  | j + 1 => by
    have ih := redN_lt hx j
    simp only [redN]
    split
    · refine Nat.xor_lt_two_pow ih ?_
      have : 2 ^ (6 - j) ≤ 64 := Nat.pow_le_pow_right (n := 2) (j := 6) (by decide) (by omega)
      omega
    · exact ih

set_option maxHeartbeats 800000 in
/-- 'Times'. -/
theorem refTimes_any (a b : Nat) (w : World) (ha : a < 256) (hb : b < 256) :
    Calls Tryd.prog 64 #[.int .u8 (a : Int), .int .u8 (b : Int)] w fun e w' => e = .returned (.int .u8 (timesN a b : Nat)) ∧ w = w' := by
  go_enter Tryd.func64, Tryd.ntmps64
  go_wp2
  go_loop [5, 6] (fun s i => ∃ k : Nat, k ≤ 8 ∧ i = .int .i64 k ∧ s = .int .u64 (accN a b k : Nat)) (fun _ i => 8 - (intOf i).toNat)
  case atStart => exact ⟨0, by omega, rfl, rfl⟩
  case round =>
    obtain ⟨k, hk, rfl, rfl⟩ := hrel
    by_cases hlt : k < 8
    · have hal := accN_lt (b := b) ha k hk
      have hHN : accN a b (k + 1) = if b / 2 ^ k % 2 = 1 then accN a b k ^^^ a * 2 ^ k else accN a b k := rfl
      have HN := Lib.hid hHN
      have hb1 := Nat.mod_two_eq_zero_or_one (b / 2 ^ k)
      have hbl : b / 2 ^ k < 256 := Nat.lt_of_le_of_lt (Nat.div_le_self _ _) hb
      have han := b8_a (b / 2 ^ k) 1 hbl (by decide)
      rw [Nat.and_one_is_mod, Int.natCast_ediv, Int.natCast_pow] at han
      have hp : 2 ^ k ≤ 128 := Nat.pow_le_pow_right (n := 2) (j := 7) (by decide) (by omega)
      have hap : a * 2 ^ k ≤ 255 * 128 := Nat.mul_le_mul (by omega) hp
      have hxr := b64_x (accN a b k) (a * 2 ^ k) (by omega) (by omega)
      have e2 : ((a * 2 ^ k : Nat) : Int) = (a : Int) * 2 ^ k := by rw [Int.natCast_mul, Int.natCast_pow]; rfl
      rw [e2] at hxr
      have ap2 : (0 : Int) ≤ (a : Int) * 2 ^ k ∧ (a : Int) * 2 ^ k ≤ 32640 := by rw [← e2]; omega
      obtain ⟨s, hs⟩ : ∃ s, s = accN a b k := ⟨_, rfl⟩
      rw [← hs] at HN hal hxr ⊢
      have HX := Lib.hid hxr
      clear hHN hs hxr e2
      obtain ⟨ap3, ap4⟩ := ap2
      rcases hb1 with hb1 | hb1
      · rw [hb1] at han
        have hh : bits .and .u8 ((b : Int) / 2 ^ k) 1 = 0 := han
        have hn : accN a b (k + 1) = s := by rw [HN.out, if_neg (by omega)]
        have HN2 := Lib.hid hn
        clear han hb1 hn
        go_wp2
        go_round
        case rel => exact ⟨k + 1, by omega, by go_num, by rw [HN2.out]⟩
        case measure => simp [intOf]; omega
      · rw [hb1] at han
        have hh : bits .and .u8 ((b : Int) / 2 ^ k) 1 = 1 := han
        have hn : accN a b (k + 1) = s ^^^ a * 2 ^ k := by rw [HN.out, if_pos hb1]
        have HN2 := Lib.hid hn
        clear han hb1 hn
        go_wp2
        go_round
        case rel => exact ⟨k + 1, by omega, by go_num, by rw [HN2.out, ← HX.out]⟩
        case measure => simp [intOf]; omega
    · have hk8 : k = 8 := by omega
      subst hk8
      have hal := accN_lt (b := b) ha 8 (Nat.le_refl _)
      have hT : timesN a b = redN (accN a b 8) 7 % 256 := rfl
      obtain ⟨X, hX⟩ : ∃ X, X = accN a b 8 := ⟨_, rfl⟩
      rw [← hX] at hT hal ⊢
      have HTT := Lib.hid hT
      clear hX hT ha hb
      go_wp2
      go_loop [5, 7] (fun s i => ∃ j q : Nat, j ≤ 7 ∧ q + j = 14 ∧ i = .int .i64 q ∧ s = .int .u64 (redN X j : Nat)) (fun _ i => (intOf i).toNat)
      case atStart => exact ⟨0, 14, by omega, by omega, rfl, rfl⟩
      case round =>
        obtain ⟨j, q, hj, hq, rfl, rfl⟩ := hrel
        have hrl := redN_lt hal j
        by_cases hlt : j < 7
        · have hHN : redN X (j + 1) = if redN X j / 2 ^ q % 2 = 1 then redN X j ^^^ 283 * 2 ^ (q - 8) else redN X j := by
            simp only [redN]
            rw [show 14 - j = q by omega, show 6 - j = q - 8 by omega]
          have HN := Lib.hid hHN
          obtain ⟨s, hs⟩ : ∃ s, s = redN X j := ⟨_, rfl⟩
          rw [← hs] at HN hrl ⊢
          have hb1 := Nat.mod_two_eq_zero_or_one (s / 2 ^ q)
          have hbl : s / 2 ^ q < 2 ^ 64 := Nat.lt_of_le_of_lt (Nat.div_le_self _ _) (by omega)
          have han := b64_a (s / 2 ^ q) 1 hbl (by decide)
          rw [Nat.and_one_is_mod, Int.natCast_ediv, Int.natCast_pow] at han
          have hp : 2 ^ (q - 8) ≤ 64 := Nat.pow_le_pow_right (n := 2) (j := 6) (by decide) (by omega)
          have hxr := b64_x s (283 * 2 ^ (q - 8)) (by omega) (by omega)
          have e2 : ((283 * 2 ^ (q - 8) : Nat) : Int) = (283 : Int) * 2 ^ (q - 8) := by rw [Int.natCast_mul, Int.natCast_pow]; rfl
          rw [e2] at hxr
          have ap2 : (0 : Int) ≤ (283 : Int) * 2 ^ (q - 8) ∧ (283 : Int) * 2 ^ (q - 8) ≤ 18112 := by rw [← e2]; omega
          have HX := Lib.hid hxr
          have q8 : (8 : Int) ≤ (q : Int) := by omega
          have q9 : (0 : Int) ≤ (q : Int) - 8 := by omega
          have q10 : ((q : Int) - 8).toNat = q - 8 := by omega
          clear hHN hs hxr e2
          obtain ⟨ap3, ap4⟩ := ap2
          rcases hb1 with hb1 | hb1
          · rw [hb1] at han
            have hh : bits .and .u64 ((s : Int) / 2 ^ q) 1 = 0 := han
            have hn : redN X (j + 1) = s := by rw [HN.out, if_neg (by omega)]
            have HN2 := Lib.hid hn
            clear han hb1 hn
            go_wp2
            go_round
            case rel => exact ⟨j + 1, q - 1, by omega, by omega, by go_num, by rw [HN2.out]⟩
            case measure => simp [intOf]; omega
          · rw [hb1] at han
            have hh : bits .and .u64 ((s : Int) / 2 ^ q) 1 = 1 := han
            have hn : redN X (j + 1) = s ^^^ 283 * 2 ^ (q - 8) := by rw [HN.out, if_pos hb1]
            have HN2 := Lib.hid hn
            clear han hb1 hn
            go_wp2
            go_round
            case rel => exact ⟨j + 1, q - 1, by omega, by omega, by go_num, by rw [HN2.out, ← HX.out]⟩
            case measure => simp [intOf]; omega
        · have hj7 : j = 7 := by omega
          subst hj7
          obtain rfl : q = 7 := by omega
          go_wp2
          go_ret
          exact ⟨ret_int (by rw [HTT.out, Int.natCast_emod]; rfl), rfl⟩

/-- 'left'. -/
theorem refLeft_any (v n : Nat) (w : World) (hv : v < 256) (hn : n ≤ 8) :
    Calls Tryd.prog 79 #[.int .u8 (v : Int), .int .i64 (n : Int)] w fun e w' => e = .returned (.int .u8 (leftN v n : Nat)) ∧ ∃ m, w' = w.drewN m := by
  have h1 : (n : Int) ≤ 8 := by omega
  have h2 : (0 : Int) ≤ (n : Int) := by omega
  have h3 : (0 : Int) ≤ 8 - (n : Int) := by omega
  have h6 : ((8 : Int) - (n : Int)).toNat = 8 - n := by omega
  have e1 : bits .or .u8 ((v : Int) * 2 ^ n % 256) ((v : Int) / 2 ^ (8 - n)) = ((leftN v n : Nat) : Int) := by
    have a1 : ((v : Int) / 2 ^ (8 - n)) = ((v / 2 ^ (8 - n) : Nat) : Int) := by rw [Int.natCast_ediv, Int.natCast_pow]; rfl
    have a2 : ((v : Int) * 2 ^ n % 256) = ((v * 2 ^ n % 256 : Nat) : Int) := by
      rw [Int.natCast_emod, Int.natCast_mul, Int.natCast_pow]; rfl
    rw [a1, a2, b8_o _ _ (Nat.mod_lt _ (by decide)) (Nat.lt_of_le_of_lt (Nat.div_le_self _ _) hv)]; rfl
  have HE := Lib.hid e1
  clear e1
  go_enter Tryd.func79, Tryd.ntmps79
  go_wp2
  go_quiet (fail)
  go_wp2
  go_ret
  exact ⟨ret_int HE.out, nq, rfl⟩
theorem leftN_lt {v n : Nat} (hv : v < 256) : leftN v n < 256 :=
  Nat.or_lt_two_pow (n := 8) (Nat.mod_lt _ (by decide)) (Nat.lt_of_le_of_lt (Nat.div_le_self _ _) hv)
theorem invN_le (b : Nat) : ∀ k, invN b k ≤ k
  | 0 => Nat.le_refl _
  | k + 1 => by
    have := invN_le b k
    simp only [invN]
    split <;> omega

set_option maxHeartbeats 1600000 in
set_option maxRecDepth 100000 in
/-- 'Sub'. -/
theorem refSub_any (b : Nat) (w : World) (hb : b < 256) :
    Calls Tryd.prog 62 #[.int .u8 (b : Int)] w fun e w' => e = .returned (.int .u8 (sbox.getD b 0 : Nat)) ∧ ∃ m, w' = w.drewN m := by
  have HT := Lib.hid (fun (x : Nat) (hx : x < 256) (W : World) => refTimes_any b x W hb hx)
  have hsb0 := sbox_is b hb
  obtain ⟨r, hr⟩ : ∃ r, r = sbox.getD b 0 := ⟨_, rfl⟩
  rw [← hr] at hsb0 ⊢
  have HSB := Lib.hid hsb0
  clear hr hsb0
  go_enter Tryd.func62, Tryd.ntmps62
  go_wp2
  go_loop [3, 4] (fun v i => ∃ k : Nat, k ≤ 255 ∧ i = .int .i64 ((k : Int) + 1) ∧ v = .int .u8 (invN b k : Nat)) (fun _ i => 256 - (intOf i).toNat)
  case atStart => exact ⟨0, by omega, rfl, rfl⟩
  case round =>
    obtain ⟨k, hk, rfl, rfl⟩ := hrel
    by_cases hlt : k < 255
    · have hT := HT.out (k + 1) (by omega)
      have hHN : invN b (k + 1) = if timesN b (k + 1) = 1 then k + 1 else invN b k := rfl
      have HN := Lib.hid hHN
      obtain ⟨q, hq⟩ : ∃ q, q = timesN b (k + 1) := ⟨_, rfl⟩
      obtain ⟨x, hx⟩ : ∃ x, x = k + 1 := ⟨_, rfl⟩
      have hxi : (k : Int) + 1 = (x : Int) := by omega
      rw [← hx] at hT hq HN
      rw [← hq] at hT HN
      have HTT := Lib.hid hT
      have hx1 : (x : Int) ≤ 255 := by omega
      have hx0 : (0 : Int) ≤ (x : Int) := by omega
      rw [hxi]
      have HXI := Lib.hid hx
      clear hx hq hT hHN hxi
      by_cases h1 : q = 1
      · have hq1 : (q : Int) = 1 := by omega
        go_wp2_with (go_at_call 64; with_reducible (refine Calls.mono (HTT.out _) ?_); rintro e w' ⟨rfl, rfl⟩)
        go_round
        case rel => exact ⟨x, by omega, by go_num, by rw [HN.out, if_pos h1]⟩
        case measure => simp [intOf]; omega
      · have hq1 : ¬ (q : Int) = 1 := by omega
        go_wp2_with (go_at_call 64; with_reducible (refine Calls.mono (HTT.out _) ?_); rintro e w' ⟨rfl, rfl⟩)
        go_round
        case rel => exact ⟨x, by omega, by go_num, by rw [HN.out, if_neg h1]⟩
        case measure => simp [intOf]; omega
    · have hk8 : k = 255 := by omega
      subst hk8
      have hv := Nat.lt_succ_of_le (invN_le b 255)
      have hsb : subN b = invN b 255 ^^^ leftN (invN b 255) 1 ^^^ leftN (invN b 255) 2 ^^^ leftN (invN b 255) 3 ^^^ leftN (invN b 255) 4 ^^^ 99 := rfl
      rw [HSB.out] at hsb
      obtain ⟨v, hve⟩ : ∃ v, v = invN b 255 := ⟨_, rfl⟩
      rw [← hve] at hv hsb ⊢
      have L1 := Lib.hid (fun W => refLeft_any v 1 W hv (by decide))
      have L2 := Lib.hid (fun W => refLeft_any v 2 W hv (by decide))
      have L3 := Lib.hid (fun W => refLeft_any v 3 W hv (by decide))
      have L4 := Lib.hid (fun W => refLeft_any v 4 W hv (by decide))
      have m1 := leftN_lt (n := 1) hv
      have m2 := leftN_lt (n := 2) hv
      have m3 := leftN_lt (n := 3) hv
      have m4 := leftN_lt (n := 4) hv
      obtain ⟨l1, e1⟩ : ∃ x, x = leftN v 1 := ⟨_, rfl⟩
      obtain ⟨l2, e2⟩ : ∃ x, x = leftN v 2 := ⟨_, rfl⟩
      obtain ⟨l3, e3⟩ : ∃ x, x = leftN v 3 := ⟨_, rfl⟩
      obtain ⟨l4, e4⟩ : ∃ x, x = leftN v 4 := ⟨_, rfl⟩
      rw [← e1] at L1 m1 hsb
      rw [← e2] at L2 m2 hsb
      rw [← e3] at L3 m3 hsb
      rw [← e4] at L4 m4 hsb
      have x1 := b8_x v l1 hv m1
      have x2 := b8_x (v ^^^ l1) l2 (xor_lt8 hv m1) m2
      have x3 := b8_x (v ^^^ l1 ^^^ l2) l3 (xor_lt8 (xor_lt8 hv m1) m2) m3
      have x4 := b8_x (v ^^^ l1 ^^^ l2 ^^^ l3) l4 (xor_lt8 (xor_lt8 (xor_lt8 hv m1) m2) m3) m4
      have x5 := b8_x (v ^^^ l1 ^^^ l2 ^^^ l3 ^^^ l4) 99 (xor_lt8 (xor_lt8 (xor_lt8 (xor_lt8 hv m1) m2) m3) m4) (by decide)
      rw [← hsb] at x5
      obtain ⟨y1, f1⟩ : ∃ x, x = v ^^^ l1 := ⟨_, rfl⟩
      rw [← f1] at x1 x2 x3 x4 x5
      obtain ⟨y2, f2⟩ : ∃ x, x = y1 ^^^ l2 := ⟨_, rfl⟩
      rw [← f2] at x2 x3 x4 x5
      obtain ⟨y3, f3⟩ : ∃ x, x = y2 ^^^ l3 := ⟨_, rfl⟩
      rw [← f3] at x3 x4 x5
      obtain ⟨y4, f4⟩ : ∃ x, x = y3 ^^^ l4 := ⟨_, rfl⟩
      rw [← f4] at x4 x5
      have x6 : bits .xor .u8 (y4 : Int) 99 = (r : Int) := x5
      clear x5 f1 f2 f3 f4 e1 e2 e3 e4 hsb hve
      go_wp2_with (first
        | (go_at_call 79; with_reducible (refine Calls.mono (L1.out _) ?_); rintro e w' ⟨rfl, n1, rfl⟩)
        | (go_at_call 79; with_reducible (refine Calls.mono (L2.out _) ?_); rintro e w' ⟨rfl, n2, rfl⟩)
        | (go_at_call 79; with_reducible (refine Calls.mono (L3.out _) ?_); rintro e w' ⟨rfl, n3, rfl⟩)
        | (go_at_call 79; with_reducible (refine Calls.mono (L4.out _) ?_); rintro e w' ⟨rfl, n4, rfl⟩))
      go_ret
      exact ⟨rfl, _, rfl⟩

end Go.Proofs.YtanpfodmmeagaaaDoor

namespace Go.Proofs.YtanpfodmmeagaaaDoor
open Go.RowKit

theorem Tryd.infoU8a : (Tryd.prog.info? 5).map (fun i => (i.zero, i.size, i.bytes)) = some (some (.int .u8 0), 1, 1) := by kernel_rfl
theorem Tryd.infoSla : (Tryd.prog.info? 24).map (fun i => (i.zero, i.size, i.bytes)) = some (some (.slice none 0 0), 1, 24) := by kernel_rfl
theorem sbox_len : sbox.length = 256 := by decide +kernel
def subsTo (k : Nat) : List Nat := (List.range k).map fun b => sbox.getD b 0
theorem subsTo_succ (k : Nat) : subsTo (k + 1) = subsTo k ++ [sbox.getD k 0] := by simp [subsTo, List.range_succ]
theorem subsTo_len (k : Nat) : (subsTo k).length = k := by simp [subsTo]
theorem subsTo_all : subsTo 256 = sbox := by decide +kernel

set_option maxHeartbeats 800000 in
set_option maxRecDepth 100000 in
/-- 'Subs'. -/
theorem refSubs_any (w : World) : Calls Tryd.prog 40 #[] w fun e w' => ∃ A c, e = .returned (.slice A 256 c) ∧ 256 ≤ c ∧ Ints w' w'.heap.size .u8 A (up sbox) ∧ Below w.heap.size w w' := by
  obtain ⟨i0, hi, hz0, hz1, hz2⟩ := info_parts Tryd.infoU8a
  have HS := Lib.hid (fun (k : Nat) (hk : k < 256) (W : World) => refSub_any k W hk)
  have HALL := Lib.hid subsTo_all
  obtain ⟨sb, hsb⟩ : ∃ sb, sb = sbox := ⟨_, rfl⟩
  have HN : Hid (∀ k, subsTo (k + 1) = subsTo k ++ [sb.getD k 0]) := by rw [hsb]; exact subsTo_succ
  rw [← hsb] at HS HALL ⊢
  clear hsb
  go_enter Tryd.func40, Tryd.ntmps40
  go_wp2
  go_loopw [1, 2] (fun v i wr => ∃ k : Nat, k ≤ 256 ∧ i = .int .i64 k ∧ (∃ A c, v = .slice A k c) ∧ wr.ownsRow w.heap.size 5 1 v k ((up (subsTo k)).map (Value.int .u8)) ∧ Below w.heap.size w wr) (fun _ i _ => 256 - (intOf i).toNat)
  case atStart => exact ⟨0, by omega, rfl, ⟨_, _, rfl⟩, World.ownsRow_made w #[] 0 (Nat.le_refl _) (Nat.zero_le _) rfl, (Below.refl _ _).alloc (Nat.le_refl _) _⟩
  case round =>
    obtain ⟨k, hk, rfl, ⟨A, c, rfl⟩, hown, hbel⟩ := hrel
    by_cases hlt : k < 256
    · have hS := HS.out k hlt
      have hN := HN.out k
      obtain ⟨q, hq⟩ : ∃ q, q = sb.getD k 0 := ⟨_, rfl⟩
      rw [← hq] at hS hN
      have HSS := Lib.hid hS
      have HNN := Lib.hid hN
      have hsz := hbel.size
      have hk1 : (k : Int) ≤ 255 := by omega
      clear hS hN hq
      go_wp2_with (first
        | (go_at_call 62; with_reducible (refine Calls.mono (HSS.out _) ?_); rintro e w' ⟨rfl, m, rfl⟩)
        | (at_builtin; refine wpList_append_own_at _ rfl _ _ 24 rfl w.heap.size 5 i0 (.int .u8 0) 1 1 Tryd.underlying24 hi hz0 hz1 hz2 rfl (by decide) _ _ _ rfl ((show (wr.drewN m).ownsRow _ _ _ _ _ _ from hown).alloc _) ⟨wr.heap.size, 0, none⟩ 1 1 [.int .u8 (q : Int)] rfl rfl (cell_one_new _ _ _) ?d1 ?d2 ?d3 ?d4 ?_))
      case d1 => intro u hu; simp at hu; subst hu; rfl
      case d2 => unfold maxLen; omega
      case d3 => omega
      case d4 => simp; omega
      intro v3 w3 hown3 hg3 _ _
      have R : w3.ownsRow w.heap.size 5 1 v3 (k + 1) ((up (subsTo (k + 1))).map (Value.int .u8)) ∧ Below w.heap.size w w3 := by
        refine ⟨?_, ((below_drewN hbel m).alloc hsz _).grown hg3 (by simp; omega) fun q hq => (hown.lt q hq).1⟩
        rw [HNN.out, up_append, List.map_append]
        exact hown3
      obtain ⟨A3, q3, hv3⟩ := own_slice R.1
      subst hv3
      clear hown3 hg3 hown hbel
      go_wp2
      go_roundw
      case rel => first | exact ⟨k + 1, by omega, by go_num, ⟨A3, q3, rfl⟩, R.1, R.2⟩ | ((repeat apply Exists.intro); exact ⟨⟨k + 1, by omega, by go_num, ⟨A3, q3, rfl⟩, R.1, R.2⟩, rfl⟩)
      case measure => simp [intOf]; omega
    · have hk8 : k = 256 := by omega
      subst hk8
      rw [HALL.out] at hown
      have hsl : sb.length = 256 := by rw [← HALL.out, subsTo_len]
      go_wp2
      go_ret
      exact ⟨A, c, rfl, own_le hown, Ints.of_own (c := c) (n := 256) (by rw [up_len, hsl]; exact hown), hbel⟩

/-! ### Round keys -/
def kb (key : List Nat) (i : Nat) : Nat := (kbN key).getD i 0
def kw (key : List Nat) (i : Nat) : List Nat := [kb key (4 * i), kb key (4 * i + 1), kb key (4 * i + 2), kb key (4 * i + 3)]
theorem kbTo_stable (key : List Nat) (j : Nat) : ∀ d, (kbTo key (j + 1 + d)).getD j 0 = (kbTo key (j + 1)).getD j 0
  | 0 => rfl
  | d + 1 => by
    rw [← kbTo_stable key j d]
    show (kbTo key (j + 1 + d) ++ _).getD j 0 = _
    rw [List.getD_eq_getElem?_getD, List.getElem?_append_left (by rw [kbTo_len]; omega), List.getD_eq_getElem?_getD]
theorem kbTo_kb (key : List Nat) {j n : Nat} (hj : j < n) (hn : n ≤ 176) : (kbTo key n).getD j 0 = kb key j := by
  unfold kb kbN
  have e1 := kbTo_stable key j (n - (j + 1))
  have e2 := kbTo_stable key j (176 - (j + 1))
  rw [show j + 1 + (n - (j + 1)) = n by omega] at e1
  rw [show j + 1 + (176 - (j + 1)) = 176 by omega] at e2
  rw [e1, e2]
theorem kb_at (key : List Nat) {j : Nat} (hj : j < 176) : kb key j = if j < 16 then key.getD j 0 else kbNext (kbN key) j := by
  rw [← kbTo_kb key (n := j + 1) (by omega) (by omega)]
  show (kbTo key j ++ [_]).getD j 0 = _
  rw [List.getD_eq_getElem?_getD, List.getElem?_append_right (by rw [kbTo_len]; omega), kbTo_len, Nat.sub_self]
  simp only [List.getElem?_cons_zero, Option.getD_some]
  split
  · rfl
  · have h := fun i (hi : i < j) => kbTo_kb key (j := i) (n := j) hi (by omega)
    have h2 : ∀ i, kb key i = (kbN key).getD i 0 := fun _ => rfl
    unfold kbNext
    rw [h (j - 16) (by omega), h (j - 3) (by omega), h (j / 4 * 4 - 4 + (j + 1) % 4) (by omega), h (j - 4) (by omega)]
    simp only [h2]
theorem kb_lt {key : List Nat} (hk : ∀ x ∈ key, x < 256) (j : Nat) : kb key j < 256 := getD_lt' (by decide) (kbTo_lt hk 176) j
theorem kw_first (key : List Nat) {i : Nat} (hi : i < 4) : kw key i = [key.getD (4 * i) 0, key.getD (4 * i + 1) 0, key.getD (4 * i + 2) 0, key.getD (4 * i + 3) 0] := by
  unfold kw
  rw [kb_at key (by omega), kb_at key (by omega), kb_at key (by omega), kb_at key (by omega), if_pos (by omega), if_pos (by omega), if_pos (by omega), if_pos (by omega)]
theorem kw_four (key : List Nat) {i : Nat} (h4 : 4 ≤ i) (hi : i < 44) (hm : i % 4 = 0) : kw key i = [kb key (4 * (i - 4)) ^^^ (sbox.getD (kb key (4 * (i - 1) + 1)) 0 ^^^ xpow ((i - 1) / 4)), kb key (4 * (i - 4) + 1) ^^^ sbox.getD (kb key (4 * (i - 1) + 2)) 0,
    kb key (4 * (i - 4) + 2) ^^^ sbox.getD (kb key (4 * (i - 1) + 3)) 0, kb key (4 * (i - 4) + 3) ^^^ sbox.getD (kb key (4 * (i - 1))) 0] := by
  have h2 : ∀ i, (kbN key).getD i 0 = kb key i := fun _ => rfl
  unfold kw
  rw [kb_at key (j := 4 * i) (by omega), kb_at key (j := 4 * i + 1) (by omega), kb_at key (j := 4 * i + 2) (by omega), kb_at key (j := 4 * i + 3) (by omega), if_neg (by omega), if_neg (by omega), if_neg (by omega), if_neg (by omega)]
  unfold kbNext
  simp only [h2]
  rw [if_pos (by omega), if_pos (by omega), if_pos (by omega), if_neg (by omega), if_pos (by omega), if_neg (by omega), if_pos (by omega), if_neg (by omega)]
  rw [show 4 * i - 16 = 4 * (i - 4) by omega, show 4 * i + 1 - 16 = 4 * (i - 4) + 1 by omega, show 4 * i + 2 - 16 = 4 * (i - 4) + 2 by omega, show 4 * i + 3 - 16 = 4 * (i - 4) + 3 by omega,
    show 4 * i - 3 = 4 * (i - 1) + 1 by omega, show 4 * i / 16 - 1 = (i - 1) / 4 by omega, show (4 * i + 1) / 4 * 4 - 4 + (4 * i + 1 + 1) % 4 = 4 * (i - 1) + 2 by omega,
    show (4 * i + 2) / 4 * 4 - 4 + (4 * i + 2 + 1) % 4 = 4 * (i - 1) + 3 by omega, show (4 * i + 3) / 4 * 4 - 4 + (4 * i + 3 + 1) % 4 = 4 * (i - 1) by omega]
theorem kw_else (key : List Nat) {i : Nat} (h4 : 4 ≤ i) (hi : i < 44) (hm : i % 4 ≠ 0) : kw key i = [kb key (4 * (i - 4)) ^^^ kb key (4 * (i - 1)), kb key (4 * (i - 4) + 1) ^^^ kb key (4 * (i - 1) + 1),
    kb key (4 * (i - 4) + 2) ^^^ kb key (4 * (i - 1) + 2), kb key (4 * (i - 4) + 3) ^^^ kb key (4 * (i - 1) + 3)] := by
  have h2 : ∀ i, (kbN key).getD i 0 = kb key i := fun _ => rfl
  unfold kw
  rw [kb_at key (j := 4 * i) (by omega), kb_at key (j := 4 * i + 1) (by omega), kb_at key (j := 4 * i + 2) (by omega), kb_at key (j := 4 * i + 3) (by omega), if_neg (by omega), if_neg (by omega), if_neg (by omega), if_neg (by omega)]
  unfold kbNext
  simp only [h2]
  rw [if_neg (by omega), if_neg (by omega), if_neg (by omega), if_neg (by omega)]
  rw [show 4 * i - 16 = 4 * (i - 4) by omega, show 4 * i + 1 - 16 = 4 * (i - 4) + 1 by omega, show 4 * i + 2 - 16 = 4 * (i - 4) + 2 by omega, show 4 * i + 3 - 16 = 4 * (i - 4) + 3 by omega,
    show 4 * i - 4 = 4 * (i - 1) by omega, show 4 * i + 1 - 4 = 4 * (i - 1) + 1 by omega, show 4 * i + 2 - 4 = 4 * (i - 1) + 2 by omega, show 4 * i + 3 - 4 = 4 * (i - 1) + 3 by omega]

end Go.Proofs.YtanpfodmmeagaaaDoor
