/-
  The small functions of the layer pack: what each call answers. Conditions: what is said of each.
-/
import Derived.Test.YtbmgiekiildaaaaNums
import Derived.Test.YtbmgiekiildaaaaWords
import Derived.Test.YtbmgiekiildaaaaChecked
import Derived.Tactics
import Derived.Tactics2
import Derived.LoopTactic
import Derived.OpenShut
namespace Go.Proofs.Ytbmgiekiildaaaa
open Go.RowKit

/-- 'fits'. -/
theorem fits_any (n : Int) (s : Int) (w : World) (hn : 0 ≤ n ∧ n ≤ 18446744073709551615) (hs : 1 ≤ s ∧ s ≤ 8) :
    Calls Try.prog 38 #[.int .u64 n, .int .i64 s] w fun e w' => e = .returned (.bool (fitB n s)) ∧ w = w' := by
  go_enter Try.func38, Try.ntmps38
  go_wp2
  go_ret
  refine ⟨ret_bool ?_, rfl⟩
  obtain ⟨k, rfl⟩ : ∃ k : Nat, s = k := ⟨s.toNat, by omega⟩
  have e : ((8 : Int) * (k : Int)).toNat = 8 * k := by omega
  rw [e, pow_8]
  unfold fitB
  have hp := pow_pos k
  have hd : n / 256 ^ k = 0 ↔ n < 256 ^ k := by
    constructor
    · intro h
      have := Int.lt_ediv_add_one_mul_self n hp
      rw [h] at this
      omega
    · intro h; exact Int.ediv_eq_zero_of_lt hn.1 h
  rw [Int.toNat_natCast, Bool.eq_iff_iff]
  simp only [beq_iff_eq, decide_eq_true_eq]
  exact hd

/-- 'extent': all sizes are sound. -/
theorem extent_yes (A : Option Addr) (c B : Nat) (ss : List Int) (w : World) (hr : Ints w B .i64 A ss) (h : szs ss = true) :
    Calls Try.prog 37 #[.slice A ss.length c] w fun e w' => e = .returned (.tuple #[.int .i64 (total ss), .int .i64 0]) ∧ w = w' := by
  simp only [szs, Bool.and_eq_true, decide_eq_true_eq] at h
  obtain ⟨h1, h2⟩ := h
  have hh : ¬ (4096 < (ss.length : Int)) := by omega
  go_enter Try.func37, Try.ntmps37
  go_wp2
  go_loop [4, 12] (fun t i => ∃ k : Nat, k ≤ ss.length ∧ i = .int .i64 k ∧ t = .int .i64 (total (ss.take k))) (fun _ i => ss.length - (intOf i).toNat)
  case atStart => exact ⟨0, Nat.zero_le _, rfl, rfl⟩
  case round =>
    obtain ⟨k, hk, rfl, rfl⟩ := hrel
    by_cases hlt : k < ss.length
    · obtain ⟨b, off, rfl, _, hc⟩ := hr k hlt
      have hm : szOk (ss.getD k 0) = true := List.all_eq_true.1 h2 _ (getD_mem hlt)
      have hm2 : 1 ≤ ss.getD k 0 ∧ ss.getD k 0 ≤ 8 := by simpa only [szOk, decide_eq_true_eq] using hm
      have htk := take_snoc ss k hlt
      have htb := total_bd (ss.take k) (by rw [List.all_eq_true] at h2 ⊢; exact fun x hx => h2 x (List.mem_of_mem_take hx))
      have hln : (ss.take k).length = k := by simp; omega
      rw [hln] at htb
      have HT : Hid (total (ss.take (k + 1)) = total (ss.take k) + ss.getD k 0) := by rw [htk]; exact total_snoc _ _
      clear htk hln hm h2
      obtain ⟨x, hx⟩ : ∃ x, x = ss.getD k 0 := ⟨_, rfl⟩
      rw [← hx] at hc hm2 HT
      clear hx
      obtain ⟨hm3, hm4⟩ := hm2
      have hn1 : ¬ x < 1 := by omega
      have hn2 : ¬ 8 < x := by omega
      go_wp2
      go_round
      case rel => exact ⟨k + 1, by omega, by go_num, by rw [HT.out]⟩
      case measure => simp [intOf]; omega
    · have : k = ss.length := by omega
      subst this
      go_wp2
      go_ret2
      exact ⟨rfl, rfl⟩

/-- 'extent': too many sizes, or one that is not sound. -/
theorem extent_no (A : Option Addr) (c B : Nat) (ss : List Int) (w : World) (hr : Ints w B .i64 A ss) (h : szs ss = false) :
    Calls Try.prog 37 #[.slice A ss.length c] w fun e w' => e = .returned (.tuple #[.int .i64 0, .int .i64 1]) ∧ w = w' := by
  by_cases h4 : 4096 < ss.length
  · have hh : (4096 < (ss.length : Int)) := by omega
    go_enter Try.func37, Try.ntmps37
    go_wp2
    go_ret2
    exact ⟨rfl, rfl⟩
  · have hh : ¬ (4096 < (ss.length : Int)) := by omega
    have h2 : ss.all szOk = false := by
      unfold szs at h
      rw [decide_eq_true (by omega : ss.length ≤ 4096)] at h
      simpa using h
    have hb64 : ss.length ≤ 4096 := by omega
    clear h h4
    have H2 := Lib.hid h2
    clear h2
    go_enter Try.func37, Try.ntmps37
    go_wp2
    go_loop [4, 12] (fun t i => ∃ k : Nat, k ≤ ss.length ∧ i = .int .i64 k ∧ t = .int .i64 (total (ss.take k)) ∧ (ss.take k).all szOk = true) (fun _ i => ss.length - (intOf i).toNat)
    case atStart => exact ⟨0, Nat.zero_le _, rfl, rfl, rfl⟩
    case round =>
      obtain ⟨k, hk, rfl, rfl, hall⟩ := hrel
      by_cases hlt : k < ss.length
      · obtain ⟨b, off, rfl, _, hc⟩ := hr k hlt
        have htb := total_bd (ss.take k) hall
        have hln : (ss.take k).length = k := by simp; omega
        rw [hln] at htb
        have HT : Hid (total (ss.take (k + 1)) = total (ss.take k) + ss.getD k 0) := by rw [take_snoc ss k hlt]; exact total_snoc _ _
        have HA : Hid (szOk (ss.getD k 0) = true → (ss.take (k + 1)).all szOk = true) := fun hz => by
          rw [take_snoc ss k hlt, List.all_append, hall, List.all_cons, hz]; rfl
        clear hln hall
        obtain ⟨x, hx⟩ : ∃ x, x = ss.getD k 0 := ⟨_, rfl⟩
        rw [← hx] at hc HT HA
        clear hx
        by_cases ho : 1 ≤ x ∧ x ≤ 8
        · obtain ⟨hm3, hm4⟩ := ho
          have hn1 : ¬ x < 1 := by omega
          have hn2 : ¬ 8 < x := by omega
          go_wp2
          go_round
          case rel => exact ⟨k + 1, by omega, by go_num, by rw [HT.out], HA.out (by simp only [szOk, decide_eq_true_eq]; omega)⟩
          case measure => simp [intOf]; omega
        · clear HT HA htb
          by_cases hn1 : x < 1
          · go_wp2
            go_ret2
            exact ⟨rfl, rfl⟩
          · have hn2 : 8 < x := by omega
            clear ho
            go_wp2
            go_ret2
            exact ⟨rfl, rfl⟩
      · have : k = ss.length := by omega
        subst this
        rw [List.take_length] at hall
        have := H2.out
        rw [hall] at this
        cases this

theorem or_byte (v x : Int) (hv : 0 ≤ v ∧ v < 72057594037927936) (hx : 0 ≤ x ∧ x ≤ 255) : bits .or .u64 (v * 256) x = v * 256 + x := by
  rw [u64_or _ _ (by omega) (by omega) (by omega) (by omega), nat_join 8 _ _ (by omega) (by omega)]
  omega

/-- 'number'. -/
theorem number_any (A : Option Addr) (c B : Nat) (zs : List Int) (w : World) (hr : Ints w B .u8 A zs) (hz : ∀ z ∈ zs, 0 ≤ z ∧ z ≤ 255) (h8 : zs.length ≤ 8) :
    Calls Try.prog 41 #[.slice A zs.length c] w fun e w' => e = .returned (.int .u64 (valOf zs)) ∧ w = w' := by
  have HZ := Lib.hid hz
  clear hz
  go_enter Try.func41, Try.ntmps41
  go_wp2
  go_loop [3, 8] (fun t i => ∃ k : Nat, k ≤ zs.length ∧ i = .int .i64 k ∧ t = .int .u64 (valOf (zs.take k))) (fun _ i => zs.length - (intOf i).toNat)
  case atStart => exact ⟨0, Nat.zero_le _, rfl, rfl⟩
  case round =>
    obtain ⟨k, hk, rfl, rfl⟩ := hrel
    by_cases hlt : k < zs.length
    · obtain ⟨b, off, rfl, _, hc⟩ := hr k hlt
      have hx := HZ.out _ (getD_mem hlt)
      have hv := valOf_bd (zs.take k) fun z hz => HZ.out z (List.mem_of_mem_take hz)
      have hln : (zs.take k).length = k := by simp; omega
      rw [hln] at hv
      have hp := pow_le7 k (by omega)
      have HT : Hid (valOf (zs.take (k + 1)) = valOf (zs.take k) * 256 + zs.getD k 0) := by rw [take_snoc zs k hlt]; exact valOf_snoc _ _
      obtain ⟨x, hx'⟩ : ∃ x, x = zs.getD k 0 := ⟨_, rfl⟩
      rw [← hx'] at hc HT hx
      obtain ⟨v, hv'⟩ : ∃ v, v = valOf (zs.take k) := ⟨_, rfl⟩
      rw [← hv'] at HT hv ⊢
      have hv1 : v < 72057594037927936 := by omega
      clear hx' hv' hln hp
      obtain ⟨hv0, _⟩ := hv
      obtain ⟨hx0, hx1⟩ := hx
      go_wp2
      go_round
      case rel => exact ⟨k + 1, by omega, by go_num, by rw [HT.out, or_byte v x ⟨hv0, hv1⟩ ⟨hx0, hx1⟩]⟩
      case measure => simp [intOf]; omega
    · have : k = zs.length := by omega
      subst this
      go_wp2
      go_ret
      exact ⟨rfl, rfl⟩

theorem Try.infoU8 : (Try.prog.info? 5).map (fun i => (i.zero, i.size, i.bytes)) = some (some (.int .u8 0), 1, 1) := by kernel_rfl

set_option maxRecDepth 20000 in
/-- 'add'. -/
theorem add_any (base : Nat) (v : Value) (xs : List Int) (n : Int) (s : Nat) (w : World) (hown : w.ownsRow base 5 1 v xs.length (xs.map (Value.int .u8))) (hb : base ≤ w.heap.size)
    (hs : 1 ≤ s ∧ s ≤ 8) (hx : xs.length ≤ 1000000) :
    Calls Try.prog 39 #[v, .int .u64 n, .int .i64 s] w fun e w' =>
      ∃ v', e = .returned v' ∧ w'.ownsRow base 5 1 v' (xs ++ bytesOf n s).length ((xs ++ bytesOf n s).map (Value.int .u8)) ∧ Below base w w' := by
  obtain ⟨i0, hi, hz0, hz1, hz2⟩ := info_parts Try.infoU8
  go_enter Try.func39, Try.ntmps39
  go_wp2
  go_loopw [0, 7] (fun v i wr => ∃ k : Nat, k ≤ s ∧ i = .int .i64 (8 * ((s : Int) - 1 - k)) ∧ wr.ownsRow base 5 1 v (xs ++ bytesTo n s k).length ((xs ++ bytesTo n s k).map (Value.int .u8)) ∧ Below base w wr)
    (fun _ i _ => (intOf i + 8).toNat)
  case atStart => exact ⟨0, Nat.zero_le _, by go_num, by simpa [bytesTo_zero] using hown, Below.refl _ _⟩
  case round =>
    obtain ⟨k, hk, rfl, hownr, hbel⟩ := hrel
    by_cases hlt : k < s
    · obtain ⟨sh, hsh⟩ : ∃ sh : Int, sh = 8 * ((s : Int) - 1 - k) := ⟨_, rfl⟩
      rw [← hsh]
      have hsh0 : 0 ≤ sh := by omega
      have hsh1 : sh ≤ 56 := by omega
      have HS := Lib.hid hsh
      clear hsh
      have hln : (xs ++ bytesTo n s k).length ≤ 1000008 := by rw [List.length_append, bytesTo_len]; omega
      obtain ⟨ys, hys⟩ : ∃ ys, ys = xs ++ bytesTo n s k := ⟨_, rfl⟩
      rw [← hys] at hln hownr
      have HY := Lib.hid hys
      clear hys
      go_wp2_with (at_builtin; refine wpList_append_own_at _ rfl _ _ 24 rfl base 5 i0 (.int .u8 0) 1 1 Try.underlying24 hi hz0 hz1 hz2 rfl (by decide) _ _ _ rfl (hownr.alloc _) ⟨wr.heap.size, 0, none⟩ 1 1 [_] rfl rfl (cell_one_new _ _ _) ?c2 ?c3 ?c4 ?c5 ?_)
      case c2 => intro u hu; simp at hu; subst hu; rfl
      case c3 => unfold maxLen; omega
      case c4 => omega
      case c5 => have := hbel.size; simp; omega
      intro v1 w1 hown1 hgrow _ _
      have R : w1.ownsRow base 5 1 v1 (xs ++ bytesTo n s (k + 1)).length ((xs ++ bytesTo n s (k + 1)).map (Value.int .u8)) ∧ Below base w w1 := by
        have e1 : xs ++ bytesTo n s (k + 1) = ys ++ [n / 2 ^ sh.toNat % 256] := by
          rw [bytesTo_succ, HY.out, List.append_assoc, HS.out, show (8 * ((s : Int) - 1 - k)).toNat = 8 * (s - 1 - k) by omega, pow_8]
        rw [e1, List.length_append, List.map_append]
        refine ⟨hown1, (hbel.alloc (Nat.le_trans hb hbel.size) _).grown hgrow (by have := hbel.size; simp; omega) fun q hq => ?_⟩
        exact (hownr.lt q hq).1
      clear hown1 hgrow hownr hbel
      go_wp2
      go_roundw
      case rel => exact ⟨k + 1, by omega, by have := HS.out; go_num, R.1, R.2⟩
      case measure => have := HS.out; simp [intOf]; omega
    · have : k = s := by omega
      subst this
      go_wp2
      go_ret
      exact ⟨_, rfl, hownr, hbel⟩

end Go.Proofs.Ytbmgiekiildaaaa
