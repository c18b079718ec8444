/-
  The document's own: in, put, get, and the check sum (stowageref15, stowageref02).
-/
import Derived.Test.YtbfchclfonicmaaLineAsk
import Derived.Test.YtbfchclfonicmaaCrcRef
import Derived.BigQuiet
namespace Go.Proofs.Ytbfchclfonicmaa
open Go.RowKit

theorem Try.infoU8L : (Try.prog.info? 5).map (fun i => (i.zero, i.size, i.bytes)) = some (some (.int .u8 0), 1, 1) := by kernel_rfl

theorem pow_le6 (s : Nat) (h : s ≤ 6) : (256 : Int) ^ s ≤ 281474976710656 := by
  have : s = 0 ∨ s = 1 ∨ s = 2 ∨ s = 3 ∨ s = 4 ∨ s = 5 ∨ s = 6 := by omega
  rcases this with h | h | h | h | h | h | h <;> subst h <;> decide
set_option maxHeartbeats 800000 in
theorem refIn_any (n m : Int) (w : World) : Calls Try.prog 24 #[.int .i64 n, .int .i64 m] w fun e w' => e = .returned (.bool (inN n m)) ∧ w = w' := by
  unfold inN
  by_cases h0 : 0 ≤ n
  · by_cases h1 : n ≤ m
    · rw [decide_eq_true ⟨h0, h1⟩]
      have d0 : decide (0 ≤ n) = true := decide_eq_true h0
      have d1 : decide (n ≤ m) = true := decide_eq_true h1
      go_enter Try.func24, Try.ntmps24
      go_wp2
      go_ret
      exact ⟨rfl, rfl⟩
    · rw [decide_eq_false (by omega)]
      have d0 : decide (0 ≤ n) = true := decide_eq_true h0
      have d1 : decide (n ≤ m) = false := decide_eq_false h1
      go_enter Try.func24, Try.ntmps24
      go_wp2
      go_ret
      exact ⟨rfl, rfl⟩
  · rw [decide_eq_false (by omega)]
    have d0 : decide (0 ≤ n) = false := decide_eq_false h0
    go_enter Try.func24, Try.ntmps24
    go_wp2
    go_ret
    exact ⟨rfl, rfl⟩

set_option maxHeartbeats 1600000 in
set_option maxRecDepth 20000 in
/-- 'put'. -/
theorem refPut_any (base : Nat) (v : Value) (xs : List Int) (n : Int) (s : Nat) (w : World) (hown : w.ownsRow base 5 1 v xs.length (xs.map (Value.int .u8))) (hb : base ≤ w.heap.size) (hs : 1 ≤ s ∧ s ≤ 8) (hx : xs.length ≤ 1000000) (hn : 0 ≤ n ∧ n ≤ 9223372036854775807) :
    Calls Try.prog 25 #[v, .int .i64 n, .int .i64 s] w fun e w' =>
      ∃ v', e = .returned v' ∧ w'.ownsRow base 5 1 v' (xs ++ bytesOf n s).length ((xs ++ bytesOf n s).map (Value.int .u8)) ∧ Below base w w' := by
  obtain ⟨i0, hi, hz0, hz1, hz2⟩ := info_parts Try.infoU8L
  have hw : IntKind.u64.wrap n = n := IntWalk.u64_in _ (by omega)
  go_enter Try.func25, Try.ntmps25
  go_wp2
  go_loopw [0, 7] (fun v i wr => ∃ k : Nat, k ≤ s ∧ i = .int .i64 ((s : Int) - 1 - k) ∧ Hid (wr.ownsRow base 5 1 v (xs ++ bytesTo n s k).length ((xs ++ bytesTo n s k).map (Value.int .u8)) ∧ Below base w wr))
    (fun _ i _ => (intOf i + 1).toNat)
  case atStart => exact ⟨0, Nat.zero_le _, by go_num, by simpa [bytesTo_zero] using hown, Below.refl _ _⟩
  case round =>
    obtain ⟨k, hk, rfl, hr⟩ := hrel
    obtain ⟨hownr, hbel⟩ := hr.out
    clear hr
    by_cases hlt : k < s
    · obtain ⟨q, hq⟩ : ∃ q : Nat, q = s - 1 - k := ⟨_, rfl⟩
      have hq1 : (s : Int) - 1 - k = (q : Int) := by omega
      rw [hq1]
      have hq7 : q ≤ 7 := by omega
      have hln : (xs ++ bytesTo n s k).length ≤ 1000008 := by rw [List.length_append, bytesTo_len]; omega
      have hsh : ((n / 2 ^ (8 * q)) : Int) = n / 256 ^ q := by rw [pow_8]
      have e1 : xs ++ bytesTo n s (k + 1) = (xs ++ bytesTo n s k) ++ [n / 256 ^ q % 256] := by
        rw [bytesTo_succ, List.append_assoc, hq]
      obtain ⟨ys, hys⟩ : ∃ ys, ys = xs ++ bytesTo n s k := ⟨_, rfl⟩
      rw [← hys] at hln hownr e1
      have HY := Lib.hid hys
      have HE1 := Lib.hid e1
      have HQ := Lib.hid hq1
      have HSH := Lib.hid hsh
      clear hys e1 hq hq1 hsh
      go_wp2_with (at_builtin; refine wpList_append_own_at _ rfl _ _ 26 rfl base 5 i0 (.int .u8 0) 1 1 Try.underlying26 hi hz0 hz1 hz2 rfl (by decide) _ _ _ rfl (hownr.alloc _) ⟨wr.heap.size, 0, none⟩ 1 1 [_] rfl rfl (cell_one_new _ _ _) ?c2 ?c3 ?c4 ?c5 ?_)
      case c2 => intro u hu; simp at hu; subst hu; rfl
      case c3 => unfold maxLen; omega
      case c4 => omega
      case c5 => have := hbel.size; simp; omega
      intro v1 w1 hown1 hgrow _ _
      have R : Hid (w1.ownsRow base 5 1 v1 (xs ++ bytesTo n s (k + 1)).length ((xs ++ bytesTo n s (k + 1)).map (Value.int .u8)) ∧ Below base w w1) := by
        refine Lib.hid ?_
        rw [HE1.out, List.length_append, List.map_append, ← HSH.out]
        refine ⟨hown1, (hbel.alloc (Nat.le_trans hb hbel.size) _).grown hgrow (by have := hbel.size; simp; omega) fun q hq => ?_⟩
        exact (hownr.lt q hq).1
      clear hown1 hgrow hownr hbel
      go_wp2
      go_roundw
      case rel => exact ⟨k + 1, by omega, by have := HQ.out; go_num, R⟩
      case measure => have := HQ.out; first | (simp [intOf]; done) | (simp [intOf]; omega)
    · have hks : k = s := by omega
      have hneg : (s : Int) - 1 - k = -1 := by omega
      rw [hneg]
      rw [hks] at hownr
      have R := Lib.hid (And.intro hownr hbel)
      clear hownr hbel hks
      go_wp2
      go_ret
      exact ⟨_, rfl, R.out.1, R.out.2⟩

set_option maxHeartbeats 1600000 in
set_option maxRecDepth 20000 in
/-- 'get'. -/
theorem refGet_any (A : Option Addr) (c B : Nat) (zs : List Int) (w : World) (hr : Ints w B .u8 A zs) (hz : ∀ z ∈ zs, 0 ≤ z ∧ z ≤ 255) (h7 : zs.length ≤ 7) :
    Calls Try.prog 29 #[.slice A zs.length c] w fun e w' => e = .returned (.int .i64 (valOf zs)) ∧ w = w' := by
  have HR := Lib.hid hr
  have HV : Hid (∀ k, k < zs.length → valOf (zs.take (k + 1)) = valOf (zs.take k) * 256 + zs.getD k 0) := fun k hk => by rw [take_snoc zs k hk, valOf_snoc]
  have HB : Hid (∀ k, k < zs.length → 0 ≤ valOf (zs.take k) ∧ valOf (zs.take k) < 281474976710656) := fun k hk => by
    have h := valOf_bd (zs.take k) fun z hz' => hz z (List.mem_of_mem_take hz')
    have hl : (zs.take k).length ≤ 6 := by rw [List.length_take]; omega
    have := pow_le6 _ hl
    omega
  have HZ : Hid (∀ k, k < zs.length → 0 ≤ zs.getD k 0 ∧ zs.getD k 0 ≤ 255) := fun k hk => hz _ (getD_mem hk)
  have HT : Hid (valOf (zs.take zs.length) = valOf zs) := by unfold Hid; rw [List.take_length]
  have HT0 : Hid (valOf (zs.take 0) = 0) := rfl
  obtain ⟨N, hN⟩ : ∃ N, N = zs.length := ⟨_, rfl⟩
  simp only [← hN] at HV HB HZ HT h7
  rw [← hN]
  have HN := Lib.hid hN
  clear hr hz hN
  go_enter Try.func29, Try.ntmps29
  go_wp2
  go_loop [3, 4] (fun v i => ∃ k : Nat, k ≤ N ∧ i = .int .i64 k ∧ v = .int .i64 (valOf (zs.take k))) (fun _ i => N - (intOf i).toNat)
  case atStart => exact ⟨0, Nat.zero_le _, rfl, by rw [HT0.out]⟩
  case round =>
    obtain ⟨k, hk, rfl, rfl⟩ := hrel
    by_cases hlt : k < N
    · obtain ⟨b, off, rfl, _, hc⟩ := HR.out k (by have := HN.out; omega)
      have hv := HV.out k hlt
      have hbd := HB.out k hlt
      have hx := HZ.out k hlt
      obtain ⟨x, hx'⟩ : ∃ x, x = zs.getD k 0 := ⟨_, rfl⟩
      rw [← hx'] at hc hv hx
      obtain ⟨V, hV⟩ : ∃ V, V = valOf (zs.take k) := ⟨_, rfl⟩
      rw [← hV] at hv hbd ⊢
      have HVV := Lib.hid hv
      have k1 : (k : Int) < (N : Int) := by omega
      have k0 : (0 : Int) ≤ (k : Int) := by omega
      have w1 : IntKind.i64.wrap (V * 256) = V * 256 := IntWalk.i64_in _ (by omega)
      have w2 : IntKind.i64.wrap (V * 256 + x) = V * 256 + x := IntWalk.i64_in _ (by omega)
      have w3 : IntKind.i64.wrap x = x := IntWalk.i64_in _ (by omega)
      clear hx' hV hv
      go_wp2
      go_round
      case rel => exact ⟨k + 1, by omega, by go_num, by rw [HVV.out]⟩
      case measure => simp [intOf]; omega
    · have hkN : k = N := by omega
      subst hkN
      rw [HT.out]
      have k1 : ¬ (k : Int) < (k : Int) := by omega
      go_wp2
      go_ret
      exact ⟨rfl, rfl⟩

/-- 'Sum'. -/
theorem refSumL_any (A : Option Addr) (c B : Nat) (zs : List Int) (w : World) (hr : Ints w B .u8 A zs) (hz : ∀ z ∈ zs, 0 ≤ z ∧ z ≤ 255) (hm : zs.length ≤ 9223372036854775807) :
    Calls Try.prog 26 #[.slice A zs.length c] w fun e w' => e = .returned (.int .u32 (moreN 0 (nb zs) : Nat)) ∧ w = w' := by
  have HM := Lib.hid (refMore_any A c B zs 0 w hr hz hm (by decide))
  clear hz hr
  go_enter Try.func26, Try.ntmps26
  go_wp2_with (go_at_call 34; with_reducible (refine Calls.mono HM.out ?_); rintro e w' ⟨rfl, rfl⟩)
  go_ret
  exact ⟨rfl, rfl⟩

end Go.Proofs.Ytbfchclfonicmaa
