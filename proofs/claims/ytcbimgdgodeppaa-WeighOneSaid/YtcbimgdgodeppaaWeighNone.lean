/-
  WeighNone, from what is asked of weigh's calls.
-/
import Derived.Test.YtcbimgdgodeppaaWeighSpec
namespace Go.Proofs.Ytcbimgdgodeppaa
open Go.RowKit

def nanB : Nat := 9221120237041090561
theorem from_nan (w : World) : (callFunc 20 #[.int .u64 9221120237041090561]).run Try.prog w = .ok (.value (.float .f64 9221120237041090561)) w := callFrom 9221120237041090561 w
theorem from_inf (w : World) : (callFunc 20 #[.int .u64 18442240474082181120]).run Try.prog w = .ok (.value (.float .f64 18442240474082181120)) w := callFrom 18442240474082181120 w
theorem from_neg (w : World) : (callFunc 20 #[.int .u64 9223372036854775808]).run Try.prog w = .ok (.value (.float .f64 9223372036854775808)) w := callFrom 9223372036854775808 w
theorem bits_zero (w : World) : (callFunc 31 #[.float .f64 0]).run Try.prog w = .ok (.value (.int .u64 0)) w := callBits 0 w
theorem bits_one (w : World) : (callFunc 31 #[.float .f64 13830554455654793216]).run Try.prog w = .ok (.value (.int .u64 13830554455654793216)) w := callBits 13830554455654793216 w
theorem neg_bits : bits BinOp.or IntKind.u64 (bits BinOp.andNot IntKind.u64 0 9223372036854775808) (bits BinOp.and IntKind.u64 13830554455654793216 9223372036854775808) = 9223372036854775808 := by decide +kernel
theorem from_sum (w : World) : (callFunc 20 #[.int .u64 (bits BinOp.or IntKind.u64 (bits BinOp.andNot IntKind.u64 0 9223372036854775808) (bits BinOp.and IntKind.u64 13830554455654793216 9223372036854775808))]).run Try.prog w = .ok (.value (.float .f64 9223372036854775808)) w := by rw [neg_bits]; exact from_neg w
theorem mathNaN (w : World) : Calls Try.prog 17 #[] w fun e w' => e = .returned (.float .f64 9221120237041090561) ∧ w = w' := by
  have hcb := from_nan
  go_enter Try.func17, Try.ntmps17
  go_wp2
  go_ret
  exact ⟨rfl, rfl⟩
theorem mathInf (w : World) : Calls Try.prog 18 #[.int .i64 (-1)] w fun e w' => e = .returned (.float .f64 18442240474082181120) ∧ w = w' := by
  have hcb := from_inf
  go_enter Try.func18, Try.ntmps18
  go_wp2
  go_ret
  exact ⟨rfl, rfl⟩
theorem mathCopysign (w : World) : Calls Try.prog 19 #[.float .f64 0, .float .f64 13830554455654793216] w fun e w' => e = .returned (.float .f64 9223372036854775808) ∧ w = w' := by
  have hcb := from_sum
  have hc1 := bits_zero
  have hc2 := bits_one
  go_enter Try.func19, Try.ntmps19
  go_wp2
  go_ret
  exact ⟨rfl, rfl⟩

def noneAt (i : Nat) : Nat := [9221120237041090561, 18442240474082181120, 9223372036854775808, 0, 13830554455654793216].getD (i % 5) 0
def noneL (n : Nat) : List Nat := (List.range n).map noneAt
theorem none_pos (i : Nat) : posN (noneAt i) = false ∧ infN (noneAt i) = false := by
  have h : i % 5 = 0 ∨ i % 5 = 1 ∨ i % 5 = 2 ∨ i % 5 = 3 ∨ i % 5 = 4 := by omega
  unfold noneAt
  rcases h with h | h | h | h | h <;> rw [h] <;> decide
theorem none_at (k : Nat) : ([Value.float .f64 9221120237041090561, Value.float .f64 18442240474082181120, Value.float .f64 9223372036854775808, Value.float .f64 0, Value.float .f64 13830554455654793216] : List Value)[k % 5]? = some (.float .f64 (noneAt k)) := by
  have h : k % 5 = 0 ∨ k % 5 = 1 ∨ k % 5 = 2 ∨ k % 5 = 3 ∨ k % 5 = 4 := by omega
  unfold noneAt
  rcases h with h | h | h | h | h <;> rw [h] <;> rfl
theorem noneL_len (n : Nat) : (noneL n).length = n := by simp [noneL]
theorem noneL_snoc (n : Nat) : noneL (n + 1) = noneL n ++ [noneAt n] := by simp [noneL, List.range_succ]
theorem noneL_lt (n : Nat) : ∀ b ∈ noneL n, b < 18446744073709551616 := by
  intro b hb
  obtain ⟨i, _, rfl⟩ := List.mem_map.1 hb
  have h : i % 5 = 0 ∨ i % 5 = 1 ∨ i % 5 = 2 ∨ i % 5 = 3 ∨ i % 5 = 4 := by omega
  unfold noneAt
  rcases h with h | h | h | h | h <;> rw [h] <;> decide
theorem sumF_zero {f : Nat → Int} : ∀ n, (∀ i, i < n → f i = 0) → sumF f n = 0 := fun n h => by
  have h1 := sumF_le (f := f) (g := fun _ => 0) n (fun i hi => by rw [h i hi]; exact Int.le_refl _)
  have h2 := sumF_nonneg (f := f) n (fun i hi => by rw [h i hi]; exact Int.le_refl _)
  have h3 : ∀ n, sumF (fun _ => (0 : Int)) n = 0 := fun n => by
    have := sumF_mul 0 (fun _ => 0) n
    simpa using this
  rw [h3] at h1; omega
theorem none_all (n : Nat) : allN (unitsN (noneL n)) = 0 := by
  unfold allN
  refine sumF_zero _ fun i hi => ?_
  rw [unitsN_len] at hi
  have : (unitsN (noneL n)).getD i 0 = 0 := by
    unfold unitsN
    rw [List.getD_eq_getElem?_getD, List.getElem?_map, List.getElem?_eq_getElem hi]
    have hm := List.getElem_mem hi
    obtain ⟨j, _, hj⟩ := List.mem_map.1 hm
    show unitN _ _ _ = 0
    rw [← hj]
    exact unit_none (none_pos j).1
  rw [this]; rfl

theorem shareR_none (total : Int) (n : Nat) (hn : n ≤ 255) : (shareR total (noneL n)).1 = if total < 0 ∨ total > 1048576 ∨ n = 0 then 1 else 4 := by
  unfold shareR
  rw [noneL_len, none_all]
  by_cases h : total < 0 ∨ total > 1048576 ∨ n = 0
  · rw [if_pos (by omega), if_pos h]
  · rw [if_neg (by omega), if_neg h]; rfl

set_option maxHeartbeats 800000 in
set_option maxRecDepth 20000 in
/-- WeighNone. -/
theorem weighNone_go (total : Int) (n : Nat) (w : World) (HS : WeighSpec w) (ht : -9223372036854775808 ≤ total ∧ total ≤ 9223372036854775807) (hn : n ≤ 255) :
    Calls Try.prog 7 #[.int .i64 total, .int .u8 n] w fun e w' => e = .returned (.bool true) ∧ Below w.heap.size w w' := by
  obtain ⟨i0, hif, hz0, hz1, hz2⟩ := info_parts Try.infoF64w
  have HA := Lib.hid (weighAwake HS)
  have HU := Lib.hid (fun (W : World) (A' : Option Addr) (c' : Nat) (hw : Below w.heap.size w W) (hf : Flts W W.heap.size A' (noneL n)) (hc : (noneL n).length ≤ c') => HS.share total A' c' (noneL n) W hw ht hf (noneL_lt n) hc (by rw [noneL_len]; omega))
  have HN := Lib.hid mathNaN
  have HI := Lib.hid mathInf
  have HC := Lib.hid mathCopysign
  go_enter Try.func7, Try.ntmps7
  go_wp2
  go_loopw [5, 6] (fun v i wr => ∃ k : Nat, k ≤ n ∧ i = .int .i64 k ∧ (∃ A c, v = .slice A k c) ∧ wr.ownsRow w.heap.size 35 1 v k ((noneL k).map (Value.float .f64)) ∧ Below w.heap.size w wr) (fun _ i _ => n - (intOf i).toNat)
  case atStart => exact ⟨0, Nat.zero_le _, rfl, ⟨_, _, rfl⟩, World.ownsRow_made w #[] 0 (Nat.le_refl _) (Nat.zero_le _) rfl, (Below.refl _ _).alloc (Nat.le_refl _) _⟩
  case round =>
    obtain ⟨k, hk, rfl, ⟨A1, c1, rfl⟩, hown, hbel⟩ := hrel
    by_cases hlt : k < n
    · have k1 : (k : Int) < (n : Int) := by omega
      have k0 : (0 : Int) ≤ (k : Int) := by omega
      have ht := noneL_snoc k
      have hL := none_at k
      obtain ⟨x, hx⟩ : ∃ x, x = noneAt k := ⟨_, rfl⟩
      rw [← hx] at hL ht
      have HT := Lib.hid ht
      clear ht hx
      go_wp2_with (first
        | (at_builtin; refine wpList_append_own_at _ rfl _ _ 23 rfl w.heap.size 35 i0 (.float .f64 0) 1 8 Try.underlying23 hif hz0 hz1 hz2 rfl (by decide) _ _ _ rfl ((hown.alloc _).alloc _) ⟨wr.heap.size + 1, 0, none⟩ 1 1 [.float .f64 x] rfl rfl ?d0 ?d1 ?d2 ?d3 ?d4 ?_)
        | (go_at_call 17; with_reducible (refine Calls.mono (HN.out _) ?_); rintro e w1 ⟨rfl, rfl⟩)
        | (go_at_call 18; with_reducible (refine Calls.mono (HI.out _) ?_); rintro e w1 ⟨rfl, rfl⟩)
        | (go_at_call 19; with_reducible (refine Calls.mono (HC.out _) ?_); rintro e w1 ⟨rfl, rfl⟩))
      case d0 =>
        have h := cell_one_new (wr.alloc (.cells #[.float .f64 9221120237041090561, .float .f64 18442240474082181120, .float .f64 9223372036854775808, .float .f64 0, .float .f64 13830554455654793216] 35)) (.float .f64 x) 35
        simp only [World.size_alloc] at h
        exact h
      case d1 => intro u hu; simp at hu; subst hu; rfl
      case d2 => unfold maxLen; omega
      case d3 => omega
      case d4 => have := hbel.size; simp; omega
      intro v3 w3 hown3 hg3 _ _
      have R : w3.ownsRow w.heap.size 35 1 v3 (k + 1) ((noneL (k + 1)).map (Value.float .f64)) ∧ Below w.heap.size w w3 := by
        refine ⟨?_, ((hbel.alloc hbel.size _).alloc (by have := hbel.size; simp; omega) _).grown hg3 (by have := hbel.size; simp; omega) fun q hq => (hown.lt q hq).1⟩
        rw [HT.out, List.map_append]
        exact hown3
      obtain ⟨A3, q3, hv3⟩ := own_slice R.1
      subst hv3
      clear hown3 hg3 hown hbel hL
      go_wp2
      go_roundw
      case rel => first | exact ⟨k + 1, by omega, by go_num, ⟨A3, q3, rfl⟩, R.1, R.2⟩ | ((repeat apply Exists.intro); exact ⟨⟨k + 1, by omega, by go_num, ⟨A3, q3, rfl⟩, R.1, R.2⟩, rfl⟩)
      case measure => simp [intOf]; omega
    · have hk8 : k = n := by omega
      subst hk8
      have HO := Lib.hid (And.intro (own_le hown) (flts_of_own hown))
      have HR := Lib.hid (shareR_none total k hn)
      clear hown
      obtain ⟨E, hE⟩ : ∃ E, E = (shareR total (noneL k)).1 := ⟨_, rfl⟩
      obtain ⟨L, hL⟩ : ∃ E, E = (shareR total (noneL k)).2 := ⟨_, rfl⟩
      simp only [← hE, ← hL, noneL_len] at HU HR
      clear hE hL HS ht hlt
      have k0 : (0 : Int) ≤ (k : Int) := by omega
      by_cases hk0 : k = 0
      · subst hk0
        obtain rfl : E = 1 := by rw [HR.out]; first | exact if_pos (by omega) | exact if_neg (by omega)
        clear HR hk
        go_wp2_with (first
          | (go_at_call 15; with_reducible (refine Calls.mono (HU.out _ _ _ hbel HO.out.2 HO.out.1) ?_); rintro e w3 ⟨A3, c3, rfl, _, _, hb3⟩; have hbx := chain hbel hb3)
          | (go_at_call 11; with_reducible (refine Calls.mono (HA.out _ hbx) ?_); rintro e w4 ⟨rfl, hb4⟩; replace hbx := chain hbx hb4))
        go_ret
        exact ⟨rfl, hbx⟩
      · by_cases ht0 : total < 0
        · have b1 : ((k : Int) == 0) = false := by rw [beq_eq_false_iff_ne]; omega
          obtain rfl : E = 1 := by rw [HR.out]; first | exact if_pos (by omega) | exact if_neg (by omega)
          clear HR hk
          go_wp2_with (first
            | (go_at_call 15; with_reducible (refine Calls.mono (HU.out _ _ _ hbel HO.out.2 HO.out.1) ?_); rintro e w3 ⟨A3, c3, rfl, _, _, hb3⟩; have hbx := chain hbel hb3)
            | (go_at_call 11; with_reducible (refine Calls.mono (HA.out _ hbx) ?_); rintro e w4 ⟨rfl, hb4⟩; replace hbx := chain hbx hb4))
          go_ret
          exact ⟨rfl, hbx⟩
        · by_cases ht1 : total > 1048576
          · have b1 : ((k : Int) == 0) = false := by rw [beq_eq_false_iff_ne]; omega
            have t0 : 0 ≤ total := by omega
            have t1 : 1048576 < total := by omega
            obtain rfl : E = 1 := by rw [HR.out]; first | exact if_pos (by omega) | exact if_neg (by omega)
            clear HR hk
            go_wp2_with (first
              | (go_at_call 15; with_reducible (refine Calls.mono (HU.out _ _ _ hbel HO.out.2 HO.out.1) ?_); rintro e w3 ⟨A3, c3, rfl, _, _, hb3⟩; have hbx := chain hbel hb3)
              | (go_at_call 11; with_reducible (refine Calls.mono (HA.out _ hbx) ?_); rintro e w4 ⟨rfl, hb4⟩; replace hbx := chain hbx hb4))
            go_ret
            exact ⟨rfl, hbx⟩
          · have b1 : ((k : Int) == 0) = false := by rw [beq_eq_false_iff_ne]; omega
            have t0 : 0 ≤ total := by omega
            have t1 : total ≤ 1048576 := by omega
            obtain rfl : E = 4 := by rw [HR.out]; first | exact if_pos (by omega) | exact if_neg (by omega)
            clear HR hk
            go_wp2_with (first
              | (go_at_call 15; with_reducible (refine Calls.mono (HU.out _ _ _ hbel HO.out.2 HO.out.1) ?_); rintro e w3 ⟨A3, c3, rfl, _, _, hb3⟩; have hbx := chain hbel hb3)
              | (go_at_call 11; with_reducible (refine Calls.mono (HA.out _ hbx) ?_); rintro e w4 ⟨rfl, hb4⟩; replace hbx := chain hbx hb4))
            go_ret
            exact ⟨rfl, hbx⟩
end Go.Proofs.Ytcbimgdgodeppaa
