/-
  WeighTurns, from what is asked of weigh's calls.
-/
import Derived.Test.YtcbimgdgodeppaaWeighSpec
import Derived.Test.YtcbimgdgodeppaaWeighFacts
namespace Go.Proofs.Ytcbimgdgodeppaa
open Go.RowKit

set_option maxHeartbeats 800000 in
set_option maxRecDepth 20000 in
/-- WeighTurns. -/
theorem weighTurns_go (A : Option Addr) (c : Nat) (bs : List Nat) (n : Nat) (w : World) (HS : WeighSpec w) (h : Ints w w.heap.size .u64 A (up bs)) (hlt : ∀ b ∈ bs, b < 18446744073709551616) (hn : n ≤ 255) :
    Calls Try.prog 8 #[.slice A bs.length c, .int .u8 n] w fun e w' => e = .returned (.bool true) ∧ Below w.heap.size w w' := by
  obtain ⟨i0, hif, hz0, hz1, hz2⟩ := info_parts Try.infoF64w
  have HA := Lib.hid (weighAwake HS)
  have HF := Lib.hid (floats_any A c bs w h)
  have htl := take_lt hlt 200
  have hl2 := take_len bs
  have HU := Lib.hid (fun (W : World) (l : List Nat) (A' : Option Addr) (c' : Nat) (hl : l.length = (bs.take 200).length ∧ ∀ b ∈ l, b ∈ bs.take 200) (hw : Below w.heap.size w W) (hf : Flts W W.heap.size A' l) (hc : l.length ≤ c') => HS.units A' c' l W hw hf (fun b hb => htl b (hl.2 b hb)) hc (by omega))
  obtain ⟨l, hl⟩ : ∃ l, l = bs.take 200 := ⟨_, rfl⟩
  simp only [← hl] at HF HU hl2
  have HU1 := Lib.hid (fun (W : World) (A' : Option Addr) (c' : Nat) => HU.out W l A' c' ⟨rfl, fun _ h => h⟩)
  have HU2 := Lib.hid (fun (W : World) (A' : Option Addr) (c' : Nat) => HU.out W (turnL l n) A' c' ⟨turnL_len l n, fun b hb => (turn_mem l n b).2 hb⟩)
  rw [turnL_len] at HU2
  clear hl h htl hlt HS HU
  go_enter Try.func8, Try.ntmps8
  go_wp2_with (first
    | (go_at_call 10; with_reducible (refine Calls.mono HF.out ?_); rintro e w1 ⟨A1, c1, rfl, hc1, hf1, hbx⟩))
  have HF1 := Lib.hid hf1
  have HB1 := Lib.hid hbx
  have HC1 := Lib.hid hc1
  clear hf1 hbx hc1
  go_loopw [6, 7] (fun v i wr => ∃ k : Nat, k ≤ l.length ∧ i = .int .i64 k ∧ (∃ A c, v = .slice A k c) ∧ wr.ownsRow w1.heap.size 35 1 v k (((turnL l n).take k).map (Value.float .f64)) ∧ Below w1.heap.size w1 wr) (fun _ i _ => l.length - (intOf i).toNat)
  case atStart => exact ⟨0, Nat.zero_le _, rfl, ⟨_, _, rfl⟩, World.ownsRow_made w1 #[] 0 (Nat.le_refl _) (Nat.zero_le _) rfl, (Below.refl _ _).alloc (Nat.le_refl _) _⟩
  case round =>
    obtain ⟨k, hk, rfl, ⟨A2, c2, rfl⟩, hown, hbel⟩ := hrel
    by_cases hlt : k < l.length
    · have hj1 : (k + n) % l.length < l.length := Nat.mod_lt _ (by omega)
      have ht := take_snocN (turnL l n) (k := k) (by rw [turnL_len]; exact hlt)
      rw [turnL_at l n hlt] at ht
      obtain ⟨b1, off, e1, _, hc⟩ := (HF1.out.below hbel) _ hj1
      obtain ⟨x, hx⟩ : ∃ x, x = l.getD ((k + n) % l.length) 0 := ⟨_, rfl⟩
      rw [← hx] at hc ht
      have k1 : (k : Int) < (l.length : Int) := by omega
      have k0 : (0 : Int) ≤ (k : Int) := by omega
      have L0 : (l.length : Int) ≠ 0 := by omega
      have r0 : (0 : Int) ≤ ((k : Int) + (n : Int)) % (l.length : Int) := Int.emod_nonneg _ L0
      have r1 : ((k : Int) + (n : Int)) % (l.length : Int) < (l.length : Int) := Int.emod_lt_of_pos _ (by omega)
      have HT := Lib.hid ht
      subst e1
      clear hx ht
      go_wp2_with (at_builtin; refine wpList_append_own_at _ rfl _ _ 23 rfl w1.heap.size 35 i0 (.float .f64 0) 1 8 Try.underlying23 hif hz0 hz1 hz2 rfl (by decide) _ _ _ rfl (hown.alloc _) ⟨wr.heap.size, 0, none⟩ 1 1 [.float .f64 x] rfl rfl (cell_one_new _ _ _) ?d1 ?d2 ?d3 ?d4 ?_)
      case d1 => intro u hu; simp at hu; subst hu; rfl
      case d2 => unfold maxLen; omega
      case d3 => omega
      case d4 => have := hbel.size; simp; omega
      intro v3 w3 hown3 hg3 _ _
      have R : w3.ownsRow w1.heap.size 35 1 v3 (k + 1) (((turnL l n).take (k + 1)).map (Value.float .f64)) ∧ Below w1.heap.size w1 w3 := by
        refine ⟨?_, (hbel.alloc hbel.size _).grown hg3 (by have := hbel.size; simp; omega) fun q hq => (hown.lt q hq).1⟩
        rw [HT.out, List.map_append, List.map_take]
        exact hown3
      obtain ⟨A3, q3, hv3⟩ := own_slice R.1
      subst hv3
      clear hown3 hg3 hown hbel hc hj1 r0 r1
      go_wp2
      go_roundw
      case rel => first | exact ⟨k + 1, by omega, by go_num, ⟨A3, q3, rfl⟩, R.1, R.2⟩ | ((repeat apply Exists.intro); exact ⟨⟨k + 1, by omega, by go_num, ⟨A3, q3, rfl⟩, R.1, R.2⟩, rfl⟩)
      case measure => simp [intOf]; omega
    · have hk8 : k = l.length := by omega
      subst hk8
      rw [List.take_of_length_le (Nat.le_of_eq (turnL_len l n))] at hown
      have HO := Lib.hid (And.intro (own_le hown) (flts_of_own hown))
      have HB := Lib.hid hbel
      have hbw := chain HB1.out HB.out
      have hfw := (HF1.out.below HB.out).more HB.out.size
      clear hown hbel hk
      go_wp2_with (first
        | (go_at_call 13; with_reducible (refine Calls.mono (HU1.out _ _ _ hbw hfw HC1.out) ?_); rintro e w3 ⟨A5, c5, rfl, hc5, hi5, hb5⟩; have hft := (HO.out.2.below hb5).more hb5.size; have hbx := chain hbw hb5)
        | (go_at_call 13; with_reducible (refine Calls.mono (HU2.out _ _ _ hbx hft HO.out.1) ?_); rintro e w4 ⟨A6, c6, rfl, hc6, hi6, hb6⟩; have hi5b := (hi5.below hb6).more hb6.size; replace hbx := chain hbx hb6)
        | (go_at_call 11; with_reducible (refine Calls.mono (HA.out _ hbx) ?_); rintro e w5 ⟨rfl, hb7⟩; have hi5c := (hi5b.below hb7).more hb7.size; have hi6b := (hi6.below hb7).more hb7.size; replace hbx := chain hbx hb7))
      have HC : Hid (∀ m i, i < l.length → ∃ b0 o0 b1 o1, A6 = some ⟨b0, o0, none⟩ ∧ A5 = some ⟨b1, o1, none⟩ ∧ (w5.drewN m).cell? ⟨b0, o0 + i, none⟩ = some (.int .i64 ((unitsN l).getD ((i + n) % l.length) 0 : Nat)) ∧ (w5.drewN m).cell? ⟨b1, o1 + (i + n) % l.length, none⟩ = some (.int .i64 ((unitsN l).getD ((i + n) % l.length) 0 : Nat))) := fun m i hi => by
        obtain ⟨b0, o0, e0, _, q0⟩ := hi6b i (by rw [up_len, unitsN_len, turnL_len]; exact hi)
        obtain ⟨b1, o1, e1, _, q1⟩ := hi5c ((i + n) % l.length) (by rw [up_len, unitsN_len]; exact Nat.mod_lt _ (by omega))
        rw [up_getD, turn_units l n hi] at q0
        rw [up_getD] at q1
        exact ⟨b0, o0, b1, o1, e0, e1, q0, q1⟩
      have HBX := Lib.hid hbx
      clear hi5 hi6 hi5b hi5c hi6b hft hfw hbw hbx hb5 hb6 hb7
      go_loopw [10] (fun i wr => ∃ k m : Nat, k ≤ l.length ∧ i = .int .i64 k ∧ wr = w5.drewN m) (fun i _ => l.length - (intOf i).toNat)
      case atStart => exact ⟨0, 0, Nat.zero_le _, rfl, rfl⟩
      case round =>
        obtain ⟨k, m, hk, rfl, hwm⟩ := hrel
        by_cases hlt : k < l.length
        · obtain ⟨b0, o0, b1, o1, e5, e6, q0, q1⟩ := HC.out m k hlt
          subst e5 e6
          rw [← hwm] at q0 q1
          have HWM := Lib.hid hwm
          clear hwm
          obtain ⟨x, hx⟩ : ∃ x : Int, x = ((unitsN l).getD ((k + n) % l.length) 0 : Nat) := ⟨_, rfl⟩
          rw [← hx] at q0 q1
          have k1 : (k : Int) < (l.length : Int) := by omega
          have k0 : (0 : Int) ≤ (k : Int) := by omega
          have L0 : (l.length : Int) ≠ 0 := by omega
          have r0 : (0 : Int) ≤ ((k : Int) + (n : Int)) % (l.length : Int) := Int.emod_nonneg _ L0
          have r1 : ((k : Int) + (n : Int)) % (l.length : Int) < (l.length : Int) := Int.emod_lt_of_pos _ (by omega)
          have e1 : (x == x) = true := beq_self_eq_true x
          clear hx
          go_wp2
          go_quiet (fail)
          go_wp2
          go_roundw
          case rel => first | exact ⟨k + 1, m + nq, by omega, by go_num, by rw [HWM.out, World.drewN_drewN]⟩ | ((repeat apply Exists.intro); exact ⟨⟨k + 1, m + nq, by omega, by go_num, by rw [HWM.out, World.drewN_drewN]⟩, rfl⟩)
          case measure => simp [intOf]; omega
        · have hk8 : k = l.length := by omega
          subst hk8
          have HWM := Lib.hid hwm
          clear hwm
          go_wp2
          go_ret
          exact ⟨rfl, by rw [HWM.out]; exact below_drewN HBX.out m⟩
end Go.Proofs.Ytcbimgdgodeppaa
