/-
  The law CrcFinds as a walk, from what is asked of the layer's functions. Conditions: those properties; what comes in is of its type.
-/
import Derived.Test.YtkikigpdcjkneaaCrcMore
import Derived.Test.YtkikigpdcjkneaaCrcBurst
namespace Go.Proofs.Ytkikigpdcjkneaa
open Go.RowKit

theorem Try.infoU8 : (Try.prog.info? 5).map (fun i => (i.zero, i.size, i.bytes)) = some (some (.int .u8 0), 1, 1) := by kernel_rfl

theorem crcFinds_no (HSum : SumSpec) (A : Option Addr) (c : Nat) (zs : List Int) (at_ t : Nat) (w : World) (h : zs.length < 4 ∨ t = 0) :
    Calls Try.prog 8 #[.slice A zs.length c, .int .u16 (at_ : Int), .int .u32 (t : Int)] w fun e w' => e = .returned (.bool true) ∧ Below w.heap.size w w' := by
  have HA := Lib.hid (crcAwake HSum)
  clear HSum
  by_cases h4 : zs.length < 4
  · have h5 : (zs.length : Int) < 4 := by omega
    clear h h4
    go_enter Try.func8, Try.ntmps8
    go_wp2_with (go_at_call 11; refine Calls.mono (HA.out _) ?_; rintro e w1 ⟨rfl, hb1⟩)
    go_ret
    exact ⟨rfl, by assumption⟩
  · have h5 : ¬ (zs.length : Int) < 4 := by omega
    have h6 : t = 0 := h.resolve_left h4
    subst h6
    clear h h4
    go_enter Try.func8, Try.ntmps8
    go_wp2_with (go_at_call 11; refine Calls.mono (HA.out _) ?_; rintro e w1 ⟨rfl, hb1⟩)
    go_ret
    exact ⟨rfl, by assumption⟩

theorem byteCast (t k : Nat) : (t : Int) / 2 ^ (8 * k) % 256 = ((t / 256 ^ k % 256 : Nat) : Int) := by
  rw [Int.natCast_emod, Int.natCast_ediv, Int.natCast_pow, Int.pow_mul]; rfl

set_option maxHeartbeats 1600000 in
set_option maxRecDepth 100000 in
theorem crcFinds_yes (HSum : SumSpec) (A : Option Addr) (c : Nat) (zs : List Int) (at_ t : Nat) (w : World) (hr : Ints w w.heap.size .u8 A zs) (hA : A = none → c = 0) (hz : ∀ z ∈ zs, 0 ≤ z ∧ z ≤ 255) (hc : zs.length ≤ c) (hm : zs.length ≤ 140737488351232)
    (h4 : 4 ≤ zs.length) (h0 : t ≠ 0) (ht : t < 2 ^ 32) (ha : at_ < 65536) :
    Calls Try.prog 8 #[.slice A zs.length c, .int .u16 (at_ : Int), .int .u32 (t : Int)] w fun e w' => e = .returned (.bool true) ∧ Below w.heap.size w w' := by
  obtain ⟨i0, hi, hz0, hz1, hz2⟩ := info_parts Try.infoU8
  have HA := Lib.hid (crcAwake HSum)
  have HAn := Lib.hid hA
  have hsum := fun i (h : i + 4 ≤ zs.length) => turned_sum zs i t hz h ht h0
  have HT := Lib.hid hsum
  have HZ := Lib.hid hz
  have H5 : ¬ (zs.length : Int) < 4 := by omega
  have H6 : ((t : Int) == 0) = false := by simpa using h0
  have ht1 : t ≤ 4294967295 := by omega
  have ht2 : (t : Int) ≤ 4294967295 := by omega
  obtain ⟨i, hi'⟩ : ∃ i : Nat, (i : Int) = (at_ : Int) % ((zs.length : Int) - 3) := ⟨((at_ : Int) % ((zs.length : Int) - 3)).toNat, by have := Int.emod_nonneg (at_ : Int) (show (zs.length : Int) - 3 ≠ 0 by omega); omega⟩
  have hi4 : i + 4 ≤ zs.length := by have := Int.emod_lt_of_pos (at_ : Int) (show 0 < (zs.length : Int) - 3 by omega); omega
  have hmod : (at_ : Int) % ((zs.length : Int) - 3) = (i : Int) := hi'.symm
  have HSm := Lib.hid HSum
  clear HSum hA hsum hz h0 ht hi' 
  go_enter Try.func8, Try.ntmps8
  go_wp2_with (at_builtin; refine wpList_append_ints _ rfl _ _ 23 rfl w.heap.size 5 i0 (.int .u8 0) 1 Try.underlying23 hi hz0 hz1 hz2 rfl .u8 _ [] zs w.heap.size c zs.length A rfl rfl rfl (World.ownsRow_made w #[] 0 (Nat.le_refl _) (Nat.zero_le _) rfl) (hr.alloc (Nat.le_refl _) _) HAn.out ?c1 ?c2 ?c3 ?_)
  case c1 => unfold maxLen; omega
  case c2 => omega
  intro v1 w1 hown1 hg1
  have hbel1 : Below w.heap.size w w1 := ((Below.refl _ _).alloc (Nat.le_refl _) _).grown hg1 (by simp) fun q hq => by simp [Value.ownBlock] at hq; omega
  obtain ⟨g, cap, hv, hg0, hgl⟩ := hown1.form (by omega)
  subst hv
  clear hg1
  go_wp2
  go_loopw [9] (fun j wr => ∃ k : Nat, k ≤ 4 ∧ j = .int .i64 k ∧ wr.ownsRow w.heap.size 5 1 (.slice (some ⟨g, 0, none⟩) zs.length cap) zs.length ((turned zs i t k).map (Value.int .u8)) ∧ Below w.heap.size w wr) (fun j _ => 4 - (intOf j).toNat)
  case atStart => exact ⟨0, by omega, rfl, by rw [turned_zero]; exact hown1, hbel1⟩
  case round =>
    obtain ⟨k, hk, rfl, hown, hbel⟩ := hrel
    clear hown1 hbel1
    by_cases hk4 : k < 4
    · have hik : i + k < zs.length := by omega
      have hcell := hown.cellAt (i + k) (by omega)
      have hfz := hown.frozenAt (i + k)
      rw [List.getElem?_map, List.getElem?_eq_getElem (by rw [turned_len]; exact hik), Option.map_some] at hcell
      have hy : (turned zs i t k)[i + k]'(by rw [turned_len]; exact hik) = zs.getD (i + k) 0 := by
        have := turned_at zs i t k hik
        rw [List.getD_eq_getElem?_getD, List.getElem?_eq_getElem (by rw [turned_len]; exact hik), Option.getD_some] at this
        exact this
      rw [hy] at hcell
      have hyb := HZ.out _ (getD_mem hik)
      have HS := Lib.hid (turned_succ zs i t k)
      obtain ⟨y, hy'⟩ : ∃ y : Nat, (y : Int) = zs.getD (i + k) 0 := ⟨(zs.getD (i + k) 0).toNat, by omega⟩
      rw [← hy'] at hcell hyb HS
      have e1 : ((i : Int) + (k : Int)).toNat = i + k := by omega
      have hq0 : (0 : Int) ≤ (i : Int) + (k : Int) := by omega
      have hq1 : (i : Int) + (k : Int) < (zs.length : Int) := by omega
      have hs0 : (0 : Int) ≤ 8 * (k : Int) := by omega
      have hs1 : 8 * (k : Int) ≤ 32 := by omega
      clear hy hy'
      go_wp2
      go_region
      all_goals
        go_wp2
        go_roundw
        case rel =>
          have ev : bits .xor .u8 (y : Int) ((t : Int) / 2 ^ (8 * k) % 256) = ((y ^^^ (t / 256 ^ k % 256) : Nat) : Int) := by
            rw [byteCast]; exact u8_xor_nat _ _ (by omega) (by omega)
          rw [ev]
          have hst := (hown.stored (i + k) (.int .u8 ((y ^^^ (t / 256 ^ k % 256) : Nat) : Int))).1
          rw [← List.map_set] at hst
          have hs' : (turned zs i t k).set (i + k) ((y ^^^ (t / 256 ^ k % 256) : Nat) : Int) = turned zs i t (k + 1) := HS.out
          rw [hs'] at hst
          exact ⟨k + 1, by omega, by go_num, hst, (hbel.setCell (p := ⟨g, i + k, none⟩) hg0 _).drew⟩
        case measure => simp [intOf]; omega
    · have hk' : k = 4 := by omega
      subst hk'
      have hres := Ints.of_own (A := some ⟨g, 0, none⟩) (c := cap) (n := zs.length) (zs := turned zs i t 4) (by rw [turned_len]; exact hown)
      have hlc := own_le hown
      have hne := HT.out i hi4
      have htm := turned_mem zs i t 4 HZ.out
      have H1 := fun w1 (hb : Below wr.heap.size wr w1) => HSm.out (some ⟨g, 0, none⟩) cap (turned zs i t 4) w1 ((hres.below hb).more hb.size) htm (by rw [turned_len]; exact hlc) (by rw [turned_len]; omega)
      have H2 := fun w1 (hb : Below w.heap.size w w1) => HSm.out A c zs w1 ((hr.below hb).more hb.size) HZ.out hc (by omega)
      rw [turned_len] at H1
      have HC1 := Lib.hid H1
      have HC2 := Lib.hid H2
      obtain ⟨x1, hx1⟩ : ∃ x, x = moreN 0 (nb (turned zs i t 4)) := ⟨_, rfl⟩
      obtain ⟨x2, hx2⟩ : ∃ x, x = moreN 0 (nb zs) := ⟨_, rfl⟩
      rw [← hx1] at HC1 hne
      rw [← hx2] at HC2 hne
      have hq1 : ((x1 : Int) == (x2 : Int)) = false := by simp; omega
      have hq2 : ((x1 : Int) != (x2 : Int)) = true := by simp; omega
      clear hres htm H1 H2 hown hx1 hx2 hne
      go_wp2_with (first
        | (go_at_call 11; refine Calls.mono (HA.out _) ?_; rintro e w1 ⟨rfl, hb1⟩)
        | (go_at_call_of 12 (Value.slice A zs.length c); refine Calls.mono (HC2.out _ (hbel.trans ((hb1.trans (hb2.mono hb1.size)).mono hbel.size))) ?_; rintro e w3 ⟨rfl, hb3⟩)
        | (go_at_call 12; refine Calls.mono (HC1.out _ hb1) ?_; rintro e w2 ⟨rfl, hb2⟩))
      go_ret
      exact ⟨rfl, (hbel.trans ((hb1.trans (hb2.mono hb1.size)).mono hbel.size)).trans (hb3.mono (Nat.le_trans hbel.size (Nat.le_trans hb1.size hb2.size)))⟩

theorem crcFinds_go (HSum : SumSpec) (A : Option Addr) (c : Nat) (zs : List Int) (at_ t : Nat) (w : World) (hr : Ints w w.heap.size .u8 A zs) (hA : A = none → c = 0) (hz : ∀ z ∈ zs, 0 ≤ z ∧ z ≤ 255) (hc : zs.length ≤ c) (hm : zs.length ≤ 140737488351232)
    (ht : t < 2 ^ 32) (ha : at_ < 65536) :
    Calls Try.prog 8 #[.slice A zs.length c, .int .u16 (at_ : Int), .int .u32 (t : Int)] w fun e w' => e = .returned (.bool true) ∧ Below w.heap.size w w' := by
  by_cases h : zs.length < 4 ∨ t = 0
  · exact crcFinds_no HSum A c zs at_ t w h
  · exact crcFinds_yes HSum A c zs at_ t w hr hA hz hc hm (by omega) (by omega) ht ha

end Go.Proofs.Ytkikigpdcjkneaa
