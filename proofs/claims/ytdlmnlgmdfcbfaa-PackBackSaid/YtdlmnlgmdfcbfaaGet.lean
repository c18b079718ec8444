/-
  'Get' of the layer pack and the document's own: whatever they are given, what they answer; nothing that was there is changed.
-/
import Derived.Test.YtdlmnlgmdfcbfaaRef
namespace Go.Proofs.Ytdlmnlgmdfcbfaa
open Go.RowKit

/-- 'Get'. -/
theorem get_any (A : Option Addr) (c : Nat) (zs : List Int) (s : Int) (w : World) (hr : Ints w w.heap.size .u8 A zs) (hz : ∀ z ∈ zs, 0 ≤ z ∧ z ≤ 255) (hc : zs.length ≤ c) :
    Calls Try.prog 14 #[.slice A zs.length c, .int .i64 s] w fun e w' => e = .returned (.tuple #[.int .u64 (getV zs s), .int .i64 (getE zs s)]) ∧ Below w.heap.size w w' := by
  have hb1 : ∀ o, Below w.heap.size w (w.alloc o) := fun o => (Below.refl _ _).alloc (Nat.le_refl _) o
  by_cases hs : szOk s = true
  · have hs2 : 1 ≤ s ∧ s ≤ 8 := by simpa only [szOk, decide_eq_true_eq] using hs
    have HE := Lib.hid (fun t : Nat => extent_yes (some ⟨w.heap.size, 0, none⟩) 1 _ [s] _ (Ints.new w t .i64 [s] #[.int .i64 s] rfl) (by rw [szs_one]; exact hs))
    rw [total_one] at HE
    by_cases hlt : (zs.length : Int) < s
    · have e1 : getE zs s = 3 := by unfold getE; rw [if_pos hs, if_pos hlt]
      have e2 : getV zs s = 0 := by unfold getV; rw [e1]; rfl
      rw [e1, e2]
      have HB := Lib.hid hb1
      clear e1 e2 hb1 hs hz
      go_enter Try.func14, Try.ntmps14
      go_wp2_with (go_at_call 22; refine Calls.mono (HE.out _) ?_; rintro e w' ⟨rfl, rfl⟩)
      go_ret2
      exact ⟨rfl, HB.out _⟩
    · have e1 : getE zs s = 0 := by unfold getE; rw [if_pos hs, if_neg hlt]
      obtain ⟨n, hn⟩ : ∃ n : Nat, (n : Int) = s := ⟨s.toNat, by omega⟩
      have e2 : getV zs s = valOf (zs.take n) := by unfold getV; rw [e1, if_pos rfl]; congr 2; omega
      rw [e1, e2]
      obtain rfl := hn
      have hnl : n ≤ zs.length := by omega
      have hnc : n ≤ c := by omega
      have HB := Lib.hid hb1
      have HN := Lib.hid (fun o : Obj => number_any A c _ (zs.take n) (w.alloc o) ((hr.alloc (Nat.le_refl _) o).take n) (fun z hz' => hz z (List.mem_of_mem_take hz')) (by rw [List.length_take]; omega))
      have hlen : (zs.take n).length = n := by rw [List.length_take]; omega
      rw [hlen] at HN
      clear e1 e2 hb1 hs hz hlen
      go_enter Try.func14, Try.ntmps14
      go_wp2_with (first
        | (go_at_call 22; refine Calls.mono (HE.out _) ?_; rintro e w' ⟨rfl, rfl⟩)
        | (go_at_call 23; refine Calls.mono (HN.out _) ?_; rintro e w' ⟨rfl, rfl⟩))
      go_ret2
      exact ⟨rfl, HB.out _⟩
  · have hs' : szOk s = false := by simpa using hs
    have e1 : getE zs s = 1 := by unfold getE; rw [if_neg hs]
    have e2 : getV zs s = 0 := by unfold getV; rw [e1]; rfl
    rw [e1, e2]
    have HE := Lib.hid (fun t : Nat => extent_no (some ⟨w.heap.size, 0, none⟩) 1 _ [s] _ (Ints.new w t .i64 [s] #[.int .i64 s] rfl) (by rw [szs_one]; exact hs'))
    have HB := Lib.hid hb1
    clear e1 e2 hb1 hs hs' hz
    go_enter Try.func14, Try.ntmps14
    go_wp2_with (go_at_call 22; refine Calls.mono (HE.out _) ?_; rintro e w' ⟨rfl, rfl⟩)
    go_ret2
    exact ⟨rfl, HB.out _⟩

/-- The document's 'Get'. -/
theorem refGet_any (A : Option Addr) (c B : Nat) (zs : List Int) (s : Int) (w : World) (hr : Ints w B .u8 A zs) (hz : ∀ z ∈ zs, 0 ≤ z ∧ z ≤ 255) :
    Calls Try.prog 15 #[.slice A zs.length c, .int .i64 s] w fun e w' => e = .returned (.tuple #[.int .u64 (getV zs s), .int .i64 (getE zs s)]) ∧ w = w' := by
  by_cases hs : szOk s = true
  · have hs2 : 1 ≤ s ∧ s ≤ 8 := by simpa only [szOk, decide_eq_true_eq] using hs
    have hs3 : ¬ s < 1 := by omega
    have hs4 : ¬ 8 < s := by omega
    by_cases hlt : (zs.length : Int) < s
    · have e1 : getE zs s = 3 := by unfold getE; rw [if_pos hs, if_pos hlt]
      have e2 : getV zs s = 0 := by unfold getV; rw [e1]; rfl
      rw [e1, e2]
      clear e1 e2 hs hz hs2
      go_enter Try.func15, Try.ntmps15
      go_wp2
      go_ret2
      exact ⟨rfl, rfl⟩
    · have e1 : getE zs s = 0 := by unfold getE; rw [if_pos hs, if_neg hlt]
      obtain ⟨n, hn⟩ : ∃ n : Nat, (n : Int) = s := ⟨s.toNat, by omega⟩
      have e2 : getV zs s = valOf (zs.take n) := by unfold getV; rw [e1, if_pos rfl]; congr 2; omega
      rw [e1, e2]
      obtain rfl := hn
      have hnl : n ≤ zs.length := by omega
      have HZ := Lib.hid hz
      have hn8 : n ≤ 8 := by omega
      clear e1 e2 hs hz hs2
      go_enter Try.func15, Try.ntmps15
      go_wp2
      go_loop [6, 7] (fun t i => ∃ k : Nat, k ≤ n ∧ i = .int .i64 k ∧ t = .int .u64 (valOf (zs.take k))) (fun _ i => n - (intOf i).toNat)
      case atStart => exact ⟨0, Nat.zero_le _, rfl, rfl⟩
      case round =>
        obtain ⟨k, hk, rfl, rfl⟩ := hrel
        by_cases hlk : k < n
        · have hlz : k < zs.length := by omega
          obtain ⟨b, off, rfl, _, hc⟩ := hr k hlz
          have hx := HZ.out _ (getD_mem hlz)
          have hv := valOf_bd (zs.take k) fun z hz => HZ.out z (List.mem_of_mem_take hz)
          have hln : (zs.take k).length = k := by simp; omega
          rw [hln] at hv
          have hp := pow_le7 k (by omega)
          have HT : Hid (valOf (zs.take (k + 1)) = valOf (zs.take k) * 256 + zs.getD k 0) := by rw [take_snoc zs k hlz]; exact valOf_snoc _ _
          obtain ⟨x, hx'⟩ : ∃ x, x = zs.getD k 0 := ⟨_, rfl⟩
          rw [← hx'] at hc HT hx
          obtain ⟨v, hv'⟩ : ∃ v, v = valOf (zs.take k) := ⟨_, rfl⟩
          rw [← hv'] at HT hv ⊢
          have hv1 : v < 72057594037927936 := by omega
          clear hx' hv' hln hp
          obtain ⟨hv0, _⟩ := hv
          obtain ⟨hx0, hx1⟩ := hx
          go_wp2
          go_round
          case rel => exact ⟨k + 1, by omega, by go_num, by rw [HT.out]⟩
          case measure => simp [intOf]; omega
        · have hkn : k = n := by omega
          subst hkn
          go_wp2
          go_ret2
          exact ⟨rfl, rfl⟩
  · have e1 : getE zs s = 1 := by unfold getE; rw [if_neg hs]
    have e2 : getV zs s = 0 := by unfold getV; rw [e1]; rfl
    rw [e1, e2]
    have hs2 : ¬ (1 ≤ s ∧ s ≤ 8) := by simpa only [szOk, decide_eq_true_eq] using hs
    clear e1 e2 hs hz
    by_cases hs3 : s < 1
    · clear hs2
      go_enter Try.func15, Try.ntmps15
      go_wp2
      go_ret2
      exact ⟨rfl, rfl⟩
    · have hs4 : 8 < s := by omega
      clear hs2
      go_enter Try.func15, Try.ntmps15
      go_wp2
      go_ret2
      exact ⟨rfl, rfl⟩

end Go.Proofs.Ytdlmnlgmdfcbfaa
