/-
  'Get' of the layer pack: whatever it is given, what it answers; nothing that was there is changed.
-/
import Derived.Test.YtocnbhefjhammaaDoorLow
namespace Go.Proofs.YtocnbhefjhammaaDoor
open Go.RowKit

/-- 'Get'. -/
theorem get_any (A : Option Addr) (c : Nat) (zs : List Int) (s : Int) (w : World) (hr : Ints w w.heap.size .u8 A zs) (hz : ∀ z ∈ zs, 0 ≤ z ∧ z ≤ 255) (hc : zs.length ≤ c) :
    Calls Tryd.prog 39 #[.slice A zs.length c, .int .i64 s] w fun e w' => e = .returned (.tuple #[.int .u64 (getV zs s), .int .i64 (getE zs s)]) ∧ Below w.heap.size w w' := by
  have hb1 : ∀ o, Below w.heap.size w (w.alloc o) := fun o => (Below.refl _ _).alloc (Nat.le_refl _) o
  by_cases hs : szOk s = true
  · have hs2 : 1 ≤ s ∧ s ≤ 8 := by simpa only [szOk, decide_eq_true_eq] using hs
    have HE := Lib.hid (fun t : Nat => extent_yes (some ⟨w.heap.size, 0, none⟩) 1 _ [s] _ (Ints.new w t .i64 [s] #[.int .i64 s] rfl) (by rw [szs_one]; exact hs))
    rw [total_one] at HE
    by_cases hlt : (zs.length : Int) < s
    · have e1 : getE zs s = 3 := by unfold getE; rw [if_pos hs, if_pos hlt]
      have e2 : getV zs s = 0 := by unfold getV; rw [e1]; rfl
      rw [e1, e2]
      have HB := Lib.hid hb1
      clear e1 e2 hb1 hs hz
      go_enter Tryd.func39, Tryd.ntmps39
      go_wp2_with (go_at_call 32; refine Calls.mono (HE.out _) ?_; rintro e w' ⟨rfl, rfl⟩)
      go_ret2
      exact ⟨rfl, HB.out _⟩
    · have e1 : getE zs s = 0 := by unfold getE; rw [if_pos hs, if_neg hlt]
      obtain ⟨n, hn⟩ : ∃ n : Nat, (n : Int) = s := ⟨s.toNat, by omega⟩
      have e2 : getV zs s = valOf (zs.take n) := by unfold getV; rw [e1, if_pos rfl]; congr 2; omega
      rw [e1, e2]
      obtain rfl := hn
      have hnl : n ≤ zs.length := by omega
      have hnc : n ≤ c := by omega
      have HB := Lib.hid hb1
      have HN := Lib.hid (fun o : Obj => number_any A c _ (zs.take n) (w.alloc o) ((hr.alloc (Nat.le_refl _) o).take n) (fun z hz' => hz z (List.mem_of_mem_take hz')) (by rw [List.length_take]; omega))
      have hlen : (zs.take n).length = n := by rw [List.length_take]; omega
      rw [hlen] at HN
      clear e1 e2 hb1 hs hz hlen
      go_enter Tryd.func39, Tryd.ntmps39
      go_wp2_with (first
        | (go_at_call 32; refine Calls.mono (HE.out _) ?_; rintro e w' ⟨rfl, rfl⟩)
        | (go_at_call 42; refine Calls.mono (HN.out _) ?_; rintro e w' ⟨rfl, rfl⟩))
      go_ret2
      exact ⟨rfl, HB.out _⟩
  · have hs' : szOk s = false := by simpa using hs
    have e1 : getE zs s = 1 := by unfold getE; rw [if_neg hs]
    have e2 : getV zs s = 0 := by unfold getV; rw [e1]; rfl
    rw [e1, e2]
    have HE := Lib.hid (fun t : Nat => extent_no (some ⟨w.heap.size, 0, none⟩) 1 _ [s] _ (Ints.new w t .i64 [s] #[.int .i64 s] rfl) (by rw [szs_one]; exact hs'))
    have HB := Lib.hid hb1
    clear e1 e2 hb1 hs hs' hz
    go_enter Tryd.func39, Tryd.ntmps39
    go_wp2_with (go_at_call 32; refine Calls.mono (HE.out _) ?_; rintro e w' ⟨rfl, rfl⟩)
    go_ret2
    exact ⟨rfl, HB.out _⟩

end Go.Proofs.YtocnbhefjhammaaDoor
