/-
  The landed line: Decode.
-/
import Derived.Test.YtbfchclfonicmaaLineC5
namespace Go.Proofs.Ytbfchclfonicmaa
open Go.RowKit

set_option maxHeartbeats 800000 in
set_option maxRecDepth 20000 in
/-- 'Decode', of other than 64 bytes. -/
theorem decode_len (A : Option Addr) (c : Nat) (bs : List Int) (w : World) (hl : bs.length ≠ 64) :
    Calls Try.prog 13 #[.slice A bs.length c] w fun e w' => e = .returned (.tuple #[.agg (lnV zeroL), .int .i64 2]) ∧ Below w.heap.size w w' := by
  have hinf : (Try.prog.info? 25).map (·.size) = some zeroV.size := Try.infoLine
  have hone : zeroV.all (·.oneCell') = true := lnV_one zeroL
  have HW : Hid ((w.alloc (.cells zeroV 25)).heap[w.heap.size]? = some (.cells zeroV 25 (0, 0)) ∧ Below w.heap.size w (w.alloc (.cells zeroV 25))) := ⟨heap_alloc_new _ _, (Below.refl _ _).alloc (Nat.le_refl _) _⟩
  have e1 : ((bs.length : Int) != 64) = true := by rw [bne_iff_ne]; omega
  obtain ⟨N, hN⟩ : ∃ N, N = bs.length := ⟨_, rfl⟩
  rw [← hN] at e1 ⊢
  clear hN hl
  go_enter Try.func13, Try.ntmps13
  go_wp2_with (refine wpList_store_fresh rfl 25 _ _ rfl w.heap.size zeroV rfl rfl 25 _ HW.out.1 hinf rfl hone HW.out.2 (Nat.le_refl _) ?_; intro W hW hbW hkW hsW; clear hkW hsW)
  exact bodyPost_ret (results_row_tmpL rfl _ _ w.heap.size _ _ _ _ rfl hW Try.underlying25 rfl hinf) rfl ⟨rfl, hbW⟩

set_option maxHeartbeats 1600000 in
set_option maxRecDepth 20000 in
/-- 'Decode', of 64 bytes. -/
theorem decode_64 (b o c : Nat) (bs : List Int) (w : World) (h : Ints w w.heap.size .u8 (some ⟨b, o, none⟩) bs) (hz : ∀ z ∈ bs, 0 ≤ z ∧ z ≤ 255) (hl : bs.length = 64) (hc : 64 ≤ c) :
    Calls Try.prog 13 #[.slice (some ⟨b, o, none⟩) 64 c] w fun e w' => e = .returned (.tuple #[.agg (lnV (decR bs).2), .int .i64 (decR bs).1]) ∧ Below w.heap.size w w' := by
  have HDR : decR bs = if encE (parseL bs) = 0 ∧ encB (parseL bs) = bs then (0, parseL bs) else (2, zeroL) := by
    unfold decR
    by_cases q : encE (parseL bs) = 0 ∧ encB (parseL bs) = bs
    · rw [if_pos q, if_pos ⟨hl, q⟩]
    · rw [if_neg q, if_neg (fun h => q h.2)]
  have HRD : Hid (∀ W, Below w.heap.size w W → Calls Try.prog 27 #[.slice (some ⟨b, o, none⟩) 64 c] W fun e w' => e = .returned (.agg (lnV (parseL bs))) ∧ Below W.heap.size W w') := fun W hb => read_any b o c bs W ((h.below hb).more hb.size) hz hl hc
  have hinf0 : (Try.prog.info? 25).map (·.size) = some zeroV.size := Try.infoLine
  have hone0 : zeroV.all (·.oneCell') = true := lnV_one zeroL
  have hinf : (Try.prog.info? 25).map (·.size) = some (lnV (parseL bs)).size := Try.infoLine
  have hone := lnV_one (parseL bs)
  have hsz : Hid (zeroV.size = (lnV (parseL bs)).size) := rfl
  have hb0 : Below w.heap.size w (w.alloc (.cells zeroV 25)) := (Below.refl _ _).alloc (Nat.le_refl _) _
  have HQ0 : Hid ((w.alloc (.cells zeroV 25)).heap[w.heap.size]? = some (.cells zeroV 25 (0, 0)) ∧ w.heap.size < (w.alloc (.cells zeroV 25)).heap.size) := ⟨heap_alloc_new _ _, by simp⟩
  have HNW : Hid (∀ W : World, (W.alloc (.cells zeroV 25)).heap[W.heap.size]? = some (.cells zeroV 25 (0, 0)) ∧ Below W.heap.size W (W.alloc (.cells zeroV 25))) := fun W => ⟨heap_alloc_new _ _, (Below.refl _ _).alloc (Nat.le_refl _) _⟩
  have HEQ : Hid (encE (parseL bs) = 0 → ∀ (W : World) A' c', Below w.heap.size w W → Ints W W.heap.size .u8 A' (encB (parseL bs)) → Calls Try.prog 28 #[.slice A' 64 c', .slice (some ⟨b, o, none⟩) 64 c] W fun e w' => e = .returned (.bool (decide (encB (parseL bs) = bs))) ∧ w' = W) := fun hE W A' c' hb hi => by
    have := equalB_any A' (some ⟨b, o, none⟩) c' c (encB (parseL bs)) bs W hi ((h.below hb).more hb.size) (encB_mem _) hz
    rw [encB_len hE, hl] at this
    exact this
  have HEY := Lib.hid (fun W => encode_yes (parseL bs) W)
  have HEN := Lib.hid (fun W => encode_no (parseL bs) W)
  obtain ⟨P, hP⟩ : ∃ P, P = parseL bs := ⟨_, rfl⟩
  simp only [← hP] at HDR HRD hinf hone hsz HEQ HEY HEN
  obtain ⟨L, hL⟩ : ∃ L, L = lnV P := ⟨_, rfl⟩
  simp only [← hL] at HRD hinf hone hsz HEY HEN
  have HLL := Lib.hid hL
  unfold zeroV at hb0 HQ0 HNW
  clear h hP hL
  by_cases hE : encE P = 0
  · replace HEY := Lib.hid (fun W => HEY.out W hE)
    replace HEQ := Lib.hid (HEQ.out hE)
    by_cases hq : encB P = bs
    · rw [decide_eq_true hq] at HEQ
      rw [HDR, if_pos ⟨hE, hq⟩]
      simp only []
      rw [← HLL.out]
      obtain ⟨E, hEE⟩ : ∃ E, E = encB P := ⟨_, rfl⟩
      simp only [← hEE] at HEY HEQ
      clear HEN HDR hE hq hEE HLL
      go_enter Try.func13, Try.ntmps13
      go_wp2_with (first
        | (go_at_call 27; with_reducible (refine Calls.mono (HRD.out _ hb0) ?_); rintro e w1 ⟨rfl, hb1⟩; have x1 := hb0.trans (hb1.mono hb0.size); have q1 := (hb1.block _ HQ0.out.2).trans HQ0.out.1; have s1 := (Array.getElem?_eq_some_iff.1 q1).1; have hq1 := Lib.hid q1; clear q1)
        | (refine wpList_store_fresh rfl 25 _ _ rfl w1.heap.size L rfl rfl 25 _ (HNW.out w1).1 hinf hsz.out hone (HNW.out w1).2 (Nat.le_refl _) ?_; intro W2 hW2 hbW2 hkW hsW; have x2 := x1.trans (hbW2.mono x1.size); have hq2 := Lib.hid ((hbW2.block _ s1).trans hq1.out); have s2 := (Array.getElem?_eq_some_iff.1 hW2).1; have hr2 := Lib.hid hW2; clear hkW hsW hW2)
        | (refine wpList_load_row rfl 25 _ rfl w1.heap.size rfl 25 _ (0, 0) _ hr2.out Try.underlying25 rfl hinf ?_)
        | (go_at_call 10; with_reducible (refine Calls.mono (HEY.out _) ?_); rintro e w3 ⟨A3, c3, rfl, _, _, hg3, hb3⟩; have x3 := x2.trans (hb3.mono x2.size); have hq3 := Lib.hid ((hb3.block _ (Nat.lt_of_lt_of_le s1 hbW2.size)).trans hq2.out); have hr3 := Lib.hid ((hb3.block _ s2).trans hr2.out); have hi3 := hg3.ints; clear hg3)
        | (go_at_call 28; with_reducible (refine Calls.mono (HEQ.out _ _ _ x3 hi3) ?_); rintro e w4 ⟨rfl, hw4⟩; obtain rfl := hw4.symm)
        | (have hguard := hr3; clear hguard; refine wpList_load_row rfl 25 _ rfl w1.heap.size rfl 25 _ (0, 0) _ hr3.out Try.underlying25 rfl hinf ?_)
        | (have hguard := hr3; clear hguard; refine wpList_store_fresh rfl 25 _ _ rfl w.heap.size L rfl rfl 25 _ hq3.out hinf hsz.out hone x3 (Nat.le_refl _) ?_; intro W hW hbW hkW hsW; clear hkW hsW))
      exact bodyPost_ret (results_row_tmpL rfl _ _ w.heap.size _ _ _ _ rfl hW Try.underlying25 rfl hinf) rfl ⟨rfl, hbW⟩
    · rw [decide_eq_false hq] at HEQ
      rw [HDR, if_neg (fun h => hq h.2)]
      simp only []
      obtain ⟨E, hEE⟩ : ∃ E, E = encB P := ⟨_, rfl⟩
      simp only [← hEE] at HEY HEQ
      clear HEN HDR hE hq hEE HLL
      go_enter Try.func13, Try.ntmps13
      go_wp2_with (first
        | (go_at_call 27; with_reducible (refine Calls.mono (HRD.out _ hb0) ?_); rintro e w1 ⟨rfl, hb1⟩; have x1 := hb0.trans (hb1.mono hb0.size); have q1 := (hb1.block _ HQ0.out.2).trans HQ0.out.1; have s1 := (Array.getElem?_eq_some_iff.1 q1).1; have hq1 := Lib.hid q1; clear q1)
        | (refine wpList_store_fresh rfl 25 _ _ rfl w1.heap.size L rfl rfl 25 _ (HNW.out w1).1 hinf hsz.out hone (HNW.out w1).2 (Nat.le_refl _) ?_; intro W2 hW2 hbW2 hkW hsW; have x2 := x1.trans (hbW2.mono x1.size); have hq2 := Lib.hid ((hbW2.block _ s1).trans hq1.out); have s2 := (Array.getElem?_eq_some_iff.1 hW2).1; have hr2 := Lib.hid hW2; clear hkW hsW hW2)
        | (refine wpList_load_row rfl 25 _ rfl w1.heap.size rfl 25 _ (0, 0) _ hr2.out Try.underlying25 rfl hinf ?_)
        | (go_at_call 10; with_reducible (refine Calls.mono (HEY.out _) ?_); rintro e w3 ⟨A3, c3, rfl, _, _, hg3, hb3⟩; have x3 := x2.trans (hb3.mono x2.size); have hq3 := Lib.hid ((hb3.block _ (Nat.lt_of_lt_of_le s1 hbW2.size)).trans hq2.out); have hr3 := Lib.hid ((hb3.block _ s2).trans hr2.out); have hi3 := hg3.ints; clear hg3)
        | (go_at_call 28; with_reducible (refine Calls.mono (HEQ.out _ _ _ x3 hi3) ?_); rintro e w4 ⟨rfl, hw4⟩; obtain rfl := hw4.symm)
        | (have hguard := hr3; clear hguard; refine wpList_store_fresh rfl 25 _ _ rfl w.heap.size zeroV rfl rfl 25 _ hq3.out hinf0 rfl hone0 x3 (Nat.le_refl _) ?_; intro W hW hbW hkW hsW; clear hkW hsW))
      exact bodyPost_ret (results_row_tmpL rfl _ _ w.heap.size _ _ _ _ rfl hW Try.underlying25 rfl hinf0) rfl ⟨rfl, hbW⟩
  · replace HEN := Lib.hid (fun W => HEN.out W hE)
    rw [HDR, if_neg (fun h => hE h.1)]
    simp only []
    obtain ⟨E, hEE⟩ : ∃ E, E = encE P := ⟨_, rfl⟩
    rw [← hEE] at hE
    simp only [← hEE] at HEN
    have e1 : (E != 0) = true := by rw [bne_iff_ne]; exact hE
    clear HEY HEQ HDR hE hEE HLL
    go_enter Try.func13, Try.ntmps13
    go_wp2_with (first
      | (go_at_call 27; with_reducible (refine Calls.mono (HRD.out _ hb0) ?_); rintro e w1 ⟨rfl, hb1⟩; have x1 := hb0.trans (hb1.mono hb0.size); have q1 := (hb1.block _ HQ0.out.2).trans HQ0.out.1; have s1 := (Array.getElem?_eq_some_iff.1 q1).1; have hq1 := Lib.hid q1; clear q1)
      | (refine wpList_store_fresh rfl 25 _ _ rfl w1.heap.size L rfl rfl 25 _ (HNW.out w1).1 hinf hsz.out hone (HNW.out w1).2 (Nat.le_refl _) ?_; intro W2 hW2 hbW2 hkW hsW; have x2 := x1.trans (hbW2.mono x1.size); have hq2 := Lib.hid ((hbW2.block _ s1).trans hq1.out); have s2 := (Array.getElem?_eq_some_iff.1 hW2).1; have hr2 := Lib.hid hW2; clear hkW hsW hW2)
      | (refine wpList_load_row rfl 25 _ rfl w1.heap.size rfl 25 _ (0, 0) _ hr2.out Try.underlying25 rfl hinf ?_)
      | (go_at_call 10; with_reducible (refine Calls.mono (HEN.out _) ?_); rintro e w3 ⟨A3, c3, rfl, hb3⟩; have x3 := x2.trans (hb3.mono x2.size); have hq3 := Lib.hid ((hb3.block _ (Nat.lt_of_lt_of_le s1 hbW2.size)).trans hq2.out))
      | (have hguard := hq3; clear hguard; refine wpList_store_fresh rfl 25 _ _ rfl w.heap.size zeroV rfl rfl 25 _ hq3.out hinf0 rfl hone0 x3 (Nat.le_refl _) ?_; intro W hW hbW hkW hsW; clear hkW hsW))
    exact bodyPost_ret (results_row_tmpL rfl _ _ w.heap.size _ _ _ _ rfl hW Try.underlying25 rfl hinf0) rfl ⟨rfl, hbW⟩

/-- 'Decode'. -/
theorem decode_any (A : Option Addr) (c : Nat) (bs : List Int) (w : World) (h : Ints w w.heap.size .u8 A bs) (hz : ∀ z ∈ bs, 0 ≤ z ∧ z ≤ 255) (hc : bs.length ≤ c) :
    Calls Try.prog 13 #[.slice A bs.length c] w fun e w' => e = .returned (.tuple #[.agg (lnV (decR bs).2), .int .i64 (decR bs).1]) ∧ Below w.heap.size w w' := by
  by_cases hl : bs.length = 64
  · obtain ⟨b, o, rfl, _⟩ := h.at_ (by omega)
    rw [hl]
    exact decode_64 b o c bs w h hz hl (by omega)
  · have e : decR bs = (2, zeroL) := by unfold decR; rw [if_neg (fun q => hl q.1)]
    rw [e]
    exact decode_len A c bs w hl

end Go.Proofs.Ytbfchclfonicmaa
