/-
  HeaderEncodes, HeaderDecodes, HeaderBack. (After those of the layer line.)
-/
import Derived.Test.YtbmgiekiildaaaaHdLaws
namespace Go.Proofs.Ytbmgiekiildaaaa
open Go.RowKit

set_option maxHeartbeats 1600000 in
set_option maxRecDepth 20000 in
/-- LineEncodes. -/
theorem headerEncodes_go (l : Rc) (w : World) (HS : HdSpec w) (ho : True) :
    Calls Try.prog 3 #[.agg (rcV l)] w fun e w' => e = .returned (.bool true) ∧ Below w.heap.size w w' := by
  have HA := Lib.hid (fun W (hb : Below w.heap.size w W) => hdAwake HS W hb)
  have H1 := Lib.hid (fun W (hb : Below w.heap.size w W) => HS.encAny l W hb ho)
  have H2 := Lib.hid (fun W => hrefEnc_any l W)
  have HT := Lib.hid (fun (W : World) (A : Option Addr) (c : Nat) (h : Ints W W.heap.size .u8 A (hEnc l).2) => htext_of h rfl c)
  have hinf : (Try.prog.info? 23).map (·.size) = some (rcV l).size := Try.infoHead
  have HR : Hid (∀ o : Array Value, (w.alloc (.cells o 23)).heap[w.heap.size]? = some (.cells o 23 (0, 0)) ∧ Below w.heap.size w (w.alloc (.cells o 23)) ∧ w.heap.size < (w.alloc (.cells o 23)).heap.size) := fun o => ⟨heap_alloc_new w _, (Below.refl _ _).alloc (Nat.le_refl _) _, by simp⟩
  obtain ⟨S, hS⟩ : ∃ S, S = strOfNums (hEnc l).2 := ⟨_, rfl⟩
  rw [← hS] at HT
  obtain ⟨X, hX⟩ : ∃ X, X = (hEnc l).2 := ⟨_, rfl⟩
  simp only [← hX] at H1 H2 HT
  obtain ⟨E, hE⟩ : ∃ X, X = hErr l := ⟨_, rfl⟩
  simp only [← hE] at H1 H2
  obtain ⟨N, hN⟩ : ∃ N, N = X.length := ⟨_, rfl⟩
  simp only [← hN] at H1 H2 HT
  obtain ⟨V, hV⟩ : ∃ V, V = rcV l := ⟨_, rfl⟩
  rw [← hV] at hinf ⊢
  simp only [← hV] at H1 H2
  clear HS ho hS hX hE hN hV
  go_enter Try.func3, Try.ntmps3
  go_wp2_with (first
    | (refine wpList_load_row rfl 23 _ rfl w.heap.size rfl 23 _ (0, 0) _ (HR.out V).1 Try.underlying23 rfl hinf ?_)
    | (go_at_call 9; with_reducible (refine Calls.mono (H1.out _ (HR.out V).2.1) ?_); rintro e w1 ⟨A1, c1, rfl, hi1, hb1⟩; have hx1 := (HR.out V).2.1.trans (hb1.mono (HR.out V).2.1.size); have HW1 := Lib.hid ((hb1.block _ (HR.out V).2.2).trans (HR.out V).1))
    | (refine wpList_load_row rfl 23 _ rfl w.heap.size rfl 23 _ (0, 0) _ HW1.out Try.underlying23 rfl hinf ?_)
    | (go_at_call 10; with_reducible (refine Calls.mono (H2.out _) ?_); rintro e w2 ⟨A2, c2, rfl, hc2, hi2, hb2⟩; have hx2 := hx1.trans (hb2.mono hx1.size); have hj1 := (hi1.below hb2).more hb2.size)
    | (go_at_call 11; with_reducible (refine Calls.mono (HA.out _ hx2) ?_); rintro e w3 ⟨rfl, hb3⟩; have hx3 := hx2.trans (hb3.mono hx2.size); have t1 := HT.out w3 A1 c1 ((hj1.below hb3).more hb3.size); have t2 := HT.out w3 A2 c2 ((hi2.below hb3).more hb3.size)))
  go_ret
  exact ⟨rfl, hx3⟩

set_option maxHeartbeats 1600000 in
set_option maxRecDepth 20000 in
/-- LineDecodes. -/
theorem headerDecodes_go (A : Option Addr) (c : Nat) (zs : List Int) (w : World) (HS : HdSpec w) (h : Ints w w.heap.size .u8 A zs) (hz : ∀ z ∈ zs, 0 ≤ z ∧ z ≤ 255) (hc : zs.length ≤ c) (hm : zs.length ≤ 9223372036854775807) :
    Calls Try.prog 4 #[.slice A zs.length c] w fun e w' => e = .returned (.bool true) ∧ Below w.heap.size w w' := by
  have HA := Lib.hid (fun W (hb : Below w.heap.size w W) => hdAwake HS W hb)
  have H1 := Lib.hid (HS.dec A c zs w (Below.refl _ _) h hz hc hm)
  have H2 := Lib.hid (fun W (hb : Below w.heap.size w W) => hrefDec_any A c zs W ((h.below hb).more hb.size) hz hc)
  have HEQ : Hid (∀ W, (Op.equalIn 10000 23 (.agg (rcV (hDec zs).2)) (.agg (rcV (hDec zs).2))).run Try.prog W = .ok true W) := fun W => by rw [eqHead_all, decide_eq_true rfl]
  have hinf : (Try.prog.info? 23).map (·.size) = some (rcV (hDec zs).2).size := Try.infoHead
  have hone := rcV_ones (hDec zs).2
  have hold : Hid (6 = (rcV (hDec zs).2).size) := rfl
  have HNEW := Lib.hid (fun W : World => heap_alloc_new W (.cells #[.int .i64 0, .int .i64 0, .int .i64 0, .int .i64 0, .int .i64 0, .string ⟨#[]⟩] 23))
  have HAL := Lib.hid (fun W : World => (Below.refl W.heap.size W).alloc (Nat.le_refl _) (.cells #[.int .i64 0, .int .i64 0, .int .i64 0, .int .i64 0, .int .i64 0, .string ⟨#[]⟩] 23))
  obtain ⟨V, hV⟩ : ∃ V, V = rcV (hDec zs).2 := ⟨_, rfl⟩
  rw [← hV] at H1 hinf hone hold
  simp only [← hV] at H2 HEQ
  obtain ⟨E, hE⟩ : ∃ X, X = (hDec zs).1 := ⟨_, rfl⟩
  rw [← hE] at H1
  simp only [← hE] at H2
  obtain ⟨N, hN⟩ : ∃ N, N = zs.length := ⟨_, rfl⟩
  rw [← hN] at H1 ⊢
  simp only [← hN] at H2
  have heq := fun W => HEQ.out W
  clear HS h hz hc hm hV hE hN
  go_enter Try.func4, Try.ntmps4
  go_wp2_with (first
    | (go_at_call 12; with_reducible (refine Calls.mono H1.out ?_); rintro e w1 ⟨rfl, hb1⟩)
    | (refine wpList_store_fresh rfl 23 _ _ rfl w1.heap.size V rfl rfl 23 _ (HNEW.out w1) hinf hold.out hone (HAL.out w1) (Nat.le_refl _) ?_; intro W2 hW2 hbW2 hkW hsW; have hx2 := hb1.trans (hbW2.mono hb1.size); have HQ2 : Hid (w1.heap.size < W2.heap.size ∧ W2.heap[w1.heap.size]? = some (.cells V 23 (0, 0))) := ⟨(Array.getElem?_eq_some_iff.1 hW2).1, hW2⟩; clear hkW hsW hW2)
    | (go_at_call 13; with_reducible (refine Calls.mono (H2.out _ hx2) ?_); rintro e w3 ⟨rfl, hb3⟩; have hx3 := hx2.trans (hb3.mono hx2.size))
    | (have hguard := hx3; clear hguard; refine wpList_store_fresh rfl 23 _ _ rfl w3.heap.size V rfl rfl 23 _ (HNEW.out w3) hinf hold.out hone (HAL.out w3) (Nat.le_refl _) ?_; intro W4 hW4 hbW4 hkW hsW
       have hx4 := hx3.trans (hbW4.mono hx3.size)
       have HR4 : Hid (w1.heap.size < W4.heap.size ∧ w3.heap.size < W4.heap.size ∧ W4.heap[w1.heap.size]? = some (.cells V 23 (0, 0)) ∧ W4.heap[w3.heap.size]? = some (.cells V 23 (0, 0))) := by
         have h1 := HQ2.out
         have h3 := hb3.size
         have h4 := (Array.getElem?_eq_some_iff.1 hW4).1
         exact ⟨by omega, h4, (hbW4.block _ (by omega)).trans ((hb3.block _ h1.1).trans h1.2), hW4⟩
       clear hkW hsW hW4)
    | (go_at_call 11; with_reducible (refine Calls.mono (HA.out _ hx4) ?_); rintro e w5 ⟨rfl, hb5⟩; have hx5 := hx4.trans (hb5.mono hx4.size); have HW5 := Lib.hid ((hb5.block _ HR4.out.1).trans HR4.out.2.2.1); have HW6 := Lib.hid ((hb5.block _ HR4.out.2.1).trans HR4.out.2.2.2))
    | (refine wpList_load_when rfl 23 _ rfl w1.heap.size rfl 23 _ HW5.out Try.underlying23 rfl hinf ?_)
    | (refine wpList_load_when rfl 23 _ rfl w3.heap.size rfl 23 _ HW6.out Try.underlying23 rfl hinf ?_))
  go_ret
  exact ⟨rfl, hx5⟩

set_option maxHeartbeats 3200000 in
set_option maxRecDepth 20000 in
/-- LineBack. -/
theorem headerBack_go (l : Rc) (A : Option Addr) (c : Nat) (zs : List Int) (w : World) (HS : HdSpec w) (ho : True) (h : Ints w w.heap.size .u8 A zs) (hz : ∀ z ∈ zs, 0 ≤ z ∧ z ≤ 255) (hc : zs.length ≤ c) (hm : zs.length ≤ 9223372036854775807) :
    Calls Try.prog 5 #[.agg (rcV l), .slice A zs.length c] w fun e w' => e = .returned (.bool true) ∧ Below w.heap.size w w' := by
  have HA := Lib.hid (fun W (hb : Below w.heap.size w W) => hdAwake HS W hb)
  have H1 := Lib.hid (fun W (hb : Below w.heap.size w W) => HS.encAny l W hb ho)
  have H2 : Hid (hErr l = 0 → ∀ (W : World) (A2 : Option Addr) (c2 : Nat), Below w.heap.size w W → Ints W W.heap.size .u8 A2 (hSec l) → 64 ≤ c2 → Calls Try.prog 12 #[.slice A2 64 c2] W fun e w' => e = .returned (.tuple #[.agg (rcV l), .int .i64 0]) ∧ Below W.heap.size W w') := fun hE W A2 c2 hb hi hc2 => by
    have h := HS.dec A2 c2 (hSec l) W hb hi (hSec_mem _) (by rw [hSecLen hE]; exact hc2) (hSec_bound hE)
    rw [hDec_sec hE, hSecLen hE] at h
    exact h
  have H1E : Hid (hErr l = 0 → ∀ W (hb : Below w.heap.size w W), Calls Try.prog 9 #[.agg (rcV l)] W fun e w' => ∃ A c, e = .returned (.tuple #[.slice A 64 c, .int .i64 0]) ∧ 64 ≤ c ∧ Ints w' w'.heap.size .u8 A (hSec l) ∧ Below W.heap.size W w') := fun hE W hb =>
    (HS.enc l W hb ho hE).mono fun e w' ⟨A, c, q1, q2, _, q3, q4⟩ => ⟨A, c, q1, q2, q3, q4⟩
  have H3 := Lib.hid (fun W (hb : Below w.heap.size w W) => HS.dec A c zs W hb ((h.below hb).more hb.size) hz hc hm)
  have HI := Lib.hid h
  have HDO : Hid ((hDec zs).1 = 0 → hErr (hDec zs).2 = 0 ∧ hSec (hDec zs).2 = zs ∧ zs.length = 64) := fun h => ⟨(hDec_ok h).2.1, (hDec_ok h).2.2, (hDec_ok h).1⟩
  have H4 : Hid ((hDec zs).1 = 0 → ∀ W (hb : Below w.heap.size w W), Calls Try.prog 9 #[.agg (rcV (hDec zs).2)] W fun e w' => ∃ A c, e = .returned (.tuple #[.slice A zs.length c, .int .i64 0]) ∧ Ints w' w'.heap.size .u8 A zs ∧ Below W.heap.size W w') := fun hD W hb => by
    obtain ⟨k1, k2, k3⟩ := HDO.out hD
    refine (HS.enc (hDec zs).2 W hb (henc_ok k1) k1).mono fun e w' ⟨A, c, q1, q2, _, q3, q4⟩ => ⟨A, c, by rw [q1, k3], by rw [← k2]; exact q3, q4⟩
  have HT : Hid (∀ (W : World) (A : Option Addr) (c : Nat), Ints W W.heap.size .u8 A zs → (convert 24 9 (.slice A zs.length c)).run Try.prog W = .ok (.string (strOfNums zs)) W) := fun W A c h => htext_of h rfl c
  have HEQ := Lib.hid (fun W => (eqHead_all l l W).trans (by rw [decide_eq_true rfl]))
  have heq := fun W => HEQ.out W
  have hinf : (Try.prog.info? 23).map (·.size) = some (rcV l).size := Try.infoHead
  have hone := rcV_ones l
  have hold : Hid (6 = (rcV l).size) := rfl
  have hinf2 : (Try.prog.info? 23).map (·.size) = some (rcV (hDec zs).2).size := Try.infoHead
  have hone2 := rcV_ones (hDec zs).2
  have hold2 : Hid (6 = (rcV (hDec zs).2).size) := rfl
  have HNEW := Lib.hid (fun W : World => heap_alloc_new W (.cells #[.int .i64 0, .int .i64 0, .int .i64 0, .int .i64 0, .int .i64 0, .string ⟨#[]⟩] 23))
  have HAL := Lib.hid (fun W : World => (Below.refl W.heap.size W).alloc (Nat.le_refl _) (.cells #[.int .i64 0, .int .i64 0, .int .i64 0, .int .i64 0, .int .i64 0, .string ⟨#[]⟩] 23))
  have HR : Hid (∀ o : Array Value, (w.alloc (.cells o 23)).heap[w.heap.size]? = some (.cells o 23 (0, 0)) ∧ Below w.heap.size w (w.alloc (.cells o 23)) ∧ w.heap.size < (w.alloc (.cells o 23)).heap.size) := fun o => ⟨heap_alloc_new w _, (Below.refl _ _).alloc (Nat.le_refl _) _, by simp⟩
  obtain ⟨V, hV⟩ : ∃ V, V = rcV l := ⟨_, rfl⟩
  rw [← hV] at hinf hone hold ⊢
  simp only [← hV] at H1 H2 H1E heq
  obtain ⟨U, hU⟩ : ∃ V, V = rcV (hDec zs).2 := ⟨_, rfl⟩
  rw [← hU] at hinf2 hone2 hold2
  simp only [← hU] at H3 H4
  obtain ⟨X, hX⟩ : ∃ X, X = hSec l := ⟨_, rfl⟩
  simp only [← hX] at H2 H1E
  obtain ⟨Y, hY⟩ : ∃ X, X = (hEnc l).2 := ⟨_, rfl⟩
  simp only [← hY] at H1
  obtain ⟨E, hE⟩ : ∃ X, X = hErr l := ⟨_, rfl⟩
  simp only [← hE] at H1 H2 H1E
  obtain ⟨D, hD⟩ : ∃ X, X = (hDec zs).1 := ⟨_, rfl⟩
  simp only [← hD] at H3 H4
  obtain ⟨S, hS⟩ : ∃ X, X = strOfNums zs := ⟨_, rfl⟩
  simp only [← hS] at HT
  obtain ⟨N, hN⟩ : ∃ N, N = zs.length := ⟨_, rfl⟩
  simp only [← hN] at H3 H4 HT ⊢
  clear HS ho h hz hc hm hV hU hX hY hE hD hS hN HDO HEQ
  by_cases hE : E = 0
  · subst hE
    replace H1E := Lib.hid (H1E.out rfl)
    replace H2 := Lib.hid (H2.out rfl)
    clear H1
    by_cases hD : D = 0
    · subst hD
      replace H4 := Lib.hid (H4.out rfl)
      go_enter Try.func5, Try.ntmps5
      go_wp2_with (first
        | (go_at_call 12; with_reducible (refine Calls.mono (H3.out _ hx3) ?_); rintro e w4 ⟨rfl, hb4⟩; have hx4 := hx3.trans (hb4.mono hx3.size))
        | (have hguard := hx5; clear hguard; go_at_call 9; with_reducible (refine Calls.mono (H4.out _ hx5) ?_); rintro e w6 ⟨A6, c6, rfl, hi6, hb6⟩; have hx6 := hx5.trans (hb6.mono hx5.size))
        | (refine wpList_load_row rfl 23 _ rfl w.heap.size rfl 23 _ (0, 0) _ (HR.out V).1 Try.underlying23 rfl hinf ?_)
        | (go_at_call 9; with_reducible (refine Calls.mono (H1E.out _ (HR.out V).2.1) ?_); rintro e w1 ⟨A1, c1, rfl, hc1, hi1, hb1⟩; have hx1 := (HR.out V).2.1.trans (hb1.mono (HR.out V).2.1.size); have HW1 := Lib.hid (And.intro (Nat.lt_of_lt_of_le (HR.out V).2.2 hb1.size) ((hb1.block _ (HR.out V).2.2).trans (HR.out V).1)))
        | (go_at_call 12; with_reducible (refine Calls.mono (H2.out _ _ _ hx1 hi1 hc1) ?_); rintro e w2 ⟨rfl, hb2⟩; have hx2 := hx1.trans (hb2.mono hx1.size); have HW2 := Lib.hid (And.intro (Nat.lt_of_lt_of_le HW1.out.1 hb2.size) ((hb2.block _ HW1.out.1).trans HW1.out.2)))
        | (have hguard := hx2; clear hguard; refine wpList_store_fresh rfl 23 _ _ rfl w2.heap.size V rfl rfl 23 _ (HNEW.out w2) hinf hold.out hone (HAL.out w2) (Nat.le_refl _) ?_; intro W3 hW3 hbW3 hkW hsW; have hx3 := hx2.trans (hbW3.mono hx2.size); have HW3 := Lib.hid hW3; have HV3 := Lib.hid ((hbW3.block _ HW2.out.1).trans HW2.out.2); clear hkW hsW hW3)
        | (refine wpList_load_when rfl 23 _ rfl w2.heap.size rfl 23 _ HW3.out Try.underlying23 rfl hinf ?_)
        | (refine wpList_load_when rfl 23 _ rfl w.heap.size rfl 23 _ HV3.out Try.underlying23 rfl hinf ?_)
        | (have hguard := hx4; clear hguard; refine wpList_store_fresh rfl 23 _ _ rfl w4.heap.size U rfl rfl 23 _ (HNEW.out w4) hinf2 hold2.out hone2 (HAL.out w4) (Nat.le_refl _) ?_; intro W5 hW5 hbW5 hkW hsW; have hx5 := hx4.trans (hbW5.mono hx4.size); have HW5 := Lib.hid hW5; clear hkW hsW hW5)
        | (refine wpList_load_row rfl 23 _ rfl w4.heap.size rfl 23 _ (0, 0) _ HW5.out Try.underlying23 rfl hinf2 ?_)
        | (go_at_call 11; with_reducible (refine Calls.mono (HA.out _ hx6) ?_); rintro e w7 ⟨rfl, hb7⟩; have hx7 := hx6.trans (hb7.mono hx6.size); have t1 := HT.out w7 A6 c6 ((hi6.below hb7).more hb7.size); have t2 := HT.out w7 A c ((HI.out.below hx7).more hx7.size)))
      go_ret
      exact ⟨rfl, hx7⟩
    · have d1 : (D != 0) = true := by rw [bne_iff_ne]; exact hD
      have d2 : (D == 0) = false := by rw [beq_eq_false_iff_ne]; exact hD
      clear hD H4
      go_enter Try.func5, Try.ntmps5
      go_wp2_with (first
        | (go_at_call 12; with_reducible (refine Calls.mono (H3.out _ hx3) ?_); rintro e w4 ⟨rfl, hb4⟩; have hx4 := hx3.trans (hb4.mono hx3.size))
        | (refine wpList_load_row rfl 23 _ rfl w.heap.size rfl 23 _ (0, 0) _ (HR.out V).1 Try.underlying23 rfl hinf ?_)
        | (go_at_call 9; with_reducible (refine Calls.mono (H1E.out _ (HR.out V).2.1) ?_); rintro e w1 ⟨A1, c1, rfl, hc1, hi1, hb1⟩; have hx1 := (HR.out V).2.1.trans (hb1.mono (HR.out V).2.1.size); have HW1 := Lib.hid (And.intro (Nat.lt_of_lt_of_le (HR.out V).2.2 hb1.size) ((hb1.block _ (HR.out V).2.2).trans (HR.out V).1)))
        | (go_at_call 12; with_reducible (refine Calls.mono (H2.out _ _ _ hx1 hi1 hc1) ?_); rintro e w2 ⟨rfl, hb2⟩; have hx2 := hx1.trans (hb2.mono hx1.size); have HW2 := Lib.hid (And.intro (Nat.lt_of_lt_of_le HW1.out.1 hb2.size) ((hb2.block _ HW1.out.1).trans HW1.out.2)))
        | (have hguard := hx2; clear hguard; refine wpList_store_fresh rfl 23 _ _ rfl w2.heap.size V rfl rfl 23 _ (HNEW.out w2) hinf hold.out hone (HAL.out w2) (Nat.le_refl _) ?_; intro W3 hW3 hbW3 hkW hsW; have hx3 := hx2.trans (hbW3.mono hx2.size); have HW3 := Lib.hid hW3; have HV3 := Lib.hid ((hbW3.block _ HW2.out.1).trans HW2.out.2); clear hkW hsW hW3)
        | (refine wpList_load_when rfl 23 _ rfl w2.heap.size rfl 23 _ HW3.out Try.underlying23 rfl hinf ?_)
        | (refine wpList_load_when rfl 23 _ rfl w.heap.size rfl 23 _ HV3.out Try.underlying23 rfl hinf ?_)
        | (have hguard := hx4; clear hguard; refine wpList_store_fresh rfl 23 _ _ rfl w4.heap.size U rfl rfl 23 _ (HNEW.out w4) hinf2 hold2.out hone2 (HAL.out w4) (Nat.le_refl _) ?_; intro W5 hW5 hbW5 hkW hsW; have hx5 := hx4.trans (hbW5.mono hx4.size); have HW5 := Lib.hid hW5; clear hkW hsW hW5)
        | (go_at_call 11; with_reducible (refine Calls.mono (HA.out _ hx5) ?_); rintro e w7 ⟨rfl, hb7⟩; have hx7 := hx5.trans (hb7.mono hx5.size)))
      go_ret
      exact ⟨rfl, hx7⟩
  · have k1 : (E != 0) = true := by rw [bne_iff_ne]; exact hE
    have k2 : (E == 0) = false := by rw [beq_eq_false_iff_ne]; exact hE
    clear hE H1E H2
    by_cases hD : D = 0
    · subst hD
      replace H4 := Lib.hid (H4.out rfl)
      go_enter Try.func5, Try.ntmps5
      go_wp2_with (first
        | (have hguard := hx5; clear hguard; go_at_call 9; with_reducible (refine Calls.mono (H4.out _ hx5) ?_); rintro e w6 ⟨A6, c6, rfl, hi6, hb6⟩; have hx6 := hx5.trans (hb6.mono hx5.size))
        | (refine wpList_load_row rfl 23 _ rfl w.heap.size rfl 23 _ (0, 0) _ (HR.out V).1 Try.underlying23 rfl hinf ?_)
        | (go_at_call 9; with_reducible (refine Calls.mono (H1.out _ (HR.out V).2.1) ?_); rintro e w1 ⟨A1, c1, rfl, hi1, hb1⟩; have hx1 := (HR.out V).2.1.trans (hb1.mono (HR.out V).2.1.size))
        | (go_at_call 12; with_reducible (refine Calls.mono (H3.out _ hx1) ?_); rintro e w4 ⟨rfl, hb4⟩; have hx4 := hx1.trans (hb4.mono hx1.size))
        | (have hguard := hx4; clear hguard; refine wpList_store_fresh rfl 23 _ _ rfl w4.heap.size U rfl rfl 23 _ (HNEW.out w4) hinf2 hold2.out hone2 (HAL.out w4) (Nat.le_refl _) ?_; intro W5 hW5 hbW5 hkW hsW; have hx5 := hx4.trans (hbW5.mono hx4.size); have HW5 := Lib.hid hW5; clear hkW hsW hW5)
        | (refine wpList_load_row rfl 23 _ rfl w4.heap.size rfl 23 _ (0, 0) _ HW5.out Try.underlying23 rfl hinf2 ?_)
        | (go_at_call 11; with_reducible (refine Calls.mono (HA.out _ hx6) ?_); rintro e w7 ⟨rfl, hb7⟩; have hx7 := hx6.trans (hb7.mono hx6.size); have t1 := HT.out w7 A6 c6 ((hi6.below hb7).more hb7.size); have t2 := HT.out w7 A c ((HI.out.below hx7).more hx7.size)))
      go_ret
      exact ⟨rfl, hx7⟩
    · have d1 : (D != 0) = true := by rw [bne_iff_ne]; exact hD
      have d2 : (D == 0) = false := by rw [beq_eq_false_iff_ne]; exact hD
      clear hD H4
      go_enter Try.func5, Try.ntmps5
      go_wp2_with (first
        | (refine wpList_load_row rfl 23 _ rfl w.heap.size rfl 23 _ (0, 0) _ (HR.out V).1 Try.underlying23 rfl hinf ?_)
        | (go_at_call 9; with_reducible (refine Calls.mono (H1.out _ (HR.out V).2.1) ?_); rintro e w1 ⟨A1, c1, rfl, hi1, hb1⟩; have hx1 := (HR.out V).2.1.trans (hb1.mono (HR.out V).2.1.size))
        | (go_at_call 12; with_reducible (refine Calls.mono (H3.out _ hx1) ?_); rintro e w4 ⟨rfl, hb4⟩; have hx4 := hx1.trans (hb4.mono hx1.size))
        | (have hguard := hx4; clear hguard; refine wpList_store_fresh rfl 23 _ _ rfl w4.heap.size U rfl rfl 23 _ (HNEW.out w4) hinf2 hold2.out hone2 (HAL.out w4) (Nat.le_refl _) ?_; intro W5 hW5 hbW5 hkW hsW; have hx5 := hx4.trans (hbW5.mono hx4.size); have HW5 := Lib.hid hW5; clear hkW hsW hW5)
        | (go_at_call 11; with_reducible (refine Calls.mono (HA.out _ hx5) ?_); rintro e w7 ⟨rfl, hb7⟩; have hx7 := hx5.trans (hb7.mono hx5.size)))
      go_ret
      exact ⟨rfl, hx7⟩

end Go.Proofs.Ytbmgiekiildaaaa
