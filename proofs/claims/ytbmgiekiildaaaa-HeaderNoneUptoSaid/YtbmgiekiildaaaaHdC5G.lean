/-
  The landed header: Decode. (After the landed line's own walk.) The document's own header: Decode (stowageref18).
-/
import Derived.Test.YtbmgiekiildaaaaHdC4G
import Derived.Test.YtbmgiekiildaaaaHdC8G
import Derived.Test.YtbmgiekiildaaaaLowG
namespace Go.Proofs.Ytbmgiekiildaaaa
open Go.RowKit

theorem textH_apart {x y : List Int} (hx : ∀ z ∈ x, 0 ≤ z ∧ z ≤ 255) (hy : ∀ z ∈ y, 0 ≤ z ∧ z ≤ 255) : ((strOfNums x).toList == (strOfNums y).toList) = decide (x = y) := by
  rw [Lib.strOfNums_toList, Lib.strOfNums_toList]
  by_cases h : x = y
  · rw [h, decide_eq_true rfl]; exact beq_self_eq_true _
  · rw [decide_eq_false h, beq_eq_false_iff_ne]
    intro e
    have e2 : keyI (strOfNums x) = keyI (strOfNums y) := congrArg (fun l : List UInt8 => l.map fun b : UInt8 => ((b.toNat : Nat) : Int)) e
    exact h (by rw [← keyI_str hx, ← keyI_str hy, e2])
/-- 'bytes.Equal'. -/
theorem hequal_any (A1 A2 : Option Addr) (c1 c2 : Nat) (x y : List Int) (w : World) (h1 : Ints w w.heap.size .u8 A1 x) (h2 : Ints w w.heap.size .u8 A2 y) (m1 : ∀ z ∈ x, 0 ≤ z ∧ z ≤ 255) (m2 : ∀ z ∈ y, 0 ≤ z ∧ z ≤ 255) :
    Calls Try.prog 24 #[.slice A1 x.length c1, .slice A2 y.length c2] w fun e w' => e = .returned (.bool (decide (x = y))) ∧ w' = w := by
  have H := textH_apart m1 m2
  have t1 := h1.textAs (P := Try.prog) Try.underlying24 Try.underlying5 Try.underlying9 rfl rfl c1
  have t2 := h2.textAs (P := Try.prog) Try.underlying24 Try.underlying5 Try.underlying9 rfl rfl c2
  obtain ⟨s1, hs1⟩ : ∃ s, s = strOfNums x := ⟨_, rfl⟩
  obtain ⟨s2, hs2⟩ : ∃ s, s = strOfNums y := ⟨_, rfl⟩
  rw [← hs1] at t1 H
  rw [← hs2] at t2 H
  obtain ⟨B, hB⟩ : ∃ B, B = decide (x = y) := ⟨_, rfl⟩
  rw [← hB] at H ⊢
  obtain ⟨N1, hN1⟩ : ∃ N, N = x.length := ⟨_, rfl⟩
  obtain ⟨N2, hN2⟩ : ∃ N, N = y.length := ⟨_, rfl⟩
  rw [← hN1] at t1 ⊢
  rw [← hN2] at t2 ⊢
  clear hs1 hs2 hB h1 h2 m1 m2 hN1 hN2
  go_enter Try.func24, Try.ntmps24
  go_wp2
  go_ret
  exact ⟨rfl, rfl⟩

theorem hres_row_tmp {P : Program} {fn : Func} {p u : Tmp} {ty : TypeId} (h : fn.results = #[.cell p ty, .tmp u]) (tmps : Array Value) (w : World) (g : Nat) (t : TypeId) (cs : Array Value) (fr : Nat × Nat) (d : TypeDesc)
    (hp : tmps.getD p undef = .pointer (some ⟨g, 0, none⟩)) (hg : w.heap[g]? = some (.cells cs t fr))
    (hu : P.underlying ty = some d) (hd : (match d with | .struct _ | .array _ _ => true | _ => false) = true) (hi : (P.info? ty).map (·.size) = some cs.size) :
    (results fn tmps).run P w = .ok (.tuple #[.agg cs, tmps.getD u undef]) w := by
  have hp' : tmps[p]?.getD undef = .pointer (some ⟨g, 0, none⟩) := by simpa using hp
  simp [results, h, hp', asAddr, run_loadVar_row w g t ty cs fr d hg hu hd hi]
/-- The first comparison of 'Decode'. -/
theorem hequal_zero (b o c : Nat) (bs : List Int) (w : World) (h : Ints w w.heap.size .u8 (some ⟨b, o, none⟩) bs) (hz : ∀ z ∈ bs, 0 ≤ z ∧ z ≤ 255) (hl : bs.length = 64) :
    Calls Try.prog 24 #[.slice (some ⟨b, o, none⟩) 64 c, .slice (some ⟨w.heap.size + 1, 0, none⟩) 64 64] ((w.alloc (.cells zeroH 23)).alloc (.cells (UB zero64) 5)) (fun e w' => e = .returned (.bool (decide (bs = zero64))) ∧ w' = (w.alloc (.cells zeroH 23)).alloc (.cells (UB zero64) 5)) ∧
    Below w.heap.size w ((w.alloc (.cells zeroH 23)).alloc (.cells (UB zero64) 5)) ∧ ((w.alloc (.cells zeroH 23)).alloc (.cells (UB zero64) 5)).heap[w.heap.size]? = some (.cells zeroH 23 (0, 0)) := by
  have hb : Below w.heap.size w ((w.alloc (.cells zeroH 23)).alloc (.cells (UB zero64) 5)) := ((Below.refl _ _).alloc (Nat.le_refl _) _).alloc (by simp) _
  have hr := BtRow.new (w.alloc (.cells zeroH 23)) 5 zero64
  rw [show (w.alloc (.cells zeroH 23)).heap.size = w.heap.size + 1 by simp] at hr
  have h1 := hequal_any (some ⟨b, o, none⟩) (some ⟨w.heap.size + 1, 0, none⟩) c 64 bs zero64 _ ((h.below hb).more hb.size) hr.ints hz (fun z hz => by have := List.eq_of_mem_replicate hz; omega)
  rw [hl, show zero64.length = 64 from rfl] at h1
  exact ⟨h1, hb, by rw [Below.heap_alloc _ _ _ (by simp)]; exact heap_alloc_new _ _⟩

set_option maxHeartbeats 800000 in
set_option maxRecDepth 20000 in
/-- 'Decode', of other than 64 bytes. -/
theorem hdecode_len (A : Option Addr) (c : Nat) (bs : List Int) (w : World) (hl : bs.length ≠ 64) :
    Calls Try.prog 12 #[.slice A bs.length c] w fun e w' => e = .returned (.tuple #[.agg (rcV hZero), .int .i64 2]) ∧ Below w.heap.size w w' := by
  have hinf : (Try.prog.info? 23).map (·.size) = some zeroH.size := Try.infoHead
  have hone : zeroH.all (·.oneCell') = true := rcV_ones hZero
  have HW : Hid ((w.alloc (.cells zeroH 23)).heap[w.heap.size]? = some (.cells zeroH 23 (0, 0)) ∧ Below w.heap.size w (w.alloc (.cells zeroH 23))) := ⟨heap_alloc_new _ _, (Below.refl _ _).alloc (Nat.le_refl _) _⟩
  have e1 : ((bs.length : Int) != 64) = true := by rw [bne_iff_ne]; omega
  obtain ⟨N, hN⟩ : ∃ N, N = bs.length := ⟨_, rfl⟩
  rw [← hN] at e1 ⊢
  clear hN hl
  go_enter Try.func12, Try.ntmps12
  go_wp2_with (refine wpList_store_fresh rfl 23 _ _ rfl w.heap.size zeroH rfl rfl 23 _ HW.out.1 hinf rfl hone HW.out.2 (Nat.le_refl _) ?_; intro W hW hbW hkW hsW; clear hkW hsW)
  exact bodyPost_ret (hres_row_tmp rfl _ _ w.heap.size _ _ _ _ rfl hW Try.underlying23 rfl hinf) rfl ⟨rfl, hbW⟩

set_option maxHeartbeats 1600000 in
set_option maxRecDepth 20000 in
/-- 'Decode', of 64 bytes 0. -/
theorem hdecode_zero (b o c : Nat) (w : World) (h : Ints w w.heap.size .u8 (some ⟨b, o, none⟩) zero64) :
    Calls Try.prog 12 #[.slice (some ⟨b, o, none⟩) 64 c] w fun e w' => e = .returned (.tuple #[.agg (rcV hZero), .int .i64 4]) ∧ Below w.heap.size w w' := by
  have hinf0 : (Try.prog.info? 23).map (·.size) = some zeroH.size := Try.infoHead
  have hone0 : zeroH.all (·.oneCell') = true := rcV_ones hZero
  obtain ⟨HE, HB, HQ⟩ := hequal_zero b o c zero64 w h (fun z hz => by have := List.eq_of_mem_replicate hz; omega) rfl
  rw [decide_eq_true rfl] at HE
  have HE := Lib.hid HE
  have HBQ := Lib.hid (And.intro HB HQ)
  have hmk : ∀ w : World, (Instr.makeSlice 24 (.int .i64 64) (.int .i64 64)).run Try.prog w = .ok (.slice (some ⟨w.heap.size, 0, none⟩) 64 64) (w.alloc (.cells (UB zero64) 5)) := makeBytes 64 (by decide)
  obtain ⟨O, hO⟩ : ∃ O, O = UB zero64 := ⟨_, rfl⟩
  rw [← hO] at HE HBQ hmk
  unfold zeroH at HE HBQ
  clear h hO HB HQ
  go_enter Try.func12, Try.ntmps12
  go_wp2_with (first
    | (go_at_call 24; with_reducible (refine Calls.mono HE.out ?_); rintro e w4 ⟨rfl, hw4⟩; have hx4 := HBQ.out; rw [← hw4] at hx4; have hx := Lib.hid hx4; clear hx4 hw4)
    | (have hguard := hx; clear hguard; refine wpList_store_fresh rfl 23 _ _ rfl w.heap.size zeroH rfl rfl 23 _ hx.out.2 hinf0 rfl hone0 hx.out.1 (Nat.le_refl _) ?_; intro W hW hbW hkW hsW; clear hkW hsW))
  exact bodyPost_ret (hres_row_tmp rfl _ _ w.heap.size _ _ _ _ rfl hW Try.underlying23 rfl hinf0) rfl ⟨rfl, hbW⟩

set_option maxHeartbeats 1600000 in
set_option maxRecDepth 20000 in
/-- 'Decode', of other 64 bytes. -/
theorem hdecode_64 (b o c : Nat) (bs : List Int) (w : World) (h : Ints w w.heap.size .u8 (some ⟨b, o, none⟩) bs) (hz : ∀ z ∈ bs, 0 ≤ z ∧ z ≤ 255) (hl : bs.length = 64) (hc : 64 ≤ c) (hnz : bs ≠ zero64) :
    Calls Try.prog 12 #[.slice (some ⟨b, o, none⟩) 64 c] w fun e w' => e = .returned (.tuple #[.agg (rcV (hDec bs).2), .int .i64 (hDec bs).1]) ∧ Below w.heap.size w w' := by
  have HDR : hDec bs = if hErr (hRead bs) = 0 ∧ hSec (hRead bs) = bs then (0, hRead bs) else (2, hZero) := by
    unfold hDec
    rw [if_neg hnz]
    by_cases q : hErr (hRead bs) = 0 ∧ hSec (hRead bs) = bs
    · rw [if_pos q, if_pos ⟨hl, q⟩]
    · rw [if_neg q, if_neg (fun h => q h.2)]
  obtain ⟨HE, HB, HQ⟩ := hequal_zero b o c bs w h hz hl
  rw [decide_eq_false hnz] at HE
  have HE := Lib.hid HE
  have HBQ := Lib.hid (And.intro HB HQ)
  have hmk : ∀ w : World, (Instr.makeSlice 24 (.int .i64 64) (.int .i64 64)).run Try.prog w = .ok (.slice (some ⟨w.heap.size, 0, none⟩) 64 64) (w.alloc (.cells (UB zero64) 5)) := makeBytes 64 (by decide)
  obtain ⟨O, hO⟩ : ∃ O, O = UB zero64 := ⟨_, rfl⟩
  rw [← hO] at HE HBQ hmk
  have HRD : Hid (∀ W, Below w.heap.size w W → Calls Try.prog 25 #[.slice (some ⟨b, o, none⟩) 64 c] W fun e w' => e = .returned (.agg (rcV (hRead bs))) ∧ Below W.heap.size W w') := fun W hb => hread_any b o c bs W ((h.below hb).more hb.size) hz hl hc
  have hinf0 : (Try.prog.info? 23).map (·.size) = some zeroH.size := Try.infoHead
  have hone0 : zeroH.all (·.oneCell') = true := rcV_ones hZero
  have hinf : (Try.prog.info? 23).map (·.size) = some (rcV (hRead bs)).size := Try.infoHead
  have hone := rcV_ones (hRead bs)
  have hsz : Hid (zeroH.size = (rcV (hRead bs)).size) := rfl
  have HNW : Hid (∀ W : World, (W.alloc (.cells zeroH 23)).heap[W.heap.size]? = some (.cells zeroH 23 (0, 0)) ∧ Below W.heap.size W (W.alloc (.cells zeroH 23))) := fun W => ⟨heap_alloc_new _ _, (Below.refl _ _).alloc (Nat.le_refl _) _⟩
  have HEQ : Hid (hErr (hRead bs) = 0 → ∀ (W : World) A' c', Below w.heap.size w W → Ints W W.heap.size .u8 A' (hSec (hRead bs)) → Calls Try.prog 24 #[.slice A' 64 c', .slice (some ⟨b, o, none⟩) 64 c] W fun e w' => e = .returned (.bool (decide (hSec (hRead bs) = bs))) ∧ w' = W) := fun hE W A' c' hb hi => by
    have := hequal_any A' (some ⟨b, o, none⟩) c' c (hSec (hRead bs)) bs W hi ((h.below hb).more hb.size) (hSec_mem _) hz
    rw [hSec_len (hErr_zero.1 hE).2, hl] at this
    exact this
  have HEY := Lib.hid (fun W => hencode_yes (hRead bs) W)
  have HEN := Lib.hid (fun W => hencode_no (hRead bs) W)
  obtain ⟨P, hP⟩ : ∃ P, P = hRead bs := ⟨_, rfl⟩
  simp only [← hP] at HDR HRD hinf hone hsz HEQ HEY HEN
  obtain ⟨L, hL⟩ : ∃ L, L = rcV P := ⟨_, rfl⟩
  simp only [← hL] at HRD hinf hone hsz HEY HEN
  have HLL := Lib.hid hL
  unfold zeroH at HE HBQ HNW
  clear h hP hL hO HB HQ hnz
  by_cases hE : hErr P = 0
  · replace HEY := Lib.hid (fun W => HEY.out W hE)
    replace HEQ := Lib.hid (HEQ.out hE)
    by_cases hq : hSec P = bs
    · rw [decide_eq_true hq] at HEQ
      rw [HDR, if_pos ⟨hE, hq⟩]
      simp only []
      rw [← HLL.out]
      obtain ⟨E, hEE⟩ : ∃ E, E = hSec P := ⟨_, rfl⟩
      simp only [← hEE] at HEY HEQ
      clear HEN HDR hE hq hEE HLL
      go_enter Try.func12, Try.ntmps12
      go_wp2_with (first
        | (go_at_call 24; with_reducible (refine Calls.mono HE.out ?_); rintro e w0 ⟨rfl, hw4⟩; have hx4 := HBQ.out; rw [← hw4] at hx4; have hx := Lib.hid hx4; clear hx4 hw4) | (have hguard := hx; clear hguard; go_at_call 25; with_reducible (refine Calls.mono (HRD.out _ hx.out.1) ?_); rintro e w1 ⟨rfl, hb1⟩; have x1 := hx.out.1.trans (hb1.mono hx.out.1.size); have q1 := (hb1.block _ (Array.getElem?_eq_some_iff.1 hx.out.2).1).trans hx.out.2; have s1 := (Array.getElem?_eq_some_iff.1 q1).1; have hq1 := Lib.hid q1; clear q1)
        | (refine wpList_store_fresh rfl 23 _ _ rfl w1.heap.size L rfl rfl 23 _ (HNW.out w1).1 hinf hsz.out hone (HNW.out w1).2 (Nat.le_refl _) ?_; intro W2 hW2 hbW2 hkW hsW; have x2 := x1.trans (hbW2.mono x1.size); have hq2 := Lib.hid ((hbW2.block _ s1).trans hq1.out); have s2 := (Array.getElem?_eq_some_iff.1 hW2).1; have hr2 := Lib.hid hW2; clear hkW hsW hW2)
        | (refine wpList_load_row rfl 23 _ rfl w1.heap.size rfl 23 _ (0, 0) _ hr2.out Try.underlying23 rfl hinf ?_)
        | (go_at_call 9; with_reducible (refine Calls.mono (HEY.out _) ?_); rintro e w3 ⟨A3, c3, rfl, _, hi3, hb3⟩; have x3 := x2.trans (hb3.mono x2.size); have hq3 := Lib.hid ((hb3.block _ (Nat.lt_of_lt_of_le s1 hbW2.size)).trans hq2.out); have hr3 := Lib.hid ((hb3.block _ s2).trans hr2.out))
        | (go_at_call 24; with_reducible (refine Calls.mono (HEQ.out _ _ _ x3 hi3) ?_); rintro e w4 ⟨rfl, hw4⟩; obtain rfl := hw4.symm)
        | (have hguard := hr3; clear hguard; refine wpList_load_row rfl 23 _ rfl w1.heap.size rfl 23 _ (0, 0) _ hr3.out Try.underlying23 rfl hinf ?_)
        | (have hguard := hr3; clear hguard; refine wpList_store_fresh rfl 23 _ _ rfl w.heap.size L rfl rfl 23 _ hq3.out hinf hsz.out hone x3 (Nat.le_refl _) ?_; intro W hW hbW hkW hsW; clear hkW hsW))
      exact bodyPost_ret (hres_row_tmp rfl _ _ w.heap.size _ _ _ _ rfl hW Try.underlying23 rfl hinf) rfl ⟨rfl, hbW⟩
    · rw [decide_eq_false hq] at HEQ
      rw [HDR, if_neg (fun h => hq h.2)]
      simp only []
      obtain ⟨E, hEE⟩ : ∃ E, E = hSec P := ⟨_, rfl⟩
      simp only [← hEE] at HEY HEQ
      clear HEN HDR hE hq hEE HLL
      go_enter Try.func12, Try.ntmps12
      go_wp2_with (first
        | (go_at_call 24; with_reducible (refine Calls.mono HE.out ?_); rintro e w0 ⟨rfl, hw4⟩; have hx4 := HBQ.out; rw [← hw4] at hx4; have hx := Lib.hid hx4; clear hx4 hw4) | (have hguard := hx; clear hguard; go_at_call 25; with_reducible (refine Calls.mono (HRD.out _ hx.out.1) ?_); rintro e w1 ⟨rfl, hb1⟩; have x1 := hx.out.1.trans (hb1.mono hx.out.1.size); have q1 := (hb1.block _ (Array.getElem?_eq_some_iff.1 hx.out.2).1).trans hx.out.2; have s1 := (Array.getElem?_eq_some_iff.1 q1).1; have hq1 := Lib.hid q1; clear q1)
        | (refine wpList_store_fresh rfl 23 _ _ rfl w1.heap.size L rfl rfl 23 _ (HNW.out w1).1 hinf hsz.out hone (HNW.out w1).2 (Nat.le_refl _) ?_; intro W2 hW2 hbW2 hkW hsW; have x2 := x1.trans (hbW2.mono x1.size); have hq2 := Lib.hid ((hbW2.block _ s1).trans hq1.out); have s2 := (Array.getElem?_eq_some_iff.1 hW2).1; have hr2 := Lib.hid hW2; clear hkW hsW hW2)
        | (refine wpList_load_row rfl 23 _ rfl w1.heap.size rfl 23 _ (0, 0) _ hr2.out Try.underlying23 rfl hinf ?_)
        | (go_at_call 9; with_reducible (refine Calls.mono (HEY.out _) ?_); rintro e w3 ⟨A3, c3, rfl, _, hi3, hb3⟩; have x3 := x2.trans (hb3.mono x2.size); have hq3 := Lib.hid ((hb3.block _ (Nat.lt_of_lt_of_le s1 hbW2.size)).trans hq2.out); have hr3 := Lib.hid ((hb3.block _ s2).trans hr2.out))
        | (go_at_call 24; with_reducible (refine Calls.mono (HEQ.out _ _ _ x3 hi3) ?_); rintro e w4 ⟨rfl, hw4⟩; obtain rfl := hw4.symm)
        | (have hguard := hr3; clear hguard; refine wpList_store_fresh rfl 23 _ _ rfl w.heap.size zeroH rfl rfl 23 _ hq3.out hinf0 rfl hone0 x3 (Nat.le_refl _) ?_; intro W hW hbW hkW hsW; clear hkW hsW))
      exact bodyPost_ret (hres_row_tmp rfl _ _ w.heap.size _ _ _ _ rfl hW Try.underlying23 rfl hinf0) rfl ⟨rfl, hbW⟩
  · replace HEN := Lib.hid (fun W => HEN.out W hE)
    rw [HDR, if_neg (fun h => hE h.1)]
    simp only []
    obtain ⟨E, hEE⟩ : ∃ E, E = hErr P := ⟨_, rfl⟩
    rw [← hEE] at hE
    simp only [← hEE] at HEN
    have e1 : (E != 0) = true := by rw [bne_iff_ne]; exact hE
    clear HEY HEQ HDR hE hEE HLL
    go_enter Try.func12, Try.ntmps12
    go_wp2_with (first
      | (go_at_call 24; with_reducible (refine Calls.mono HE.out ?_); rintro e w0 ⟨rfl, hw4⟩; have hx4 := HBQ.out; rw [← hw4] at hx4; have hx := Lib.hid hx4; clear hx4 hw4) | (have hguard := hx; clear hguard; go_at_call 25; with_reducible (refine Calls.mono (HRD.out _ hx.out.1) ?_); rintro e w1 ⟨rfl, hb1⟩; have x1 := hx.out.1.trans (hb1.mono hx.out.1.size); have q1 := (hb1.block _ (Array.getElem?_eq_some_iff.1 hx.out.2).1).trans hx.out.2; have s1 := (Array.getElem?_eq_some_iff.1 q1).1; have hq1 := Lib.hid q1; clear q1)
      | (refine wpList_store_fresh rfl 23 _ _ rfl w1.heap.size L rfl rfl 23 _ (HNW.out w1).1 hinf hsz.out hone (HNW.out w1).2 (Nat.le_refl _) ?_; intro W2 hW2 hbW2 hkW hsW; have x2 := x1.trans (hbW2.mono x1.size); have hq2 := Lib.hid ((hbW2.block _ s1).trans hq1.out); have s2 := (Array.getElem?_eq_some_iff.1 hW2).1; have hr2 := Lib.hid hW2; clear hkW hsW hW2)
      | (refine wpList_load_row rfl 23 _ rfl w1.heap.size rfl 23 _ (0, 0) _ hr2.out Try.underlying23 rfl hinf ?_)
      | (go_at_call 9; with_reducible (refine Calls.mono (HEN.out _) ?_); rintro e w3 ⟨A3, c3, rfl, hb3⟩; have x3 := x2.trans (hb3.mono x2.size); have hq3 := Lib.hid ((hb3.block _ (Nat.lt_of_lt_of_le s1 hbW2.size)).trans hq2.out))
      | (have hguard := hq3; clear hguard; refine wpList_store_fresh rfl 23 _ _ rfl w.heap.size zeroH rfl rfl 23 _ hq3.out hinf0 rfl hone0 x3 (Nat.le_refl _) ?_; intro W hW hbW hkW hsW; clear hkW hsW))
    exact bodyPost_ret (hres_row_tmp rfl _ _ w.heap.size _ _ _ _ rfl hW Try.underlying23 rfl hinf0) rfl ⟨rfl, hbW⟩

/-- 'Decode'. -/
theorem hdecode_any (A : Option Addr) (c : Nat) (bs : List Int) (w : World) (h : Ints w w.heap.size .u8 A bs) (hz : ∀ z ∈ bs, 0 ≤ z ∧ z ≤ 255) (hc : bs.length ≤ c) :
    Calls Try.prog 12 #[.slice A bs.length c] w fun e w' => e = .returned (.tuple #[.agg (rcV (hDec bs).2), .int .i64 (hDec bs).1]) ∧ Below w.heap.size w w' := by
  by_cases h0 : bs = zero64
  · subst h0
    obtain ⟨b, o, rfl, _⟩ := h.at_ (by decide)
    have e : hDec zero64 = (4, hZero) := if_pos rfl
    rw [e]
    exact hdecode_zero b o c w h
  · by_cases hl : bs.length = 64
    · obtain ⟨b, o, rfl, _⟩ := h.at_ (by omega)
      rw [hl]
      exact hdecode_64 b o c bs w h hz hl (by omega) h0
    · have e : hDec bs = (2, hZero) := by unfold hDec; rw [if_neg h0, if_neg (fun q => hl q.1)]
      rw [e]
      exact hdecode_len A c bs w hl

end Go.Proofs.Ytbmgiekiildaaaa

namespace Go.Proofs.Ytbmgiekiildaaaa
open Go.RowKit

theorem hor_byte (v x : Int) (hv : 0 ≤ v ∧ v < 72057594037927936) (hx : 0 ≤ x ∧ x ≤ 255) : bits .or .i64 (IntKind.i64.wrap (v * 256)) x = wr64 (v * 256 + x) := by
  have h1 : (BitVec.ofInt 64 (IntKind.i64.wrap (v * 256))).toNat = (v * 256).toNat := by
    rw [BitVec.toNat_ofInt, IntKind.wrap_i64]
    omega
  have h2 : (BitVec.ofInt 64 x).toNat = x.toNat := by
    rw [BitVec.toNat_ofInt]
    omega
  have h3 : (v * 256).toNat ||| x.toNat = (v * 256 + x).toNat := by
    rw [nat_join 8 _ _ (by omega) (by omega)]
    omega
  show IntKind.i64.wrap (((BitVec.ofInt 64 (IntKind.i64.wrap (v * 256)) ||| BitVec.ofInt 64 x).toNat : Nat) : Int) = _
  rw [BitVec.toNat_or, h1, h2, h3]
  unfold wr64
  congr 1
  omega

theorem hrefEnc_bad (h : Rc) (w : World) (hE : hErr h ≠ 0) :
    Calls Try.prog 10 #[.agg (rcV h)] w fun e w' => e = .returned (.tuple #[.slice none 0 0, .int .i64 (hErr h)]) ∧ Below w.heap.size w w' := by
  by_cases hr : hRng h
  · have hk : h.key.size ≠ 16 := fun q => hE (hErr_zero.2 ⟨hr, q⟩)
    rw [show hErr h = 1 by unfold hErr; rw [if_pos hr, if_neg hk]]
    exact hrefEnc_key h w hr hk
  · rw [show hErr h = 7 by unfold hErr; rw [if_neg hr]]
    exact hrefEnc_no h w hr

set_option maxHeartbeats 1600000 in
set_option maxRecDepth 20000 in
/-- 'Decode', of 64 bytes 0, or of other than 64 bytes. -/
theorem hrefDec_short (A : Option Addr) (c : Nat) (bs : List Int) (w : World) (h : Ints w w.heap.size .u8 A bs) (hz : ∀ z ∈ bs, 0 ≤ z ∧ z ≤ 255) (hs : bs = zero64 ∨ bs.length ≠ 64) :
    Calls Try.prog 13 #[.slice A bs.length c] w fun e w' => e = .returned (.tuple #[.agg (rcV hZero), .int .i64 (if bs = zero64 then 4 else 2)]) ∧ Below w.heap.size w w' := by
  have hinf0 : (Try.prog.info? 23).map (·.size) = some zeroH.size := Try.infoHead
  have hone0 : zeroH.all (·.oneCell') = true := rcV_ones hZero
  obtain ⟨W0, hW0⟩ : ∃ W, W = w.alloc (.cells zeroH 23) := ⟨_, rfl⟩
  have hq0 : W0.heap[w.heap.size]? = some (.cells zeroH 23 (0, 0)) := by rw [hW0]; exact heap_alloc_new _ _
  have hb0 : Below w.heap.size w W0 := by rw [hW0]; exact (Below.refl _ _).alloc (Nat.le_refl _) _
  have hmk : ∀ w : World, (Instr.makeSlice 24 (.int .i64 64) (.int .i64 64)).run Try.prog w = .ok (.slice (some ⟨w.heap.size, 0, none⟩) 64 64) (w.alloc (.cells (UB zero64) 5)) := makeBytes 64 (by decide)
  have hi0 := h.below hb0
  have hr1 := BtRow.new W0 5 zero64
  have hb1 : Below w.heap.size w (W0.alloc (.cells (UB zero64) 5)) := hb0.alloc hb0.size _
  have hi1 := h.below hb1
  have hzz : ∀ z ∈ zero64, 0 ≤ z ∧ z ≤ 255 := fun z hz => by have := List.eq_of_mem_replicate hz; omega
  have HTX := textH_apart hz hzz
  have c1 := hi0.textAs (P := Try.prog) Try.underlying24 Try.underlying5 Try.underlying9 rfl rfl c
  have c2 := hi1.textAs (P := Try.prog) Try.underlying24 Try.underlying5 Try.underlying9 rfl rfl c
  have c3 := hr1.ints.textAs (P := Try.prog) (n := 64) Try.underlying24 Try.underlying5 Try.underlying9 rfl rfl 64
  have c1d := hi0.drew.textAs (P := Try.prog) Try.underlying24 Try.underlying5 Try.underlying9 rfl rfl c
  have c2d := hi1.drew.textAs (P := Try.prog) Try.underlying24 Try.underlying5 Try.underlying9 rfl rfl c
  have c3d := hr1.ints.drew.textAs (P := Try.prog) (n := 64) Try.underlying24 Try.underlying5 Try.underlying9 rfl rfl 64
  have hl : bs ≠ zero64 → ((bs.length : Int) != 64) = true := fun q => by rw [bne_iff_ne]; rcases hs with h | h; exact absurd h q; omega
  obtain ⟨D, hD⟩ : ∃ D, D = decide (bs = zero64) := ⟨_, rfl⟩
  have hl2 : D = false → ((bs.length : Int) != 64) = true := fun q => hl (of_decide_eq_false (hD ▸ q))
  rw [show (if bs = zero64 then (4 : Int) else 2) = if D = true then 4 else 2 by rw [hD]; simp]
  rw [← hD] at HTX
  obtain ⟨s1, hs1⟩ : ∃ s, s = strOfNums bs := ⟨_, rfl⟩
  obtain ⟨s2, hs2⟩ : ∃ s, s = strOfNums zero64 := ⟨_, rfl⟩
  rw [← hs1] at c1 c2 c1d c2d HTX
  rw [← hs2] at c3 c3d HTX
  obtain ⟨N, hN⟩ : ∃ N, N = bs.length := ⟨_, rfl⟩
  rw [← hN] at c1 c2 c1d c2d hl2 ⊢
  obtain ⟨O, hO⟩ : ∃ O, O = UB zero64 := ⟨_, rfl⟩
  rw [← hO] at hmk c2 c3 c2d c3d hb1
  have hq1 : (W0.alloc (.cells O 5)).heap[w.heap.size]? = some (.cells zeroH 23 (0, 0)) := by rw [Below.heap_alloc _ _ _ (Array.getElem?_eq_some_iff.1 hq0).1]; exact hq0
  have HQB := Lib.hid (And.intro hq1 hb1)
  have HW0 := Lib.hid hW0
  unfold zeroH at hW0
  clear h hi0 hr1 hb1 hi1 hzz hz hs hl hD hs1 hs2 hN hO hq1
  cases D
  · have hl3 := hl2 rfl
    go_enter Try.func13, Try.ntmps13
    go_wp2
    rw [← hW0]
    clear hW0
    go_region
    all_goals
      obtain ⟨V, hV⟩ : ∃ V, V = (W0.alloc (.cells O 5)).drew := ⟨_, rfl⟩
      rw [← hV]
      have hq : V.heap[w.heap.size]? = some (.cells zeroH 23 (0, 0)) := by rw [hV]; exact HQB.out.1
      have hb : Below w.heap.size w V := by rw [hV]; exact HQB.out.2.drew
      have HV := Lib.hid (And.intro hq hb)
      clear hV hq hb
      go_wp2_with (refine wpList_store_fresh rfl 23 _ _ rfl w.heap.size zeroH rfl rfl 23 _ HV.out.1 hinf0 rfl hone0 HV.out.2 (Nat.le_refl _) ?_; intro W hW hbW hkW hsW; clear hkW hsW)
      exact bodyPost_ret (hres_row_tmp rfl _ _ w.heap.size _ _ _ _ rfl hW Try.underlying23 rfl hinf0) rfl ⟨rfl, hbW⟩
  · clear hl2
    go_enter Try.func13, Try.ntmps13
    go_wp2
    rw [← hW0]
    clear hW0
    go_region
    all_goals
      obtain ⟨V, hV⟩ : ∃ V, V = (W0.alloc (.cells O 5)).drew := ⟨_, rfl⟩
      rw [← hV]
      have hq : V.heap[w.heap.size]? = some (.cells zeroH 23 (0, 0)) := by rw [hV]; exact HQB.out.1
      have hb : Below w.heap.size w V := by rw [hV]; exact HQB.out.2.drew
      have HV := Lib.hid (And.intro hq hb)
      clear hV hq hb
      go_wp2_with (refine wpList_store_fresh rfl 23 _ _ rfl w.heap.size zeroH rfl rfl 23 _ HV.out.1 hinf0 rfl hone0 HV.out.2 (Nat.le_refl _) ?_; intro W hW hbW hkW hsW; clear hkW hsW)
      exact bodyPost_ret (hres_row_tmp rfl _ _ w.heap.size _ _ _ _ rfl hW Try.underlying23 rfl hinf0) rfl ⟨rfl, hbW⟩

end Go.Proofs.Ytbmgiekiildaaaa
