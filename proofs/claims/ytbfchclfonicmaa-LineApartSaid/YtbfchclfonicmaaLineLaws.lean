/-
  The law's own 'awake', from what is asked of the layer line.
-/
import Derived.Test.YtbfchclfonicmaaLineSame
import Derived.Test.YtbfchclfonicmaaLineRef6
namespace Go.Proofs.Ytbfchclfonicmaa
open Go.RowKit

def ln1 : Ln := ⟨1, 0, true, ⟨9, 3, 1, 0, 0, ⟨#[]⟩⟩⟩
theorem ln1_E : encE ln1 = 0 := by decide +kernel
theorem ln1_ok : ln1.ok := ⟨⟨by decide, by decide⟩, ⟨by decide, by decide⟩, ⟨⟨by decide, by decide⟩, ⟨by decide, by decide⟩, ⟨by decide, by decide⟩, ⟨by decide, by decide⟩, ⟨by decide, by decide⟩, by decide⟩⟩
theorem repl_one {b : List Int} {l : Ln} (hd : decR b = (0, l)) (hs : l.s = 0) (hl : l.last = true) : (replR [b] l.g).length = 1 := by
  have h0 : decR (([b] : List (List Int)).getD 0 []) = (0, l) := hd
  have hg : goodAt [b] l.g 0 = true := by
    unfold goodAt
    rw [h0]
    simp [hs]
  have hla : lastAt [b] 0 = true := by unfold lastAt; rw [h0]; exact hl
  rw [replR_eq (k := 1) (by simp) (fun i hi => by rw [show i = 0 by omega]; exact hg) (fun h => absurd h (by simp)), (outTo_next_yes hla).1, List.length_append]
  rfl
theorem ln1_repl : (replR [encB ln1] 1).length = 1 := repl_one (l := ln1) (dec_enc ln1_E) rfl rfl
theorem encB_bound {l : Ln} (h : encE l = 0) : (encB l).length ≤ 9223372036854775807 := by rw [encB_len h]; decide

set_option maxHeartbeats 1600000 in
set_option maxRecDepth 20000 in
theorem lineAwake {w0 : World} (HS : LineSpec w0) (w : World) (hw : Below w0.heap.size w0 w) : Calls Try.prog 12 #[] w fun e w' => e = .returned (.bool true) ∧ Below w.heap.size w w' := by
  have H1 := Lib.hid (fun W (hb : Below w.heap.size w W) => HS.enc ln1 W (hw.trans (hb.mono hw.size)) ln1_ok ln1_E)
  have H2 : Hid (∀ (W : World) (A : Option Addr) (c : Nat), Below w.heap.size w W → Ints W W.heap.size .u8 A (encB ln1) → 64 ≤ c → Calls Try.prog 13 #[.slice A 64 c] W fun e w' => e = .returned (.tuple #[.agg (lnV ln1), .int .i64 0]) ∧ Below W.heap.size W w') := fun W A c hb hi hc => by
    have h := HS.dec A c (encB ln1) W (hw.trans (hb.mono hw.size)) hi (encB_mem _) (by rw [encB_len ln1_E]; exact hc) (encB_bound ln1_E)
    rw [dec_enc ln1_E, encB_len ln1_E] at h
    exact h
  have H3 : Hid (∀ (W : World) (A : Option Addr) (c : Nat), Below w.heap.size w W → Ints W W.heap.size .u8 A (encB ln1) → 64 ≤ c → Calls Try.prog 16 #[.slice (some ⟨W.heap.size, 0, none⟩) 1 1, .int .i64 1] (W.alloc (.cells #[.slice A 64 c] 26)) fun e w' => ∃ A' c', e = .returned (.slice A' 1 c') ∧ Below W.heap.size W w') := fun W A c hb hi hc => by
    have hba : Below W.heap.size W (W.alloc (.cells #[.slice A 64 c] 26)) := (Below.refl _ _).alloc (Nat.le_refl _) _
    have hsec : Secs (W.alloc (.cells #[.slice A 64 c] 26)) (W.alloc (.cells #[.slice A 64 c] 26)).heap.size (some ⟨W.heap.size, 0, none⟩) [⟨A, c, encB ln1⟩] := fun i hi0 => by
      have h0 : i = 0 := by simp at hi0; omega
      subst h0
      refine ⟨W.heap.size, 0, rfl, by simp, ?_, ⟨(hi.below hba).more hba.size, encB_mem _, by show (encB ln1).length ≤ c; rw [encB_len ln1_E]; exact hc, encB_bound ln1_E⟩⟩
      rw [cell_of_row _ _ _ _ _ _ (heap_alloc_new W (.cells #[.slice A 64 c] 26))]
      show some (Value.slice A 64 c) = some (.slice A (encB ln1).length c)
      rw [encB_len ln1_E]
    have h := HS.repl (some ⟨W.heap.size, 0, none⟩) 1 [⟨A, c, encB ln1⟩] 1 _ (hw.trans ((hb.trans (hba.mono hb.size)).mono hw.size)) hsec (Nat.le_refl _) (by show 1 * 24 ≤ 140737488351232; decide) ⟨by decide, by decide⟩
    refine h.mono fun e w' ⟨A', c', q1, _, _, q4⟩ => ⟨A', c', by rw [q1]; show Ending.returned (.slice A' (replR [encB ln1] 1).length c') = _; rw [ln1_repl], hba.trans (q4.mono hba.size)⟩
  have HEQ : Hid (∀ W, (Op.equalIn 10000 25 (.agg (lnV ln1)) (.agg (lnV ln1))).run Try.prog W = .ok true W) := fun W => by rw [eqLine_all, decide_eq_true rfl]
  have hinf : (Try.prog.info? 25).map (·.size) = some (lnV ln1).size := Try.infoLine
  have hone := lnV_one ln1
  have hold : Hid (9 = (lnV ln1).size) := rfl
  have HNEW := Lib.hid (fun W : World => heap_alloc_new W (.cells #[.int .i64 0, .int .i64 0, .bool false, .int .i64 0, .int .i64 0, .int .i64 0, .int .i64 0, .int .i64 0, .string ⟨#[]⟩] 25))
  have HAL := Lib.hid (fun W : World => (Below.refl W.heap.size W).alloc (Nat.le_refl _) (.cells #[.int .i64 0, .int .i64 0, .bool false, .int .i64 0, .int .i64 0, .int .i64 0, .int .i64 0, .int .i64 0, .string ⟨#[]⟩] 25))
  have heq := fun W => HEQ.out W
  clear HS hw
  go_enter Try.func12, Try.ntmps12
  go_wp2_with (first
    | (have hguard := HNEW; clear hguard; refine wpList_store_fresh rfl 25 _ _ rfl w.heap.size (lnV ln1) rfl rfl 25 _ (HNEW.out w) hinf hold.out hone (HAL.out w) (Nat.le_refl _) ?_; intro W1 hW1 hbW1 hkW hsW; have HW1 := Lib.hid hW1; have HQ := Lib.hid (Array.getElem?_eq_some_iff.1 hW1).1; clear hkW hsW hW1)
    | (refine wpList_load_row rfl 25 _ rfl w.heap.size rfl 25 _ (0, 0) _ HW1.out Try.underlying25 rfl hinf ?_)
    | (go_at_call 10; with_reducible (refine Calls.mono (H1.out _ hbW1) ?_); rintro e w2 ⟨A2, c2, rfl, hc2, hc2', hg2, hb2⟩; have hi2 := hg2.ints; have hx2 := hbW1.trans (hb2.mono hbW1.size); have HW2 := Lib.hid ((hb2.block _ HQ.out).trans HW1.out); clear hg2)
    | (go_at_call 13; with_reducible (refine Calls.mono (H2.out _ _ _ hx2 hi2 hc2) ?_); rintro e w3 ⟨rfl, hb3⟩; have hx3 := hx2.trans (hb3.mono hx2.size); have hi3 := (hi2.below hb3).more hb3.size)
    | (have hguard := hx3; clear hguard; refine wpList_store_fresh rfl 25 _ _ rfl w3.heap.size (lnV ln1) rfl rfl 25 _ (HNEW.out w3) hinf hold.out hone (HAL.out w3) (Nat.le_refl _) ?_; intro W4 hW4 hbW4 hkW hsW
       have hx4 := hx3.trans (hbW4.mono hx3.size)
       have hi4 := (hi3.below hbW4).more hbW4.size
       have HR4 : Hid (w.heap.size < W4.heap.size ∧ w3.heap.size < W4.heap.size ∧ W4.heap[w.heap.size]? = some (.cells (lnV ln1) 25 (0, 0)) ∧ W4.heap[w3.heap.size]? = some (.cells (lnV ln1) 25 (0, 0))) := by
         have h1 := HQ.out
         have h2 := hb2.size
         have h3 := hb3.size
         have h4 := (Array.getElem?_eq_some_iff.1 hW4).1
         exact ⟨by omega, h4, (hbW4.block _ (by omega)).trans ((hb3.block _ (by omega)).trans HW2.out), hW4⟩
       clear hkW hsW hW4)
    | (go_at_call 16; with_reducible (refine Calls.mono (H3.out _ _ _ hx4 hi4 hc2) ?_); rintro e w5 ⟨A5, c5, rfl, hb5⟩; have hx5 := hx4.trans (hb5.mono hx4.size); have HW5 := Lib.hid ((hb5.block _ HR4.out.1).trans HR4.out.2.2.1); have HW6 := Lib.hid ((hb5.block _ HR4.out.2.1).trans HR4.out.2.2.2))
    | (refine wpList_load_when rfl 25 _ rfl w3.heap.size rfl 25 _ HW6.out Try.underlying25 rfl hinf ?_)
    | (refine wpList_load_when rfl 25 _ rfl w.heap.size rfl 25 _ HW5.out Try.underlying25 rfl hinf ?_))
  go_ret
  exact ⟨rfl, hx5⟩

end Go.Proofs.Ytbfchclfonicmaa
