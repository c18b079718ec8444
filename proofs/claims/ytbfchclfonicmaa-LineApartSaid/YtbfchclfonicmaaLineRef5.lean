/-
  The document's own Decode (stowageref15), of 64 bytes.
-/
import Derived.Test.YtbfchclfonicmaaLineRef4
import Derived.Test.YtbfchclfonicmaaTextEq
namespace Go.Proofs.Ytbfchclfonicmaa
open Go.RowKit

/-- 'Encode', all told. -/
theorem refEnc_any (l : Ln) (w : World) :
    Calls Try.prog 11 #[.agg (lnV l)] w fun e w' => ∃ A c, e = .returned (.tuple #[.slice A (encR l).2.length c, .int .i64 (encE l)]) ∧ (encR l).2.length ≤ c ∧ Ints w' w'.heap.size .u8 A (encR l).2 ∧ Below w.heap.size w w' := by
  by_cases h : encE l = 0
  · have h2 : (encR l).2 = encB l := by unfold encR; rw [if_pos h]
    rw [h2, encB_len h, h]
    exact refEnc_yes l w h
  · have h2 : (encR l).2 = [] := by unfold encR; rw [if_neg h]
    rw [h2]
    have fin : ∀ E : Int, encE l = E → Calls Try.prog 11 #[.agg (lnV l)] w (fun e w' => e = .returned (.tuple #[.slice none 0 0, .int .i64 E]) ∧ Below w.heap.size w w') →
        Calls Try.prog 11 #[.agg (lnV l)] w fun e w' => ∃ A c, e = .returned (.tuple #[.slice A ([] : List Int).length c, .int .i64 (encE l)]) ∧ ([] : List Int).length ≤ c ∧ Ints w' w'.heap.size .u8 A [] ∧ Below w.heap.size w w' := fun E hE H =>
      H.mono fun e w' ⟨q1, q2⟩ => ⟨none, 0, by rw [hE]; exact q1, Nat.le_refl _, Ints.nil _ _ _ _, q2⟩
    cases hr : rangeL l
    · have hE : encE l = 7 := by unfold encE; rw [hr]; rfl
      rcases range_first hr with d0 | ⟨d0, d1⟩ | ⟨d0, d1, d2⟩ | ⟨d0, d1, d2, d3⟩ | ⟨d0, d1, d2, d3, d4⟩ | ⟨d0, d1, d2, d3, d4, d5⟩ | ⟨d0, d1, d2, d3, d4, d5, d6⟩
      · exact fin 7 hE (refEnc_no0 l w d0)
      · exact fin 7 hE (refEnc_no1 l w d0 d1)
      · exact fin 7 hE (refEnc_no2 l w d0 d1 d2)
      · exact fin 7 hE (refEnc_no3 l w d0 d1 d2 d3)
      · exact fin 7 hE (refEnc_no4 l w d0 d1 d2 d3 d4)
      · exact fin 7 hE (refEnc_no5 l w d0 d1 d2 d3 d4 d5)
      · exact fin 7 hE (refEnc_no6 l w d0 d1 d2 d3 d4 d5 d6)
    · obtain ⟨q1, q2, q3, q4, q5, q6, q7⟩ := (rangeL_iff l).1 hr
      have hk : ¬ (l.r.key.size = 0 ∨ l.r.key.size = 16) := fun hk => h (encE_zero.2 ⟨hr, hk⟩)
      have hE : encE l = 1 := by unfold encE; rw [if_pos hr, if_neg hk]
      exact fin 1 hE (refEnc_key l w (inN_iff.2 q1) (inN_iff.2 q2) (inN_iff.2 q3) (inN_iff.2 q4) (inN_iff.2 q5) (inN_iff.2 q6) (inN_iff.2 q7) (fun e => hk (.inl e)) (fun e => hk (.inr e)))

theorem textI_apart {x y : List Int} (hx : ∀ z ∈ x, 0 ≤ z ∧ z ≤ 255) (hy : ∀ z ∈ y, 0 ≤ z ∧ z ≤ 255) : ((strOfNums x).toList == (strOfNums y).toList) = decide (x = y) := by
  rw [Lib.strOfNums_toList, Lib.strOfNums_toList]
  by_cases h : x = y
  · rw [h, decide_eq_true rfl]; exact beq_self_eq_true _
  · rw [decide_eq_false h, beq_eq_false_iff_ne]
    intro e
    have e2 : keyI (strOfNums x) = keyI (strOfNums y) := congrArg (fun l : List UInt8 => l.map fun b : UInt8 => ((b.toNat : Nat) : Int)) e
    exact h (by rw [← keyI_str hx, ← keyI_str hy, e2])
theorem setc_row (w : World) (g i : Nat) (v : Value) (C : Array Value) (t : TypeId) (h : w.heap[g]? = some (.cells C t (0, 0))) : (w.setCell ⟨g, i, none⟩ v).heap[g]? = some (.cells (C.setIfInBounds i v) t (0, 0)) := by
  simp [World.setCell, Array.getElem?_modify, h]
/-- The bytes' line but for its key. -/
def bareL (zs : List Int) : Ln := ⟨valOf (sub zs 2 6), valOf (sub zs 6 10), decide (zs.getD 10 0 = 1), ⟨valOf (sub zs 11 12), valOf (sub zs 12 19), valOf (sub zs 19 26), valOf (sub zs 26 33), valOf (sub zs 33 40), ⟨#[]⟩⟩⟩

set_option maxHeartbeats 3200000 in
set_option maxRecDepth 20000 in
/-- 64 bytes. -/
theorem refDec_64 (b o c : Nat) (zs : List Int) (w : World) (h : Ints w w.heap.size .u8 (some ⟨b, o, none⟩) zs) (hz : ∀ z ∈ zs, 0 ≤ z ∧ z ≤ 255) (hl : zs.length = 64) (hc : 64 ≤ c) :
    Calls Try.prog 14 #[.slice (some ⟨b, o, none⟩) 64 c] w fun e w' => e = .returned (.tuple #[.agg (lnV (decR zs).2), .int .i64 (decR zs).1]) ∧ Below w.heap.size w w' := by
  have HG : Hid (∀ (i j c' : Nat) (W : World), i < j → j ≤ 64 → j - i ≤ 7 → Below w.heap.size w W → Calls Try.prog 29 #[.slice (some ⟨b, o + i, none⟩) (j - i) c'] W fun e w' => e = .returned (.int .i64 (valOf (sub zs i j))) ∧ W = w') := fun i j c' W q1 q2 q3 hb => by
    have hx := sub_len (zs := zs) (Nat.le_of_lt q1) (by omega)
    have := refGet_any (some ⟨b, o + i, none⟩) c' w.heap.size (sub zs i j) W ((h.subAt q1 (by omega)).below hb) (sub_mem hz i j) (by omega)
    rw [hx] at this
    exact this
  have HC : Hid (∀ (W : World) (i : Nat), Below w.heap.size w W → i < 64 → W.cell? ⟨b, o + i, none⟩ = some (.int .u8 (zs.getD i 0))) := fun W i hb hi => by
    obtain ⟨b', o', e, hlt, hcc⟩ := h i (by omega)
    injection e with e
    injection e with e1 e2
    subst e1 e2
    exact (hb.cell (p := ⟨b, o + i, none⟩) hlt).trans hcc
  have HIZ := Lib.hid h
  have HBL : Hid (lnV (bareL zs) = #[.int .i64 (valOf (sub zs 2 6)), .int .i64 (valOf (sub zs 6 10)), .bool (decide (zs.getD 10 0 = 1)), .int .i64 (valOf (sub zs 11 12)), .int .i64 (valOf (sub zs 12 19)), .int .i64 (valOf (sub zs 19 26)), .int .i64 (valOf (sub zs 26 33)), .int .i64 (valOf (sub zs 33 40)), .string ⟨#[]⟩]) := rfl
  obtain ⟨V1, hV1⟩ : ∃ V, V = valOf (sub zs 2 6) := ⟨_, rfl⟩
  obtain ⟨V2, hV2⟩ : ∃ V, V = valOf (sub zs 6 10) := ⟨_, rfl⟩
  obtain ⟨V3, hV3⟩ : ∃ V, V = valOf (sub zs 11 12) := ⟨_, rfl⟩
  obtain ⟨V4, hV4⟩ : ∃ V, V = valOf (sub zs 12 19) := ⟨_, rfl⟩
  obtain ⟨V5, hV5⟩ : ∃ V, V = valOf (sub zs 19 26) := ⟨_, rfl⟩
  obtain ⟨V6, hV6⟩ : ∃ V, V = valOf (sub zs 26 33) := ⟨_, rfl⟩
  obtain ⟨V7, hV7⟩ : ∃ V, V = valOf (sub zs 33 40) := ⟨_, rfl⟩
  have G1 : Hid (∀ W, Below w.heap.size w W → Calls Try.prog 29 #[.slice (some ⟨b, o + 2, none⟩) 4 (c - 2)] W fun e w' => e = .returned (.int .i64 V1) ∧ W = w') := fun W hb => by rw [hV1]; exact HG.out 2 6 (c - 2) W (by omega) (by omega) (by omega) hb
  have G2 : Hid (∀ W, Below w.heap.size w W → Calls Try.prog 29 #[.slice (some ⟨b, o + 6, none⟩) 4 (c - 6)] W fun e w' => e = .returned (.int .i64 V2) ∧ W = w') := fun W hb => by rw [hV2]; exact HG.out 6 10 (c - 6) W (by omega) (by omega) (by omega) hb
  have G3 : Hid (∀ W, Below w.heap.size w W → Calls Try.prog 29 #[.slice (some ⟨b, o + 11, none⟩) 1 (c - 11)] W fun e w' => e = .returned (.int .i64 V3) ∧ W = w') := fun W hb => by rw [hV3]; exact HG.out 11 12 (c - 11) W (by omega) (by omega) (by omega) hb
  have G4 : Hid (∀ W, Below w.heap.size w W → Calls Try.prog 29 #[.slice (some ⟨b, o + 12, none⟩) 7 (c - 12)] W fun e w' => e = .returned (.int .i64 V4) ∧ W = w') := fun W hb => by rw [hV4]; exact HG.out 12 19 (c - 12) W (by omega) (by omega) (by omega) hb
  have G5 : Hid (∀ W, Below w.heap.size w W → Calls Try.prog 29 #[.slice (some ⟨b, o + 19, none⟩) 7 (c - 19)] W fun e w' => e = .returned (.int .i64 V5) ∧ W = w') := fun W hb => by rw [hV5]; exact HG.out 19 26 (c - 19) W (by omega) (by omega) (by omega) hb
  have G6 : Hid (∀ W, Below w.heap.size w W → Calls Try.prog 29 #[.slice (some ⟨b, o + 26, none⟩) 7 (c - 26)] W fun e w' => e = .returned (.int .i64 V6) ∧ W = w') := fun W hb => by rw [hV6]; exact HG.out 26 33 (c - 26) W (by omega) (by omega) (by omega) hb
  have G7 : Hid (∀ W, Below w.heap.size w W → Calls Try.prog 29 #[.slice (some ⟨b, o + 33, none⟩) 7 (c - 33)] W fun e w' => e = .returned (.int .i64 V7) ∧ W = w') := fun W hb => by rw [hV7]; exact HG.out 33 40 (c - 33) W (by omega) (by omega) (by omega) hb
  obtain ⟨x10, hx10⟩ : ∃ x, x = zs.getD 10 0 := ⟨_, rfl⟩
  have HS : Hid (∀ W, Below w.heap.size w W → W.cell? ⟨b, o + 10, none⟩ = some (.int .u8 x10) ∧ Below w.heap.size w W) := fun W hb => ⟨by rw [hx10]; exact HC.out W 10 hb (by decide), hb⟩
  have hcI : (64 : Int) ≤ (c : Int) := by omega
  have c6 : (6 : Int) ≤ (c : Int) := by omega
  have c10 : (10 : Int) ≤ (c : Int) := by omega
  have c12 : (12 : Int) ≤ (c : Int) := by omega
  have c19 : (19 : Int) ≤ (c : Int) := by omega
  have c26 : (26 : Int) ≤ (c : Int) := by omega
  have c33 : (33 : Int) ≤ (c : Int) := by omega
  have c40 : (40 : Int) ≤ (c : Int) := by omega
  have e2 : ¬ c = 2 := by omega
  have e6 : ¬ c = 6 := by omega
  have e11 : ¬ c = 11 := by omega
  have e12 : ¬ c = 12 := by omega
  have e19 : ¬ c = 19 := by omega
  have e26 : ¬ c = 26 := by omega
  have e33 : ¬ c = 33 := by omega
  have f2 : ¬ (c : Int) = 2 := by omega
  have f6 : ¬ (c : Int) = 6 := by omega
  have f11 : ¬ (c : Int) = 11 := by omega
  have f12 : ¬ (c : Int) = 12 := by omega
  have f19 : ¬ (c : Int) = 19 := by omega
  have f26 : ¬ (c : Int) = 26 := by omega
  have f33 : ¬ (c : Int) = 33 := by omega
  have hb1 : Below w.heap.size w (w.alloc (.cells zeroV 25)) := (Below.refl _ _).alloc (Nat.le_refl _) _
  have hbx := hb1.drew
  have hby := fun u => ((hb1.alloc hb1.size (.cells u 25))).drew
  have HR : Hid (∀ u, (((w.alloc (.cells zeroV 25)).alloc (.cells u 25)).drew).heap[w.heap.size]? = some (.cells zeroV 25 (0, 0)) ∧ (((w.alloc (.cells zeroV 25)).alloc (.cells u 25)).drew).heap[w.heap.size + 1]? = some (.cells u 25 (0, 0)) ∧ Below w.heap.size w ((w.alloc (.cells zeroV 25)).alloc (.cells u 25)).drew) := fun u => by
    refine ⟨?_, ?_, hby u⟩
    · show ((w.alloc _).alloc _).heap[w.heap.size]? = _
      rw [Below.heap_alloc _ _ _ (by simp)]; exact heap_alloc_new _ _
    · show ((w.alloc _).alloc _).heap[w.heap.size + 1]? = _
      have := heap_alloc_new (w.alloc (.cells zeroV 25)) (.cells u 25)
      rwa [show (w.alloc (.cells zeroV 25)).heap.size = w.heap.size + 1 by simp] at this
  rw [← hV1, ← hV2, ← hV3, ← hV4, ← hV5, ← hV6, ← hV7, ← hx10] at HBL
  obtain ⟨W3, hW3⟩ : ∃ W, W = ((w.alloc (.cells zeroV 25)).alloc (.cells (lnV (bareL zs)) 25)).drew := ⟨_, rfl⟩
  have HR3 := HR.out (lnV (bareL zs))
  rw [← hW3] at HR3
  have d1 : decide (x10 = 1) = (x10 == 1) := by rw [Bool.eq_iff_iff]; simp
  rw [HBL.out, d1] at hW3
  clear d1
  have HW3 := Lib.hid hW3
  replace HR3 := Lib.hid HR3
  unfold zeroV at hbx hby HW3
  clear h hV1 hV2 hV3 hV4 hV5 hV6 hV7 hx10 HG hb1 HR hW3
  go_enter Try.func14, Try.ntmps14
  go_wp2
  go_cut [4] (fun v wq => v = .pointer (some ⟨w.heap.size + 1, 0, none⟩) ∧ wq = W3)
  case first =>
    go_region_held3 (fun W => W.cell? ⟨b, o + 10, none⟩ = some (.int .u8 x10) ∧ Below w.heap.size w W)
      (first
        | exact HS.out _ hbx
        | exact HS.out _ (hby _))
      (first
        | (go_at_call 29; with_reducible (refine Calls.mono (G1.out _ ?hb) ?_); (case hb => first | exact hbx | exact hby _); rintro e wq ⟨rfl, rfl⟩)
        | (go_at_call 29; with_reducible (refine Calls.mono (G2.out _ ?hb) ?_); (case hb => first | exact hbx | exact hby _); rintro e wq ⟨rfl, rfl⟩)
        | (go_at_call 29; with_reducible (refine Calls.mono (G3.out _ ?hb) ?_); (case hb => first | exact hbx | exact hby _); rintro e wq ⟨rfl, rfl⟩)
        | (go_at_call 29; with_reducible (refine Calls.mono (G4.out _ ?hb) ?_); (case hb => first | exact hbx | exact hby _); rintro e wq ⟨rfl, rfl⟩)
        | (go_at_call 29; with_reducible (refine Calls.mono (G5.out _ ?hb) ?_); (case hb => first | exact hbx | exact hby _); rintro e wq ⟨rfl, rfl⟩)
        | (go_at_call 29; with_reducible (refine Calls.mono (G6.out _ ?hb) ?_); (case hb => first | exact hbx | exact hby _); rintro e wq ⟨rfl, rfl⟩)
        | (go_at_call 29; with_reducible (refine Calls.mono (G7.out _ ?hb) ?_); (case hb => first | exact hbx | exact hby _); rintro e wq ⟨rfl, rfl⟩)
        | fail)
    all_goals
      go_wp2
      go_meet
      exact ⟨rfl, HW3.out.symm⟩
  case rest =>
    obtain ⟨rfl, rfl⟩ := hcut
    clear G1 G2 G3 G4 G5 G6 G7 HS hbx hby HW3 HBL
    obtain ⟨hr0, hr1, hbw⟩ := HR3.out
    have hq1 : w.heap.size + 1 < wc.heap.size := (Array.getElem?_eq_some_iff.1 hr1).1
    have hc40 := HC.out wc 40 hbw (by decide)
    obtain ⟨x40, hx40⟩ : ∃ x, x = zs.getD 40 0 := ⟨_, rfl⟩
    rw [← hx40] at hc40
    have hp1 : parseL zs = { bareL zs with r := { (bareL zs).r with key := if x40 = 16 then strOfNums (sub zs 41 57) else ⟨#[]⟩ } } := by rw [hx40]; rfl
    have HDR : Hid (decR zs = if encE (parseL zs) = 0 ∧ encB (parseL zs) = zs then (0, parseL zs) else (2, zeroL)) := by
      unfold Hid decR
      by_cases q : encE (parseL zs) = 0 ∧ encB (parseL zs) = zs
      · rw [if_pos q, if_pos ⟨hl, q⟩]
      · rw [if_neg q, if_neg (fun h => q h.2)]
    have hinf : (Try.prog.info? 25).map (·.size) = some zeroV.size := Try.infoLine
    have hinf2 : (Try.prog.info? 25).map (·.size) = some (lnV (parseL zs)).size := Try.infoLine
    have hone : zeroV.all (·.oneCell') = true := lnV_one zeroL
    have hone2 := lnV_one (parseL zs)
    have hold : Hid (9 = zeroV.size) := rfl
    have hsz2 : Hid (zeroV.size = (lnV (parseL zs)).size) := rfl
    have HEN := Lib.hid (fun W => refEnc_any (parseL zs) W)
    have HEB := Lib.hid (encB_mem (parseL zs))
    have HZM := Lib.hid hz
    have hlq : (c : Int) - 41 = ((c - 41 : Nat) : Int) := by omega
    have HKEY : Hid (∀ W, Below w.heap.size w W → (convert 26 9 (.slice (some ⟨b, o + 41, none⟩) 16 (c - 41))).run Try.prog W = .ok (.string (strOfNums (sub zs 41 57))) W) := fun W hb =>
      ((HIZ.out.subAt (i := 41) (j := 57) (by decide) (by omega)).below hb).textAs Try.underlying26 Try.underlying5 Try.underlying9 (by rw [sub_len (by decide) (by omega)]) rfl _
    have HTZ : Hid (∀ W, Below w.heap.size w W → (convert 26 9 (.slice (some ⟨b, o, none⟩) 64 c)).run Try.prog W = .ok (.string (strOfNums zs)) W) := fun W hb =>
      (HIZ.out.below hb).textAs Try.underlying26 Try.underlying5 Try.underlying9 hl rfl _
    -- the world behind the key
    have HKW : Hid (∀ W4 : World, W4.heap[w.heap.size]? = some (.cells zeroV 25 (0, 0)) → W4.heap[w.heap.size + 1]? = some (.cells (lnV (parseL zs)) 25 (0, 0)) → Below w.heap.size w W4 → True) := fun _ _ _ _ => trivial
    clear HKW
    have c57 : (57 : Int) ≤ (c : Int) := by omega
    have e41 : ¬ c = 41 := by omega
    by_cases h16 : x40 = 16
    · rw [if_pos h16] at hp1
      subst h16
      have hcv := HKEY.out wc hbw
      have hcl : wc.cell? ⟨w.heap.size + 1, 8, none⟩ = some (.string ⟨#[]⟩) := by rw [cell_of_row _ _ _ _ _ _ hr1]; rfl
      have hfr : wc.frozen? ⟨w.heap.size + 1, 8, none⟩ = false := frozen_of_row _ _ _ _ _ hr1
      have HA1 := setc_row wc (w.heap.size + 1) 8 (.string (strOfNums (sub zs 41 57))) _ _ hr1
      have HA0 : (wc.setCell ⟨w.heap.size + 1, 8, none⟩ (.string (strOfNums (sub zs 41 57)))).heap[w.heap.size]? = some (.cells zeroV 25 (0, 0)) := by
        rw [Below.heap_setCell _ _ _ _ (show w.heap.size ≠ w.heap.size + 1 by omega)]; exact hr0
      have hset : (lnV (bareL zs)).setIfInBounds 8 (.string (strOfNums (sub zs 41 57))) = lnV (parseL zs) := by rw [hp1]; rfl
      rw [hset] at HA1
      have HAB := hbw.setCell (p := ⟨w.heap.size + 1, 8, none⟩) (Nat.le_succ _) (.string (strOfNums (sub zs 41 57)))
      obtain ⟨W4, hW4⟩ : ∃ W, W = wc.setCell ⟨w.heap.size + 1, 8, none⟩ (.string (strOfNums (sub zs 41 57))) := ⟨_, rfl⟩
      rw [← hW4] at HA0 HA1 HAB
      have HW4 := Lib.hid hW4
      obtain ⟨kk, hkk⟩ : ∃ k, k = strOfNums (sub zs 41 57) := ⟨_, rfl⟩
      rw [← hkk] at hcv HW4
      obtain ⟨P, hP⟩ : ∃ P, P = parseL zs := ⟨_, rfl⟩
      rw [← hP] at HA1 HEN HEB hinf2 hone2 hsz2 HDR
      clear hW4 hset hkk hP hp1 hr0 hr1 hbw HR3 HKEY HC hq1 hx40
      have hlt1 : w.heap.size + 1 < W4.heap.size := (Array.getElem?_eq_some_iff.1 HA1).1
      have hlt0 : w.heap.size < W4.heap.size := by omega
      have HROWS : Hid (∀ W, Below W4.heap.size W4 W → W.heap[w.heap.size]? = some (.cells zeroV 25 (0, 0)) ∧ W.heap[w.heap.size + 1]? = some (.cells (lnV P) 25 (0, 0)) ∧ Below w.heap.size w W) := fun W hb => ⟨(hb.block _ hlt0).trans HA0, (hb.block _ hlt1).trans HA1, HAB.trans (hb.mono HAB.size)⟩
      have HA1h := Lib.hid HA1
      obtain ⟨V, hV⟩ : ∃ V, V = lnV P := ⟨_, rfl⟩
      rw [← hV] at HROWS HA1h hinf2 hone2 hsz2
      simp only [← hV] at HEN
      have HV := Lib.hid hV
      clear hlt1 hlt0 HA1 HA0 HAB hV
      by_cases hE : encE P = 0
      · have hB2 : (encR P).2 = encB P := by unfold encR; rw [if_pos hE]
        have hl2 := encB_len hE
        rw [hB2, hl2, hE] at HEN
        have heq := textI_apart HEB.out HZM.out
        have HTE : Hid (∀ (W : World) (A5 : Option Addr) (c5 : Nat), Ints W W.heap.size .u8 A5 (encB P) → (convert 26 9 (.slice A5 64 c5)).run Try.prog W = .ok (.string (strOfNums (encB P))) W) := fun W A5 c5 h => h.textAs Try.underlying26 Try.underlying5 Try.underlying9 hl2 rfl _
        by_cases hq : encB P = zs
        · rw [decide_eq_true hq] at heq
          have HD : Hid (decR zs = (0, P)) := by unfold Hid; rw [HDR.out, if_pos ⟨hE, hq⟩]
          obtain ⟨S1, hS1⟩ : ∃ S, S = strOfNums (encB P) := ⟨_, rfl⟩
          obtain ⟨S2, hS2⟩ : ∃ S, S = strOfNums zs := ⟨_, rfl⟩
          rw [← hS1, ← hS2] at heq
          rw [← hS1] at HTE
          rw [← hS2] at HTZ
          obtain ⟨X, hX⟩ : ∃ X, X = encB P := ⟨_, rfl⟩
          rw [← hX] at HEN HTE
          clear hE hq hB2 hl2 hS1 hS2 hX HEB HZM HDR HIZ hz
          go_wp2_with (first
            | (rw [← HW4.out]; refine wpList_load_row rfl 25 _ rfl (w.heap.size + 1) rfl 25 _ (0, 0) _ HA1h.out Try.underlying25 rfl hinf2 ?_)
            | (go_at_call 11; with_reducible (refine Calls.mono (HEN.out _) ?_); rintro e w5 ⟨A5, c5, rfl, hc5, hi5, hb5⟩; have ht1 := HTE.out w5 A5 c5 hi5; have ht2 := HTZ.out w5 (HROWS.out w5 hb5).2.2; have HW5 := Lib.hid (HROWS.out w5 hb5); clear hi5)
            | (refine wpList_load_row rfl 25 _ rfl (w.heap.size + 1) rfl 25 _ (0, 0) _ HW5.out.2.1 Try.underlying25 rfl hinf2 ?_)
            | (refine wpList_store_fresh rfl 25 _ _ rfl w.heap.size V rfl rfl 25 _ HW5.out.1 hinf2 hsz2.out hone2 HW5.out.2.2 (Nat.le_refl _) ?_; intro W hW hbW hkW hsW; clear hkW hsW))
          exact bodyPost_ret (results_row_tmpL rfl _ _ w.heap.size _ _ _ _ rfl hW Try.underlying25 rfl hinf2) rfl ⟨by rw [HD.out, ← HV.out]; rfl, hbW⟩
        · rw [decide_eq_false hq] at heq
          have HD : Hid (decR zs = (2, zeroL)) := by unfold Hid; rw [HDR.out, if_neg (fun h => hq h.2)]
          obtain ⟨S1, hS1⟩ : ∃ S, S = strOfNums (encB P) := ⟨_, rfl⟩
          obtain ⟨S2, hS2⟩ : ∃ S, S = strOfNums zs := ⟨_, rfl⟩
          rw [← hS1, ← hS2] at heq
          rw [← hS1] at HTE
          rw [← hS2] at HTZ
          obtain ⟨X, hX⟩ : ∃ X, X = encB P := ⟨_, rfl⟩
          rw [← hX] at HEN HTE
          clear hE hq hB2 hl2 hS1 hS2 hX HEB HZM HDR HIZ hz
          go_wp2_with (first
            | (rw [← HW4.out]; refine wpList_load_row rfl 25 _ rfl (w.heap.size + 1) rfl 25 _ (0, 0) _ HA1h.out Try.underlying25 rfl hinf2 ?_)
            | (go_at_call 11; with_reducible (refine Calls.mono (HEN.out _) ?_); rintro e w5 ⟨A5, c5, rfl, hc5, hi5, hb5⟩; have ht1 := HTE.out w5 A5 c5 hi5; have ht2 := HTZ.out w5 (HROWS.out w5 hb5).2.2; have HW5 := Lib.hid (HROWS.out w5 hb5); clear hi5)
            | (refine wpList_store_fresh rfl 25 _ _ rfl w.heap.size zeroV rfl rfl 25 _ HW5.out.1 hinf rfl hone HW5.out.2.2 (Nat.le_refl _) ?_; intro W hW hbW hkW hsW; clear hkW hsW))
          exact bodyPost_ret (results_row_tmpL rfl _ _ w.heap.size _ _ _ _ rfl hW Try.underlying25 rfl hinf) rfl ⟨by rw [HD.out]; rfl, hbW⟩
      · have HD : Hid (decR zs = (2, zeroL)) := by unfold Hid; rw [HDR.out, if_neg (fun h => hE h.1)]
        obtain ⟨E, hEe⟩ : ∃ E, E = encE P := ⟨_, rfl⟩
        rw [← hEe] at hE HEN
        have hne : (E != 0) = true := by rw [bne_iff_ne]; exact hE
        have hne2 : (E == 0) = false := by rw [beq_eq_false_iff_ne]; exact hE
        obtain ⟨X, hX⟩ : ∃ X, X = (encR P).2 := ⟨_, rfl⟩
        rw [← hX] at HEN
        clear hE hEe hX HEB HZM HDR HIZ hz
        go_wp2_with (first
          | (rw [← HW4.out]; refine wpList_load_row rfl 25 _ rfl (w.heap.size + 1) rfl 25 _ (0, 0) _ HA1h.out Try.underlying25 rfl hinf2 ?_)
          | (go_at_call 11; with_reducible (refine Calls.mono (HEN.out _) ?_); rintro e w5 ⟨A5, c5, rfl, hc5, hi5, hb5⟩; have HW5 := Lib.hid (HROWS.out w5 hb5); clear hi5)
          | (refine wpList_store_fresh rfl 25 _ _ rfl w.heap.size zeroV rfl rfl 25 _ HW5.out.1 hinf rfl hone HW5.out.2.2 (Nat.le_refl _) ?_; intro W hW hbW hkW hsW; clear hkW hsW))
        exact bodyPost_ret (results_row_tmpL rfl _ _ w.heap.size _ _ _ _ rfl hW Try.underlying25 rfl hinf) rfl ⟨by rw [HD.out]; rfl, hbW⟩
    · rw [if_neg h16] at hp1
      have hcb : (x40 == 16) = false := by rw [beq_eq_false_iff_ne]; exact h16
      have hbp : bareL zs = parseL zs := by rw [hp1]; rfl
      rw [hbp] at hr1
      have HA0 := hr0
      have HA1 := hr1
      have HAB := hbw
      obtain ⟨P, hP⟩ : ∃ P, P = parseL zs := ⟨_, rfl⟩
      rw [← hP] at HA1 HEN HEB hinf2 hone2 hsz2 HDR
      clear hP hp1 hbp hr0 hr1 hbw HR3 HKEY HC hq1 hx40
      have hlt1 : w.heap.size + 1 < wc.heap.size := (Array.getElem?_eq_some_iff.1 HA1).1
      have hlt0 : w.heap.size < wc.heap.size := by omega
      have HROWS : Hid (∀ W, Below wc.heap.size wc W → W.heap[w.heap.size]? = some (.cells zeroV 25 (0, 0)) ∧ W.heap[w.heap.size + 1]? = some (.cells (lnV P) 25 (0, 0)) ∧ Below w.heap.size w W) := fun W hb => ⟨(hb.block _ hlt0).trans HA0, (hb.block _ hlt1).trans HA1, HAB.trans (hb.mono HAB.size)⟩
      have HA1h := Lib.hid HA1
      obtain ⟨V, hV⟩ : ∃ V, V = lnV P := ⟨_, rfl⟩
      rw [← hV] at HROWS HA1h hinf2 hone2 hsz2
      simp only [← hV] at HEN
      have HV := Lib.hid hV
      clear hlt1 hlt0 HA1 HA0 HAB hV
      by_cases hE : encE P = 0
      · have hB2 : (encR P).2 = encB P := by unfold encR; rw [if_pos hE]
        have hl2 := encB_len hE
        rw [hB2, hl2, hE] at HEN
        have heq := textI_apart HEB.out HZM.out
        have HTE : Hid (∀ (W : World) (A5 : Option Addr) (c5 : Nat), Ints W W.heap.size .u8 A5 (encB P) → (convert 26 9 (.slice A5 64 c5)).run Try.prog W = .ok (.string (strOfNums (encB P))) W) := fun W A5 c5 h => h.textAs Try.underlying26 Try.underlying5 Try.underlying9 hl2 rfl _
        by_cases hq : encB P = zs
        · rw [decide_eq_true hq] at heq
          have HD : Hid (decR zs = (0, P)) := by unfold Hid; rw [HDR.out, if_pos ⟨hE, hq⟩]
          obtain ⟨S1, hS1⟩ : ∃ S, S = strOfNums (encB P) := ⟨_, rfl⟩
          obtain ⟨S2, hS2⟩ : ∃ S, S = strOfNums zs := ⟨_, rfl⟩
          rw [← hS1, ← hS2] at heq
          rw [← hS1] at HTE
          rw [← hS2] at HTZ
          obtain ⟨X, hX⟩ : ∃ X, X = encB P := ⟨_, rfl⟩
          rw [← hX] at HEN HTE
          clear hE hq hB2 hl2 hS1 hS2 hX HEB HZM HDR HIZ hz
          go_wp2_with (first
            | (refine wpList_load_row rfl 25 _ rfl (w.heap.size + 1) rfl 25 _ (0, 0) _ HA1h.out Try.underlying25 rfl hinf2 ?_)
            | (go_at_call 11; with_reducible (refine Calls.mono (HEN.out _) ?_); rintro e w5 ⟨A5, c5, rfl, hc5, hi5, hb5⟩; have ht1 := HTE.out w5 A5 c5 hi5; have ht2 := HTZ.out w5 (HROWS.out w5 hb5).2.2; have HW5 := Lib.hid (HROWS.out w5 hb5); clear hi5)
            | (refine wpList_load_row rfl 25 _ rfl (w.heap.size + 1) rfl 25 _ (0, 0) _ HW5.out.2.1 Try.underlying25 rfl hinf2 ?_)
            | (refine wpList_store_fresh rfl 25 _ _ rfl w.heap.size V rfl rfl 25 _ HW5.out.1 hinf2 hsz2.out hone2 HW5.out.2.2 (Nat.le_refl _) ?_; intro W hW hbW hkW hsW; clear hkW hsW))
          exact bodyPost_ret (results_row_tmpL rfl _ _ w.heap.size _ _ _ _ rfl hW Try.underlying25 rfl hinf2) rfl ⟨by rw [HD.out, ← HV.out]; rfl, hbW⟩
        · rw [decide_eq_false hq] at heq
          have HD : Hid (decR zs = (2, zeroL)) := by unfold Hid; rw [HDR.out, if_neg (fun h => hq h.2)]
          obtain ⟨S1, hS1⟩ : ∃ S, S = strOfNums (encB P) := ⟨_, rfl⟩
          obtain ⟨S2, hS2⟩ : ∃ S, S = strOfNums zs := ⟨_, rfl⟩
          rw [← hS1, ← hS2] at heq
          rw [← hS1] at HTE
          rw [← hS2] at HTZ
          obtain ⟨X, hX⟩ : ∃ X, X = encB P := ⟨_, rfl⟩
          rw [← hX] at HEN HTE
          clear hE hq hB2 hl2 hS1 hS2 hX HEB HZM HDR HIZ hz
          go_wp2_with (first
            | (refine wpList_load_row rfl 25 _ rfl (w.heap.size + 1) rfl 25 _ (0, 0) _ HA1h.out Try.underlying25 rfl hinf2 ?_)
            | (go_at_call 11; with_reducible (refine Calls.mono (HEN.out _) ?_); rintro e w5 ⟨A5, c5, rfl, hc5, hi5, hb5⟩; have ht1 := HTE.out w5 A5 c5 hi5; have ht2 := HTZ.out w5 (HROWS.out w5 hb5).2.2; have HW5 := Lib.hid (HROWS.out w5 hb5); clear hi5)
            | (refine wpList_store_fresh rfl 25 _ _ rfl w.heap.size zeroV rfl rfl 25 _ HW5.out.1 hinf rfl hone HW5.out.2.2 (Nat.le_refl _) ?_; intro W hW hbW hkW hsW; clear hkW hsW))
          exact bodyPost_ret (results_row_tmpL rfl _ _ w.heap.size _ _ _ _ rfl hW Try.underlying25 rfl hinf) rfl ⟨by rw [HD.out]; rfl, hbW⟩
      · have HD : Hid (decR zs = (2, zeroL)) := by unfold Hid; rw [HDR.out, if_neg (fun h => hE h.1)]
        obtain ⟨E, hEe⟩ : ∃ E, E = encE P := ⟨_, rfl⟩
        rw [← hEe] at hE HEN
        have hne : (E != 0) = true := by rw [bne_iff_ne]; exact hE
        have hne2 : (E == 0) = false := by rw [beq_eq_false_iff_ne]; exact hE
        obtain ⟨X, hX⟩ : ∃ X, X = (encR P).2 := ⟨_, rfl⟩
        rw [← hX] at HEN
        clear hE hEe hX HEB HZM HDR HIZ hz
        go_wp2_with (first
          | (refine wpList_load_row rfl 25 _ rfl (w.heap.size + 1) rfl 25 _ (0, 0) _ HA1h.out Try.underlying25 rfl hinf2 ?_)
          | (go_at_call 11; with_reducible (refine Calls.mono (HEN.out _) ?_); rintro e w5 ⟨A5, c5, rfl, hc5, hi5, hb5⟩; have HW5 := Lib.hid (HROWS.out w5 hb5); clear hi5)
          | (refine wpList_store_fresh rfl 25 _ _ rfl w.heap.size zeroV rfl rfl 25 _ HW5.out.1 hinf rfl hone HW5.out.2.2 (Nat.le_refl _) ?_; intro W hW hbW hkW hsW; clear hkW hsW))
        exact bodyPost_ret (results_row_tmpL rfl _ _ w.heap.size _ _ _ _ rfl hW Try.underlying25 rfl hinf) rfl ⟨by rw [HD.out]; rfl, hbW⟩

/-- 'Decode'. -/
theorem refDec_any (A : Option Addr) (c : Nat) (zs : List Int) (w : World) (h : Ints w w.heap.size .u8 A zs) (hz : ∀ z ∈ zs, 0 ≤ z ∧ z ≤ 255) (hc : zs.length ≤ c) :
    Calls Try.prog 14 #[.slice A zs.length c] w fun e w' => e = .returned (.tuple #[.agg (lnV (decR zs).2), .int .i64 (decR zs).1]) ∧ Below w.heap.size w w' := by
  by_cases hl : zs.length = 64
  · obtain ⟨b, o, rfl, _, _⟩ := h.at_ (by omega)
    rw [hl]
    exact refDec_64 b o c zs w h hz hl (by omega)
  · have hD : decR zs = (2, zeroL) := by unfold decR; rw [if_neg (fun q => hl q.1)]
    rw [hD]
    exact refDec_len A zs.length c w hl

end Go.Proofs.Ytbfchclfonicmaa
