/-
  The landed table: volumesSound.
-/
import Derived.Test.YtnenpafofplbhaaGreatTableC5
namespace Go.Proofs.YtnenpafofplbhaaGreat
open Go.RowKit

def lastV (vs : List Vol) : Nat → Int
  | 0 => -1
  | k + 1 => (vs[k]?.map Vol.id).getD (-1)
def goodV (ts : List Ten) (vs : List Vol) (k : Nat) : Prop := ∃ h : k < vs.length, lastV vs k < vs[k].id ∧ formR ⟨5, vs[k].id, vs[k].ten, vs[k].blocks, 0, ⟨#[]⟩⟩ ∧ formR ⟨8, vs[k].id, vs[k].base, 0, 0, ⟨#[]⟩⟩ ∧ (tenAt ts vs[k].ten).isSome = true
theorem lastV_succ {vs : List Vol} {k : Nat} (h : k < vs.length) : lastV vs (k + 1) = vs[k].id := by
  show (vs[k]?.map Vol.id).getD (-1) = _
  rw [List.getElem?_eq_getElem h]; rfl

set_option maxHeartbeats 3200000 in
set_option maxRecDepth 20000 in
/-- 'volumesSound'. -/
theorem volsSound_any (V : TabW) (t : Tab) (w : World) (h : TabAt w w.heap.size V t) (hm1 : t.ts.length ≤ 9223372036854775807) (hm : t.vs.length ≤ 9223372036854775807) (S : Bool) (hS : S = true ↔ (∀ j, j < t.vs.length → goodV t.ts t.vs j)) :
    Calls Tryz.prog 44 #[.agg (tabV V t)] w fun e w' => e = .returned (.bool S) ∧ Below w.heap.size w w' := by
  obtain ⟨F0, F1, F2, hb0⟩ := box_facts w (.slice V.A1 t.ts.length V.c1) (.slice V.A2 t.vs.length V.c2) (.slice V.A3 t.os.length V.c3) 26
  have hth : ∀ id (W : World), Below (w.alloc (.cells #[.slice V.A1 t.ts.length V.c1, .slice V.A2 t.vs.length V.c2, .slice V.A3 t.os.length V.c3] 26)).heap.size (w.alloc (.cells #[.slice V.A1 t.ts.length V.c1, .slice V.A2 t.vs.length V.c2, .slice V.A3 t.os.length V.c3] 26)) W →
      Calls Tryz.prog 63 #[.agg (tabV V t), .int .i64 id] W fun e w' => e = .returned (.bool (tenAt t.ts id).isSome) ∧ Below W.heap.size W w' := fun id W hb => there_any V t id W ((h.below (chain hb0 hb)).more (chain hb0 hb).size) hm1
  have ht := h.vs
  obtain ⟨ts, vs, os⟩ := t
  obtain ⟨A1, c1, A2, c2, A3, c3⟩ := V
  simp only [tabV] at F0 F1 F2 hb0 ht hm hS hth ⊢
  have HS := Lib.hid hS
  have HLT : Hid (∀ k, (h : k < vs.length) → lastV vs (k + 1) = vs[k].id) := fun k h => lastV_succ h
  have HGO : Hid (∀ k, (h : k < vs.length) → (goodV ts vs k ↔ lastV vs k < vs[k].id ∧ formR ⟨5, vs[k].id, vs[k].ten, vs[k].blocks, 0, ⟨#[]⟩⟩ ∧ formR ⟨8, vs[k].id, vs[k].base, 0, 0, ⟨#[]⟩⟩ ∧ (tenAt ts vs[k].ten).isSome = true)) := fun k h => ⟨fun ⟨_, q⟩ => q, fun q => ⟨h, q⟩⟩
  obtain ⟨W0, hW0⟩ : ∃ W, W = w.alloc (.cells #[.slice A1 ts.length c1, .slice A2 vs.length c2, .slice A3 os.length c3] 26) := ⟨_, rfl⟩
  rw [← hW0] at F0 F1 F2 hb0
  simp only [← hW0] at hth
  have HTH := Lib.hid hth
  have HT : Hid (∀ X, Below W0.heap.size W0 X → VolsAt X W0.heap.size A2 vs) := fun X hb => ((ht.below (chain hb0 hb)).more hb0.size)
  have hlt0 := World.block_lt_of_cell? W0 _ F0
  have HF : Hid (∀ X, Below W0.heap.size W0 X → X.cell? ⟨w.heap.size, 0, none⟩ = some (.slice A1 ts.length c1) ∧ X.cell? ⟨w.heap.size, 1, none⟩ = some (.slice A2 vs.length c2) ∧ X.cell? ⟨w.heap.size, 2, none⟩ = some (.slice A3 os.length c3)) := fun X hb => ⟨(hb.cell (p := ⟨w.heap.size, 0, none⟩) hlt0).trans F0, (hb.cell (p := ⟨w.heap.size, 1, none⟩) hlt0).trans F1, (hb.cell (p := ⟨w.heap.size, 2, none⟩) hlt0).trans F2⟩
  have HB0 := Lib.hid hb0
  obtain ⟨N, hN⟩ : ∃ N, N = vs.length := ⟨_, rfl⟩
  obtain ⟨N3, hN3⟩ : ∃ N, N = os.length := ⟨_, rfl⟩
  obtain ⟨N1, hN1⟩ : ∃ N, N = ts.length := ⟨_, rfl⟩
  have HN := Lib.hid hN
  simp only [← hN, ← hN1, ← hN3] at F0 F1 F2 hm HS HF HTH hW0 ⊢
  clear h hN hN1 hN3 ht hS hlt0 hb0 hth hm1
  go_enter Tryz.func44, Tryz.ntmps44
  go_wp2_with fail
  rw [← hW0]
  clear hW0
  go_loopw [3, 9] (fun l i wr => ∃ k : Nat, ∃ z : Int, k ≤ N ∧ i = .int .i64 k ∧ l = .int .i64 z ∧ Hid (z = lastV vs k ∧ ∀ j, j < k → goodV ts vs j) ∧ Hid (Below W0.heap.size W0 wr)) (fun _ i _ => N - (intOf i).toNat)
  case atStart => exact ⟨0, -1, Nat.zero_le _, rfl, rfl, ⟨rfl, fun j hj => absurd hj (Nat.not_lt_zero j)⟩, Below.refl _ _⟩
  case round =>
    obtain ⟨k, z, hk, rfl, rfl, hI, hB⟩ := hrel
    have k0 : (0 : Int) ≤ (k : Int) := by omega
    clear F0 F1 F2
    by_cases hlt : k < N
    · have k1 : (k : Int) < (N : Int) := by omega
      have hkx : k < vs.length := by have := HN.out; omega
      obtain ⟨b, off, rfl, _, q0, q1, q2, q3⟩ := HT.out wr hB.out k hkx
      have hgo := HGO.out k hkx
      have hls := HLT.out k hkx
      have h1 := fun W => volRec_any vs[k] W
      have h2 := fun W => formed_any ⟨5, vs[k].id, vs[k].ten, vs[k].blocks, 0, ⟨#[]⟩⟩ W
      have h3 := fun W => baseRec_any vs[k] W
      have h4 := fun W => formed_any ⟨8, vs[k].id, vs[k].base, 0, 0, ⟨#[]⟩⟩ W
      have h5 := fun W hb => HTH.out vs[k].ten W hb
      obtain ⟨x, hx⟩ : ∃ x, x = vs[k] := ⟨_, rfl⟩
      rw [← hx] at q0 q1 q2 q3 hgo hls h1 h2 h3 h4 h5
      clear hx HT HGO HLT HTH
      obtain ⟨p0, p1, p2, p3⟩ := x
      simp only [volV, rcV] at h1 h2 h3 h4
      simp only at q0 q1 q2 q3 hgo hls h5
      have HGO := Lib.hid hgo
      have HLS := Lib.hid hls
      have H1 := Lib.hid h1
      have H2 := Lib.hid h2
      have H3 := Lib.hid h3
      have H4 := Lib.hid h4
      have H5 := Lib.hid h5
      have hb1 : Below wr.heap.size wr (wr.alloc (.cells #[.int .i64 p0, .int .i64 p1, .int .i64 p2, .int .i64 p3] 51)) := (Below.refl _ _).alloc (Nat.le_refl _) _
      have HX : Hid (∀ W : World, Below (wr.alloc (.cells #[.int .i64 p0, .int .i64 p1, .int .i64 p2, .int .i64 p3] 51)).heap.size (wr.alloc (.cells #[.int .i64 p0, .int .i64 p1, .int .i64 p2, .int .i64 p3] 51)) W →
          (W.cell? ⟨wr.heap.size, 0, none⟩ = some (.int .i64 p0) ∧ W.cell? ⟨wr.heap.size, 1, none⟩ = some (.int .i64 p1) ∧ W.cell? ⟨wr.heap.size, 2, none⟩ = some (.int .i64 p2) ∧ W.cell? ⟨wr.heap.size, 3, none⟩ = some (.int .i64 p3))) := fun W hb => cells4 ((hb.block _ (by simp)).trans (heap_alloc_new wr _))
      have HWR : Hid (Below W0.heap.size W0 (wr.alloc (.cells #[.int .i64 p0, .int .i64 p1, .int .i64 p2, .int .i64 p3] 51))) := chain hB.out hb1
      clear hgo hls h1 h2 h3 h4 h5
      by_cases hle : p0 ≤ z
      · have HNO : Hid (S = false) := by
          cases hs : S with
          | false => rfl
          | true =>
            have := (HGO.out.1 (HS.out.1 hs k hlt)).1
            have := hI.out.1
            omega
        have d : decide (p0 ≤ z) = true := decide_eq_true hle
        clear hle
        go_wp2
        go_ret
        exact ⟨by rw [HNO.out]; rfl, chain HB0.out HWR.out⟩
      · have d : decide (p0 ≤ z) = false := decide_eq_false hle
        by_cases hf5 : formR ⟨5, p0, p1, p2, 0, ⟨#[]⟩⟩
        · have H2b : Hid (∀ W, Calls Tryz.prog 10 #[.agg #[.int .i64 5, .int .i64 p0, .int .i64 p1, .int .i64 p2, .int .i64 0, .string ⟨#[]⟩]] W fun e w' => e = .returned (.bool true) ∧ Below W.heap.size W w') := fun W => by have := H2.out W; rwa [decide_eq_true hf5] at this
          by_cases hf8 : formR ⟨8, p0, p3, 0, 0, ⟨#[]⟩⟩
          · have H4b : Hid (∀ W, Calls Tryz.prog 10 #[.agg #[.int .i64 8, .int .i64 p0, .int .i64 p3, .int .i64 0, .int .i64 0, .string ⟨#[]⟩]] W fun e w' => e = .returned (.bool true) ∧ Below W.heap.size W w') := fun W => by have := H4.out W; rwa [decide_eq_true hf8] at this
            by_cases hth : (tenAt ts p1).isSome = true
            · have H5b : Hid (∀ W, Below W0.heap.size W0 W → Calls Tryz.prog 63 #[.agg #[.slice A1 N1 c1, .slice (some ⟨b, off, none⟩) N c2, .slice A3 N3 c3], .int .i64 p1] W fun e w' => e = .returned (.bool true) ∧ Below W.heap.size W w') := fun W hb => by have := H5.out W hb; rwa [hth] at this
              have HI2 : Hid (p0 = lastV vs (k + 1) ∧ ∀ j, j < k + 1 → goodV ts vs j) := ⟨HLS.out.symm, fun j hj => by
                rcases Nat.lt_or_ge j k with q | q
                · exact hI.out.2 j q
                · rw [show j = k by omega]; exact HGO.out.2 ⟨by have := hI.out.1; omega, hf5, hf8, hth⟩⟩
              clear hle hf5 hf8 hth HS hI HGO HLS H2 H4 H5
              go_wp2_with (first
                | (go_at_call 61; with_reducible (refine Calls.mono (H1.out _) ?_); rintro e w1 ⟨rfl, hb2⟩)
                | (have hguard := hb6; clear hguard; go_at_call 10; with_reducible (refine Calls.mono (H4b.out _) ?_); rintro e w4 ⟨rfl, hb7⟩
                   have hb8 := chain hb6 hb7
                   obtain ⟨x0, x1, x2, x3⟩ := HX.out _ hb8
                   obtain ⟨f0, f1, f2⟩ := HF.out _ (chain HWR.out hb8))
                | (go_at_call 10; with_reducible (refine Calls.mono (H2b.out _) ?_); rintro e w2 ⟨rfl, hb3⟩
                   have hb4 := chain hb2 hb3
                   obtain ⟨x0, x1, x2, x3⟩ := HX.out _ hb4
                   obtain ⟨f0, f1, f2⟩ := HF.out _ (chain HWR.out hb4))
                | (go_at_call 62; with_reducible (refine Calls.mono (H3.out _) ?_); rintro e w3 ⟨rfl, hb5⟩
                   have hb6 := chain hb4 hb5)
                | (go_at_call 63; with_reducible (refine Calls.mono (H5b.out _ (chain HWR.out hb8)) ?_); rintro e w5 ⟨rfl, hb9⟩
                   have hb10 := chain hb8 hb9
                   obtain ⟨x0, x1, x2, x3⟩ := HX.out _ hb10))
              have R := Lib.hid (chain HWR.out hb10)
              clear hB hb1 hb2 hb3 hb4 hb5 hb6 hb7 hb8 hb9 hb10 x0 x1 x2 x3 f0 f1 f2 HX HWR
              go_roundw
              case rel => exact ⟨k + 1, p0, by omega, by go_num, by first | rfl | go_num, HI2, R⟩
              case measure => first | (simp [intOf]; done) | (simp [intOf]; omega)
            · have H5b : Hid (∀ W, Below W0.heap.size W0 W → Calls Tryz.prog 63 #[.agg #[.slice A1 N1 c1, .slice (some ⟨b, off, none⟩) N c2, .slice A3 N3 c3], .int .i64 p1] W fun e w' => e = .returned (.bool false) ∧ Below W.heap.size W w') := fun W hb => by have := H5.out W hb; rwa [Bool.eq_false_iff.2 hth] at this
              have HNO : Hid (S = false) := by
                cases hs : S with
                | false => rfl
                | true =>
                  have hg := HGO.out.1 (HS.out.1 hs k hlt)
                  exact absurd hg.2.2.2 hth
              clear hle hf5 hf8 hth HS hI HGO HLS H2 H4 H5
              go_wp2_with (first
                | (go_at_call 61; with_reducible (refine Calls.mono (H1.out _) ?_); rintro e w1 ⟨rfl, hb2⟩)
                | (have hguard := hb6; clear hguard; go_at_call 10; with_reducible (refine Calls.mono (H4b.out _) ?_); rintro e w4 ⟨rfl, hb7⟩
                   have hb8 := chain hb6 hb7
                   obtain ⟨x0, x1, x2, x3⟩ := HX.out _ hb8
                   obtain ⟨f0, f1, f2⟩ := HF.out _ (chain HWR.out hb8))
                | (go_at_call 10; with_reducible (refine Calls.mono (H2b.out _) ?_); rintro e w2 ⟨rfl, hb3⟩
                   have hb4 := chain hb2 hb3
                   obtain ⟨x0, x1, x2, x3⟩ := HX.out _ hb4
                   obtain ⟨f0, f1, f2⟩ := HF.out _ (chain HWR.out hb4))
                | (go_at_call 62; with_reducible (refine Calls.mono (H3.out _) ?_); rintro e w3 ⟨rfl, hb5⟩
                   have hb6 := chain hb4 hb5)
                | (go_at_call 63; with_reducible (refine Calls.mono (H5b.out _ (chain HWR.out hb8)) ?_); rintro e w5 ⟨rfl, hb9⟩
                   have hb10 := chain hb8 hb9
                   obtain ⟨x0, x1, x2, x3⟩ := HX.out _ hb10))
              go_ret
              exact ⟨by rw [HNO.out]; rfl, chain HB0.out (chain HWR.out hb10)⟩
          · have H4b : Hid (∀ W, Calls Tryz.prog 10 #[.agg #[.int .i64 8, .int .i64 p0, .int .i64 p3, .int .i64 0, .int .i64 0, .string ⟨#[]⟩]] W fun e w' => e = .returned (.bool false) ∧ Below W.heap.size W w') := fun W => by have := H4.out W; rwa [decide_eq_false hf8] at this
            have HNO : Hid (S = false) := by
              cases hs : S with
              | false => rfl
              | true =>
                have hg := HGO.out.1 (HS.out.1 hs k hlt)
                exact absurd hg.2.2.1 hf8
            clear hle hf5 hf8 HS hI HGO HLS H2 H4 H5
            go_wp2_with (first
              | (go_at_call 61; with_reducible (refine Calls.mono (H1.out _) ?_); rintro e w1 ⟨rfl, hb2⟩)
              | (have hguard := hb6; clear hguard; go_at_call 10; with_reducible (refine Calls.mono (H4b.out _) ?_); rintro e w4 ⟨rfl, hb7⟩
                 have hb8 := chain hb6 hb7
                 obtain ⟨x0, x1, x2, x3⟩ := HX.out _ hb8
                 obtain ⟨f0, f1, f2⟩ := HF.out _ (chain HWR.out hb8))
              | (go_at_call 10; with_reducible (refine Calls.mono (H2b.out _) ?_); rintro e w2 ⟨rfl, hb3⟩
                 have hb4 := chain hb2 hb3
                 obtain ⟨x0, x1, x2, x3⟩ := HX.out _ hb4
                 obtain ⟨f0, f1, f2⟩ := HF.out _ (chain HWR.out hb4))
              | (go_at_call 62; with_reducible (refine Calls.mono (H3.out _) ?_); rintro e w3 ⟨rfl, hb5⟩
                 have hb6 := chain hb4 hb5))
            go_ret
            exact ⟨by rw [HNO.out]; rfl, chain HB0.out (chain HWR.out hb8)⟩
        · have H2b : Hid (∀ W, Calls Tryz.prog 10 #[.agg #[.int .i64 5, .int .i64 p0, .int .i64 p1, .int .i64 p2, .int .i64 0, .string ⟨#[]⟩]] W fun e w' => e = .returned (.bool false) ∧ Below W.heap.size W w') := fun W => by have := H2.out W; rwa [decide_eq_false hf5] at this
          have HNO : Hid (S = false) := by
            cases hs : S with
            | false => rfl
            | true =>
              have hg := HGO.out.1 (HS.out.1 hs k hlt)
              exact absurd hg.2.1 hf5
          clear hle hf5 HS hI HGO HLS H2 H4 H5
          go_wp2_with (first
            | (go_at_call 61; with_reducible (refine Calls.mono (H1.out _) ?_); rintro e w1 ⟨rfl, hb2⟩)
            | (go_at_call 10; with_reducible (refine Calls.mono (H2b.out _) ?_); rintro e w2 ⟨rfl, hb3⟩
               have hb4 := chain hb2 hb3
               obtain ⟨x0, x1, x2, x3⟩ := HX.out _ hb4
               obtain ⟨f0, f1, f2⟩ := HF.out _ (chain HWR.out hb4)))
          go_ret
          exact ⟨by rw [HNO.out]; rfl, chain HB0.out (chain HWR.out hb4)⟩
    · have hkN : k = N := by omega
      subst hkN
      have k1 : ¬ (k : Int) < (k : Int) := by omega
      have HE : Hid (S = true) := HS.out.2 hI.out.2
      clear HT HGO HLT
      go_wp2
      go_ret
      exact ⟨by rw [HE.out]; rfl, chain HB0.out hB.out⟩

end Go.Proofs.YtnenpafofplbhaaGreat
