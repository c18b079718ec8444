/-
  The landed table: tenantsSound, volumesSound. The landed table: volumesSound.
-/
import Derived.Test.YtbmgiekiildaaaaTableC3G
namespace Go.Proofs.Ytbmgiekiildaaaa
open Go.RowKit

/-! ### Plain -/
theorem form_ten (x : Ten) : formR ⟨1, x.id, x.quota, x.rate, x.burst, x.key⟩ ↔ x.plain := by
  unfold formR plainT inR
  simp only [reduceIte]
  exact ⟨fun ⟨a, b, c, d, e⟩ => ⟨a, b, c, d, e⟩, fun ⟨a, b, c, d, e⟩ => ⟨a, b, c, d, e⟩⟩
def lastT (ts : List Ten) : Nat → Int
  | 0 => 0
  | k + 1 => (ts[k]?.map Ten.id).getD 0
def goodT (ts : List Ten) (k : Nat) : Prop := ∃ h : k < ts.length, lastT ts k < ts[k].id ∧ ts[k].plain
theorem lastT_succ {ts : List Ten} {k : Nat} (h : k < ts.length) : lastT ts (k + 1) = ts[k].id := by
  show (ts[k]?.map Ten.id).getD 0 = _
  rw [List.getElem?_eq_getElem h]; rfl
theorem good_to {ts : List Ten} : ∀ k, k ≤ ts.length → (∀ j, j < k → goodT ts j) → (∀ x ∈ ts.take k, x.plain ∧ x.id ≤ lastT ts k) ∧ (ts.take k).Pairwise (fun x y => x.id < y.id)
  | 0, _, _ => ⟨fun x hx => absurd hx (by simp), by simp⟩
  | k + 1, hk, h => by
    obtain ⟨i1, i2⟩ := good_to k (by omega) fun j hj => h j (by omega)
    obtain ⟨hk2, g1, g2⟩ := h k (by omega)
    rw [List.take_succ_eq_append_getElem hk2, lastT_succ hk2]
    refine ⟨fun x hx => ?_, List.pairwise_append.2 ⟨i2, by simp, fun x hx y hy => ?_⟩⟩
    · rcases List.mem_append.1 hx with hx | hx
      · obtain ⟨a, b⟩ := i1 x hx
        exact ⟨a, by omega⟩
      · rw [List.mem_singleton] at hx
        subst hx
        exact ⟨g2, Int.le_refl _⟩
    · rw [List.mem_singleton] at hy
      subst hy
      have := (i1 x hx).2
      omega
theorem goodT_all {ts : List Ten} : (∀ j, j < ts.length → goodT ts j) ↔ (∀ x ∈ ts, x.plain) ∧ ts.Pairwise (fun x y => x.id < y.id) := by
  constructor
  · intro h
    obtain ⟨a, b⟩ := good_to ts.length (Nat.le_refl _) h
    rw [List.take_length] at a b
    exact ⟨fun x hx => (a x hx).1, b⟩
  · rintro ⟨h1, h2⟩ j hj
    refine ⟨hj, ?_, h1 _ (List.getElem_mem hj)⟩
    cases j with
    | zero => have := (h1 _ (List.getElem_mem hj)).id; show (0 : Int) < _; omega
    | succ j =>
      rw [lastT_succ (by omega)]
      exact List.pairwise_iff_getElem.1 h2 j (j + 1) (by omega) hj (Nat.lt_succ_self j)
theorem good_few {ts : List Ten} {k : Nat} (hk : k ≤ ts.length) (h : ∀ j, j < k → goodT ts j) : k ≤ 7 ∧ 0 ≤ sumQ (ts.take k) ∧ sumQ (ts.take k) ≤ 64 * k := by
  obtain ⟨a, b⟩ := good_to k hk h
  have h1 := rising_len Ten.id 7 1 b (fun x hx => (a x hx).1.id) (by omega)
  rw [List.length_take, Nat.min_eq_left hk] at h1
  have h2 := sumQ_small (ts := ts.take k) (fun x hx => (a x hx).1.quota) k
  rw [List.take_take, Nat.min_self] at h2
  exact ⟨by omega, h2.1, h2.2⟩

set_option maxHeartbeats 3200000 in
set_option maxRecDepth 20000 in
/-- 'tenantsSound'. -/
theorem tensSound_any (V : TabW) (t : Tab) (w : World) (h : TabAt w w.heap.size V t) (hm : t.ts.length ≤ 9223372036854775807) (S : Bool) (hS : S = true ↔ (∀ j, j < t.ts.length → goodT t.ts j) ∧ sumQ t.ts ≤ t.os.length) :
    Calls Try.prog 43 #[.agg (tabV V t)] w fun e w' => e = .returned (.bool S) ∧ Below w.heap.size w w' := by
  obtain ⟨F0, F1, F2, hb0⟩ := box_facts w (.slice V.A1 t.ts.length V.c1) (.slice V.A2 t.vs.length V.c2) (.slice V.A3 t.os.length V.c3) 38
  have ht := h.ts
  obtain ⟨ts, vs, os⟩ := t
  obtain ⟨A1, c1, A2, c2, A3, c3⟩ := V
  simp only [tabV] at F0 F1 F2 hb0 ht hm hS ⊢
  have HS := Lib.hid hS
  have HFEW : Hid (∀ k, k ≤ ts.length → (∀ j, j < k → goodT ts j) → k ≤ 7 ∧ 0 ≤ sumQ (ts.take k) ∧ sumQ (ts.take k) ≤ 64 * k) := fun k a b => good_few a b
  have HSQ : Hid (∀ k, (h : k < ts.length) → sumQ (ts.take (k + 1)) = sumQ (ts.take k) + ts[k].quota) := fun k h => sumQ_take h
  have HEND : Hid (sumQ (ts.take ts.length) = sumQ ts) := by show sumQ (ts.take ts.length) = _; rw [List.take_length]
  have HLT : Hid (∀ k, (h : k < ts.length) → lastT ts (k + 1) = ts[k].id) := fun k h => lastT_succ h
  have HGO : Hid (∀ k, (h : k < ts.length) → (goodT ts k ↔ lastT ts k < ts[k].id ∧ ts[k].plain)) := fun k h => ⟨fun ⟨_, q⟩ => q, fun q => ⟨h, q⟩⟩
  obtain ⟨W0, hW0⟩ : ∃ W, W = w.alloc (.cells #[.slice A1 ts.length c1, .slice A2 vs.length c2, .slice A3 os.length c3] 38) := ⟨_, rfl⟩
  rw [← hW0] at F0 F1 F2 hb0
  have HT : Hid (∀ X, Below W0.heap.size W0 X → TensAt X W0.heap.size A1 ts) := fun X hb => ((ht.below (chain hb0 hb)).more hb0.size)
  have hlt0 := World.block_lt_of_cell? W0 _ F0
  have HF2 : Hid (∀ X, Below W0.heap.size W0 X → X.cell? ⟨w.heap.size, 2, none⟩ = some (.slice A3 os.length c3)) := fun X hb => (hb.cell (p := ⟨w.heap.size, 2, none⟩) hlt0).trans F2
  have HB0 := Lib.hid hb0
  obtain ⟨N, hN⟩ : ∃ N, N = ts.length := ⟨_, rfl⟩
  obtain ⟨N3, hN3⟩ : ∃ N, N = os.length := ⟨_, rfl⟩
  have HN := Lib.hid hN
  rw [← hN] at F0 hm HS HEND ⊢
  rw [← hN3] at F2 HF2 HS ⊢
  rw [← hN, ← hN3] at hW0
  clear h hN hN3 ht hS hlt0 hb0
  go_enter Try.func43, Try.ntmps43
  go_wp2_with fail
  rw [← hW0]
  clear hW0
  go_loopw [3, 4, 10] (fun l q i wr => ∃ k : Nat, ∃ z c : Int, k ≤ N ∧ i = .int .i64 k ∧ l = .int .i64 z ∧ q = .int .i64 c ∧ Hid (z = lastT ts k ∧ c = sumQ (ts.take k) ∧ ∀ j, j < k → goodT ts j) ∧ Hid (Below W0.heap.size W0 wr)) (fun _ _ i _ => N - (intOf i).toNat)
  case atStart => exact ⟨0, 0, 0, Nat.zero_le _, rfl, rfl, rfl, ⟨rfl, rfl, fun j hj => absurd hj (Nat.not_lt_zero j)⟩, Below.refl _ _⟩
  case round =>
    obtain ⟨k, z, c, hk, rfl, rfl, rfl, hI, hB⟩ := hrel
    have k0 : (0 : Int) ≤ (k : Int) := by omega
    obtain ⟨fw1, fw2, fw3⟩ := HFEW.out k (by have := HN.out; omega) hI.out.2.2
    rw [← hI.out.2.1] at fw2 fw3
    clear F0 F1 F2
    by_cases hlt : k < N
    · have k1 : (k : Int) < (N : Int) := by omega
      have hkx : k < ts.length := by have := HN.out; omega
      obtain ⟨b, off, rfl, _, q0, q1, q2, q3, q4, q5⟩ := HT.out wr hB.out k hkx
      have hgo := HGO.out k hkx
      have hsq := HSQ.out k hkx
      have hls := HLT.out k hkx
      have h1 := fun W => tenRec_any ts[k] W
      have h2 := fun W => formed_any ⟨1, ts[k].id, ts[k].quota, ts[k].rate, ts[k].burst, ts[k].key⟩ W
      have hfp := form_ten ts[k]
      obtain ⟨x, hx⟩ : ∃ x, x = ts[k] := ⟨_, rfl⟩
      rw [← hx] at q0 q1 q2 q3 q4 q5 hgo hsq hls h1 h2 hfp
      clear hx HT HGO HSQ HLT HEND HFEW
      have hq := fun (h : x.plain) => h.quota
      obtain ⟨p0, p1, p2, p3, p4, p5⟩ := x
      simp only [tenV, rcV] at h1 h2
      simp only at q0 q1 q2 q3 q4 q5 hgo hsq hls hfp hq
      by_cases hle : p0 ≤ z
      · have HNO : Hid (S = false) := by
          cases hs : S with
          | false => rfl
          | true =>
            have := (hgo.1 ((HS.out.1 hs).1 k hlt)).1
            have := hI.out.1
            omega
        have d : decide (p0 ≤ z) = true := decide_eq_true hle
        clear hgo hsq hls h1 h2 hle hq hfp HS
        go_wp2
        go_ret
        exact ⟨by rw [HNO.out]; rfl, chain HB0.out (hB.out.alloc hB.out.size _)⟩
      · have d : decide (p0 ≤ z) = false := decide_eq_false hle
        by_cases hf : formR ⟨1, p0, p1, p2, p3, p4⟩
        · have hp := hfp.1 hf
          obtain ⟨hq1, hq2⟩ := hq hp
          have H1 := Lib.hid h1
          have H2 : Hid (∀ W, Calls Try.prog 47 #[.agg #[.int .i64 1, .int .i64 p0, .int .i64 p1, .int .i64 p2, .int .i64 p3, .string p4]] W fun e w' => e = .returned (.bool true) ∧ Below W.heap.size W w') := fun W => by have := h2 W; rwa [decide_eq_true hf] at this
          have HI2 : Hid (p0 = lastT ts (k + 1) ∧ c + p1 = sumQ (ts.take (k + 1)) ∧ ∀ j, j < k + 1 → goodT ts j) := ⟨hls.symm, by rw [hsq, ← hI.out.2.1], fun j hj => by
            rcases Nat.lt_or_ge j k with q | q
            · exact hI.out.2.2 j q
            · rw [show j = k by omega]; exact hgo.2 ⟨by have := hI.out.1; omega, hp⟩⟩
          have v : IntKind.i64.wrap (c + p1) = c + p1 := IntWalk.i64_in _ (by omega)
          have HX : Hid (∀ W : World, Below (wr.alloc (.cells #[.int .i64 p0, .int .i64 p1, .int .i64 p2, .int .i64 p3, .string p4, .bool p5] 83)).heap.size (wr.alloc (.cells #[.int .i64 p0, .int .i64 p1, .int .i64 p2, .int .i64 p3, .string p4, .bool p5] 83)) W →
              (W.cell? ⟨wr.heap.size, 0, none⟩ = some (.int .i64 p0) ∧ W.cell? ⟨wr.heap.size, 1, none⟩ = some (.int .i64 p1) ∧ W.cell? ⟨wr.heap.size, 2, none⟩ = some (.int .i64 p2) ∧ W.cell? ⟨wr.heap.size, 3, none⟩ = some (.int .i64 p3) ∧ W.cell? ⟨wr.heap.size, 4, none⟩ = some (.string p4) ∧ W.cell? ⟨wr.heap.size, 5, none⟩ = some (.bool p5))) := fun W hb => cells6 ((hb.block _ (by simp)).trans (heap_alloc_new wr _))
          have hb1 : Below wr.heap.size wr (wr.alloc (.cells #[.int .i64 p0, .int .i64 p1, .int .i64 p2, .int .i64 p3, .string p4, .bool p5] 83)) := (Below.refl _ _).alloc (Nat.le_refl _) _
          clear hgo hsq hls h1 h2 hle hf hp hfp HS hI hq
          go_wp2_with (first
            | (go_at_call 48; with_reducible (refine Calls.mono (H1.out _) ?_); rintro e w1 ⟨rfl, hb2⟩)
            | (go_at_call 47; with_reducible (refine Calls.mono (H2.out _) ?_); rintro e w2 ⟨rfl, hb3⟩
               have hb4 := chain hb2 hb3
               obtain ⟨x0, x1, x2, x3, x4, x5⟩ := HX.out _ hb4))
          have R := Lib.hid (chain hB.out (chain hb1 hb4))
          clear hB hb1 hb2 hb3 hb4 x0 x1 x2 x3 x4 x5 HX
          go_roundw
          case rel => exact ⟨k + 1, p0, c + p1, by omega, by go_num, by first | rfl | go_num, by first | rfl | go_num, HI2, R⟩
          case measure => first | (simp [intOf]; done) | (simp [intOf]; omega)
        · have HNO : Hid (S = false) := by
            cases hs : S with
            | false => rfl
            | true => exact absurd (hfp.2 (hgo.1 ((HS.out.1 hs).1 k hlt)).2) hf
          have H1 := Lib.hid h1
          have H2 : Hid (∀ W, Calls Try.prog 47 #[.agg #[.int .i64 1, .int .i64 p0, .int .i64 p1, .int .i64 p2, .int .i64 p3, .string p4]] W fun e w' => e = .returned (.bool false) ∧ Below W.heap.size W w') := fun W => by have := h2 W; rwa [decide_eq_false hf] at this
          have hb1 : Below wr.heap.size wr (wr.alloc (.cells #[.int .i64 p0, .int .i64 p1, .int .i64 p2, .int .i64 p3, .string p4, .bool p5] 83)) := (Below.refl _ _).alloc (Nat.le_refl _) _
          clear hgo hsq hls h1 h2 hle hf hfp HS hI hq
          go_wp2_with (first
            | (go_at_call 48; with_reducible (refine Calls.mono (H1.out _) ?_); rintro e w1 ⟨rfl, hb2⟩)
            | (go_at_call 47; with_reducible (refine Calls.mono (H2.out _) ?_); rintro e w2 ⟨rfl, hb3⟩))
          go_ret
          exact ⟨by rw [HNO.out]; rfl, chain HB0.out (chain hB.out (chain hb1 (chain hb2 hb3)))⟩
    · have hkN : k = N := by omega
      subst hkN
      have k1 : ¬ (k : Int) < (k : Int) := by omega
      have f2 := HF2.out wr hB.out
      have hc2 : c = sumQ ts := by rw [hI.out.2.1, HEND.out]
      have HE : Hid (S = decide (c ≤ (N3 : Int))) := by
        show S = _
        rw [Bool.eq_iff_iff, HS.out, decide_eq_true_iff, ← hc2]
        exact ⟨fun q => q.2, fun q => ⟨hI.out.2.2, q⟩⟩
      clear hc2 HT HGO HSQ HLT HEND HFEW
      go_wp2
      go_ret
      exact ⟨by rw [HE.out]; rfl, chain HB0.out hB.out⟩

end Go.Proofs.Ytbmgiekiildaaaa

namespace Go.Proofs.Ytbmgiekiildaaaa
open Go.RowKit

def lastV (vs : List Vol) : Nat → Int
  | 0 => -1
  | k + 1 => (vs[k]?.map Vol.id).getD (-1)
def goodV (ts : List Ten) (vs : List Vol) (k : Nat) : Prop := ∃ h : k < vs.length, lastV vs k < vs[k].id ∧ formR ⟨5, vs[k].id, vs[k].ten, vs[k].blocks, 0, ⟨#[]⟩⟩ ∧ formR ⟨8, vs[k].id, vs[k].base, 0, 0, ⟨#[]⟩⟩ ∧ (tenAt ts vs[k].ten).isSome = true
theorem lastV_succ {vs : List Vol} {k : Nat} (h : k < vs.length) : lastV vs (k + 1) = vs[k].id := by
  show (vs[k]?.map Vol.id).getD (-1) = _
  rw [List.getElem?_eq_getElem h]; rfl

set_option maxHeartbeats 3200000 in
set_option maxRecDepth 20000 in
/-- 'volumesSound'. -/
theorem volsSound_any (V : TabW) (t : Tab) (w : World) (h : TabAt w w.heap.size V t) (hm1 : t.ts.length ≤ 9223372036854775807) (hm : t.vs.length ≤ 9223372036854775807) (S : Bool) (hS : S = true ↔ (∀ j, j < t.vs.length → goodV t.ts t.vs j)) :
    Calls Try.prog 44 #[.agg (tabV V t)] w fun e w' => e = .returned (.bool S) ∧ Below w.heap.size w w' := by
  obtain ⟨F0, F1, F2, hb0⟩ := box_facts w (.slice V.A1 t.ts.length V.c1) (.slice V.A2 t.vs.length V.c2) (.slice V.A3 t.os.length V.c3) 38
  have hth : ∀ id (W : World), Below (w.alloc (.cells #[.slice V.A1 t.ts.length V.c1, .slice V.A2 t.vs.length V.c2, .slice V.A3 t.os.length V.c3] 38)).heap.size (w.alloc (.cells #[.slice V.A1 t.ts.length V.c1, .slice V.A2 t.vs.length V.c2, .slice V.A3 t.os.length V.c3] 38)) W →
      Calls Try.prog 51 #[.agg (tabV V t), .int .i64 id] W fun e w' => e = .returned (.bool (tenAt t.ts id).isSome) ∧ Below W.heap.size W w' := fun id W hb => there_any V t id W ((h.below (chain hb0 hb)).more (chain hb0 hb).size) hm1
  have ht := h.vs
  obtain ⟨ts, vs, os⟩ := t
  obtain ⟨A1, c1, A2, c2, A3, c3⟩ := V
  simp only [tabV] at F0 F1 F2 hb0 ht hm hS hth ⊢
  have HS := Lib.hid hS
  have HLT : Hid (∀ k, (h : k < vs.length) → lastV vs (k + 1) = vs[k].id) := fun k h => lastV_succ h
  have HGO : Hid (∀ k, (h : k < vs.length) → (goodV ts vs k ↔ lastV vs k < vs[k].id ∧ formR ⟨5, vs[k].id, vs[k].ten, vs[k].blocks, 0, ⟨#[]⟩⟩ ∧ formR ⟨8, vs[k].id, vs[k].base, 0, 0, ⟨#[]⟩⟩ ∧ (tenAt ts vs[k].ten).isSome = true)) := fun k h => ⟨fun ⟨_, q⟩ => q, fun q => ⟨h, q⟩⟩
  obtain ⟨W0, hW0⟩ : ∃ W, W = w.alloc (.cells #[.slice A1 ts.length c1, .slice A2 vs.length c2, .slice A3 os.length c3] 38) := ⟨_, rfl⟩
  rw [← hW0] at F0 F1 F2 hb0
  simp only [← hW0] at hth
  have HTH := Lib.hid hth
  have HT : Hid (∀ X, Below W0.heap.size W0 X → VolsAt X W0.heap.size A2 vs) := fun X hb => ((ht.below (chain hb0 hb)).more hb0.size)
  have hlt0 := World.block_lt_of_cell? W0 _ F0
  have HF : Hid (∀ X, Below W0.heap.size W0 X → X.cell? ⟨w.heap.size, 0, none⟩ = some (.slice A1 ts.length c1) ∧ X.cell? ⟨w.heap.size, 1, none⟩ = some (.slice A2 vs.length c2) ∧ X.cell? ⟨w.heap.size, 2, none⟩ = some (.slice A3 os.length c3)) := fun X hb => ⟨(hb.cell (p := ⟨w.heap.size, 0, none⟩) hlt0).trans F0, (hb.cell (p := ⟨w.heap.size, 1, none⟩) hlt0).trans F1, (hb.cell (p := ⟨w.heap.size, 2, none⟩) hlt0).trans F2⟩
  have HB0 := Lib.hid hb0
  obtain ⟨N, hN⟩ : ∃ N, N = vs.length := ⟨_, rfl⟩
  obtain ⟨N3, hN3⟩ : ∃ N, N = os.length := ⟨_, rfl⟩
  obtain ⟨N1, hN1⟩ : ∃ N, N = ts.length := ⟨_, rfl⟩
  have HN := Lib.hid hN
  simp only [← hN, ← hN1, ← hN3] at F0 F1 F2 hm HS HF HTH hW0 ⊢
  clear h hN hN1 hN3 ht hS hlt0 hb0 hth hm1
  go_enter Try.func44, Try.ntmps44
  go_wp2_with fail
  rw [← hW0]
  clear hW0
  go_loopw [3, 9] (fun l i wr => ∃ k : Nat, ∃ z : Int, k ≤ N ∧ i = .int .i64 k ∧ l = .int .i64 z ∧ Hid (z = lastV vs k ∧ ∀ j, j < k → goodV ts vs j) ∧ Hid (Below W0.heap.size W0 wr)) (fun _ i _ => N - (intOf i).toNat)
  case atStart => exact ⟨0, -1, Nat.zero_le _, rfl, rfl, ⟨rfl, fun j hj => absurd hj (Nat.not_lt_zero j)⟩, Below.refl _ _⟩
  case round =>
    obtain ⟨k, z, hk, rfl, rfl, hI, hB⟩ := hrel
    have k0 : (0 : Int) ≤ (k : Int) := by omega
    clear F0 F1 F2
    by_cases hlt : k < N
    · have k1 : (k : Int) < (N : Int) := by omega
      have hkx : k < vs.length := by have := HN.out; omega
      obtain ⟨b, off, rfl, _, q0, q1, q2, q3⟩ := HT.out wr hB.out k hkx
      have hgo := HGO.out k hkx
      have hls := HLT.out k hkx
      have h1 := fun W => volRec_any vs[k] W
      have h2 := fun W => formed_any ⟨5, vs[k].id, vs[k].ten, vs[k].blocks, 0, ⟨#[]⟩⟩ W
      have h3 := fun W => baseRec_any vs[k] W
      have h4 := fun W => formed_any ⟨8, vs[k].id, vs[k].base, 0, 0, ⟨#[]⟩⟩ W
      have h5 := fun W hb => HTH.out vs[k].ten W hb
      obtain ⟨x, hx⟩ : ∃ x, x = vs[k] := ⟨_, rfl⟩
      rw [← hx] at q0 q1 q2 q3 hgo hls h1 h2 h3 h4 h5
      clear hx HT HGO HLT HTH
      obtain ⟨p0, p1, p2, p3⟩ := x
      simp only [volV, rcV] at h1 h2 h3 h4
      simp only at q0 q1 q2 q3 hgo hls h5
      have HGO := Lib.hid hgo
      have HLS := Lib.hid hls
      have H1 := Lib.hid h1
      have H2 := Lib.hid h2
      have H3 := Lib.hid h3
      have H4 := Lib.hid h4
      have H5 := Lib.hid h5
      have hb1 : Below wr.heap.size wr (wr.alloc (.cells #[.int .i64 p0, .int .i64 p1, .int .i64 p2, .int .i64 p3] 46)) := (Below.refl _ _).alloc (Nat.le_refl _) _
      have HX : Hid (∀ W : World, Below (wr.alloc (.cells #[.int .i64 p0, .int .i64 p1, .int .i64 p2, .int .i64 p3] 46)).heap.size (wr.alloc (.cells #[.int .i64 p0, .int .i64 p1, .int .i64 p2, .int .i64 p3] 46)) W →
          (W.cell? ⟨wr.heap.size, 0, none⟩ = some (.int .i64 p0) ∧ W.cell? ⟨wr.heap.size, 1, none⟩ = some (.int .i64 p1) ∧ W.cell? ⟨wr.heap.size, 2, none⟩ = some (.int .i64 p2) ∧ W.cell? ⟨wr.heap.size, 3, none⟩ = some (.int .i64 p3))) := fun W hb => cells4 ((hb.block _ (by simp)).trans (heap_alloc_new wr _))
      have HWR : Hid (Below W0.heap.size W0 (wr.alloc (.cells #[.int .i64 p0, .int .i64 p1, .int .i64 p2, .int .i64 p3] 46))) := chain hB.out hb1
      clear hgo hls h1 h2 h3 h4 h5
      by_cases hle : p0 ≤ z
      · have HNO : Hid (S = false) := by
          cases hs : S with
          | false => rfl
          | true =>
            have := (HGO.out.1 (HS.out.1 hs k hlt)).1
            have := hI.out.1
            omega
        have d : decide (p0 ≤ z) = true := decide_eq_true hle
        clear hle
        go_wp2
        go_ret
        exact ⟨by rw [HNO.out]; rfl, chain HB0.out HWR.out⟩
      · have d : decide (p0 ≤ z) = false := decide_eq_false hle
        by_cases hf5 : formR ⟨5, p0, p1, p2, 0, ⟨#[]⟩⟩
        · have H2b : Hid (∀ W, Calls Try.prog 47 #[.agg #[.int .i64 5, .int .i64 p0, .int .i64 p1, .int .i64 p2, .int .i64 0, .string ⟨#[]⟩]] W fun e w' => e = .returned (.bool true) ∧ Below W.heap.size W w') := fun W => by have := H2.out W; rwa [decide_eq_true hf5] at this
          by_cases hf8 : formR ⟨8, p0, p3, 0, 0, ⟨#[]⟩⟩
          · have H4b : Hid (∀ W, Calls Try.prog 47 #[.agg #[.int .i64 8, .int .i64 p0, .int .i64 p3, .int .i64 0, .int .i64 0, .string ⟨#[]⟩]] W fun e w' => e = .returned (.bool true) ∧ Below W.heap.size W w') := fun W => by have := H4.out W; rwa [decide_eq_true hf8] at this
            by_cases hth : (tenAt ts p1).isSome = true
            · have H5b : Hid (∀ W, Below W0.heap.size W0 W → Calls Try.prog 51 #[.agg #[.slice A1 N1 c1, .slice (some ⟨b, off, none⟩) N c2, .slice A3 N3 c3], .int .i64 p1] W fun e w' => e = .returned (.bool true) ∧ Below W.heap.size W w') := fun W hb => by have := H5.out W hb; rwa [hth] at this
              have HI2 : Hid (p0 = lastV vs (k + 1) ∧ ∀ j, j < k + 1 → goodV ts vs j) := ⟨HLS.out.symm, fun j hj => by
                rcases Nat.lt_or_ge j k with q | q
                · exact hI.out.2 j q
                · rw [show j = k by omega]; exact HGO.out.2 ⟨by have := hI.out.1; omega, hf5, hf8, hth⟩⟩
              clear hle hf5 hf8 hth HS hI HGO HLS H2 H4 H5
              go_wp2_with (first
                | (go_at_call 49; with_reducible (refine Calls.mono (H1.out _) ?_); rintro e w1 ⟨rfl, hb2⟩)
                | (have hguard := hb6; clear hguard; go_at_call 47; with_reducible (refine Calls.mono (H4b.out _) ?_); rintro e w4 ⟨rfl, hb7⟩
                   have hb8 := chain hb6 hb7
                   obtain ⟨x0, x1, x2, x3⟩ := HX.out _ hb8
                   obtain ⟨f0, f1, f2⟩ := HF.out _ (chain HWR.out hb8))
                | (go_at_call 47; with_reducible (refine Calls.mono (H2b.out _) ?_); rintro e w2 ⟨rfl, hb3⟩
                   have hb4 := chain hb2 hb3
                   obtain ⟨x0, x1, x2, x3⟩ := HX.out _ hb4
                   obtain ⟨f0, f1, f2⟩ := HF.out _ (chain HWR.out hb4))
                | (go_at_call 50; with_reducible (refine Calls.mono (H3.out _) ?_); rintro e w3 ⟨rfl, hb5⟩
                   have hb6 := chain hb4 hb5)
                | (go_at_call 51; with_reducible (refine Calls.mono (H5b.out _ (chain HWR.out hb8)) ?_); rintro e w5 ⟨rfl, hb9⟩
                   have hb10 := chain hb8 hb9
                   obtain ⟨x0, x1, x2, x3⟩ := HX.out _ hb10))
              have R := Lib.hid (chain HWR.out hb10)
              clear hB hb1 hb2 hb3 hb4 hb5 hb6 hb7 hb8 hb9 hb10 x0 x1 x2 x3 f0 f1 f2 HX HWR
              go_roundw
              case rel => exact ⟨k + 1, p0, by omega, by go_num, by first | rfl | go_num, HI2, R⟩
              case measure => first | (simp [intOf]; done) | (simp [intOf]; omega)
            · have H5b : Hid (∀ W, Below W0.heap.size W0 W → Calls Try.prog 51 #[.agg #[.slice A1 N1 c1, .slice (some ⟨b, off, none⟩) N c2, .slice A3 N3 c3], .int .i64 p1] W fun e w' => e = .returned (.bool false) ∧ Below W.heap.size W w') := fun W hb => by have := H5.out W hb; rwa [Bool.eq_false_iff.2 hth] at this
              have HNO : Hid (S = false) := by
                cases hs : S with
                | false => rfl
                | true =>
                  have hg := HGO.out.1 (HS.out.1 hs k hlt)
                  exact absurd hg.2.2.2 hth
              clear hle hf5 hf8 hth HS hI HGO HLS H2 H4 H5
              go_wp2_with (first
                | (go_at_call 49; with_reducible (refine Calls.mono (H1.out _) ?_); rintro e w1 ⟨rfl, hb2⟩)
                | (have hguard := hb6; clear hguard; go_at_call 47; with_reducible (refine Calls.mono (H4b.out _) ?_); rintro e w4 ⟨rfl, hb7⟩
                   have hb8 := chain hb6 hb7
                   obtain ⟨x0, x1, x2, x3⟩ := HX.out _ hb8
                   obtain ⟨f0, f1, f2⟩ := HF.out _ (chain HWR.out hb8))
                | (go_at_call 47; with_reducible (refine Calls.mono (H2b.out _) ?_); rintro e w2 ⟨rfl, hb3⟩
                   have hb4 := chain hb2 hb3
                   obtain ⟨x0, x1, x2, x3⟩ := HX.out _ hb4
                   obtain ⟨f0, f1, f2⟩ := HF.out _ (chain HWR.out hb4))
                | (go_at_call 50; with_reducible (refine Calls.mono (H3.out _) ?_); rintro e w3 ⟨rfl, hb5⟩
                   have hb6 := chain hb4 hb5)
                | (go_at_call 51; with_reducible (refine Calls.mono (H5b.out _ (chain HWR.out hb8)) ?_); rintro e w5 ⟨rfl, hb9⟩
                   have hb10 := chain hb8 hb9
                   obtain ⟨x0, x1, x2, x3⟩ := HX.out _ hb10))
              go_ret
              exact ⟨by rw [HNO.out]; rfl, chain HB0.out (chain HWR.out hb10)⟩
          · have H4b : Hid (∀ W, Calls Try.prog 47 #[.agg #[.int .i64 8, .int .i64 p0, .int .i64 p3, .int .i64 0, .int .i64 0, .string ⟨#[]⟩]] W fun e w' => e = .returned (.bool false) ∧ Below W.heap.size W w') := fun W => by have := H4.out W; rwa [decide_eq_false hf8] at this
            have HNO : Hid (S = false) := by
              cases hs : S with
              | false => rfl
              | true =>
                have hg := HGO.out.1 (HS.out.1 hs k hlt)
                exact absurd hg.2.2.1 hf8
            clear hle hf5 hf8 HS hI HGO HLS H2 H4 H5
            go_wp2_with (first
              | (go_at_call 49; with_reducible (refine Calls.mono (H1.out _) ?_); rintro e w1 ⟨rfl, hb2⟩)
              | (have hguard := hb6; clear hguard; go_at_call 47; with_reducible (refine Calls.mono (H4b.out _) ?_); rintro e w4 ⟨rfl, hb7⟩
                 have hb8 := chain hb6 hb7
                 obtain ⟨x0, x1, x2, x3⟩ := HX.out _ hb8
                 obtain ⟨f0, f1, f2⟩ := HF.out _ (chain HWR.out hb8))
              | (go_at_call 47; with_reducible (refine Calls.mono (H2b.out _) ?_); rintro e w2 ⟨rfl, hb3⟩
                 have hb4 := chain hb2 hb3
                 obtain ⟨x0, x1, x2, x3⟩ := HX.out _ hb4
                 obtain ⟨f0, f1, f2⟩ := HF.out _ (chain HWR.out hb4))
              | (go_at_call 50; with_reducible (refine Calls.mono (H3.out _) ?_); rintro e w3 ⟨rfl, hb5⟩
                 have hb6 := chain hb4 hb5))
            go_ret
            exact ⟨by rw [HNO.out]; rfl, chain HB0.out (chain HWR.out hb8)⟩
        · have H2b : Hid (∀ W, Calls Try.prog 47 #[.agg #[.int .i64 5, .int .i64 p0, .int .i64 p1, .int .i64 p2, .int .i64 0, .string ⟨#[]⟩]] W fun e w' => e = .returned (.bool false) ∧ Below W.heap.size W w') := fun W => by have := H2.out W; rwa [decide_eq_false hf5] at this
          have HNO : Hid (S = false) := by
            cases hs : S with
            | false => rfl
            | true =>
              have hg := HGO.out.1 (HS.out.1 hs k hlt)
              exact absurd hg.2.1 hf5
          clear hle hf5 HS hI HGO HLS H2 H4 H5
          go_wp2_with (first
            | (go_at_call 49; with_reducible (refine Calls.mono (H1.out _) ?_); rintro e w1 ⟨rfl, hb2⟩)
            | (go_at_call 47; with_reducible (refine Calls.mono (H2b.out _) ?_); rintro e w2 ⟨rfl, hb3⟩
               have hb4 := chain hb2 hb3
               obtain ⟨x0, x1, x2, x3⟩ := HX.out _ hb4
               obtain ⟨f0, f1, f2⟩ := HF.out _ (chain HWR.out hb4)))
          go_ret
          exact ⟨by rw [HNO.out]; rfl, chain HB0.out (chain HWR.out hb4)⟩
    · have hkN : k = N := by omega
      subst hkN
      have k1 : ¬ (k : Int) < (k : Int) := by omega
      have HE : Hid (S = true) := HS.out.2 hI.out.2
      clear HT HGO HLT
      go_wp2
      go_ret
      exact ⟨by rw [HE.out]; rfl, chain HB0.out hB.out⟩

end Go.Proofs.Ytbmgiekiildaaaa
