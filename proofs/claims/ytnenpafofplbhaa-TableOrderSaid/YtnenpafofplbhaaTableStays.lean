/-
  The law TableStays as a walk.
-/
import Derived.Test.YtnenpafofplbhaaTableTakes
namespace Go.Proofs.Ytnenpafofplbhaa
open Go.RowKit

def ownS (os : List Int) (ts : List Ten) : Int := (ts.map fun x => ((ownN os x.id : Nat) : Int)).sum
theorem ownS_take {os : List Int} {ts : List Ten} {k : Nat} (h : k < ts.length) : ownS os (ts.take (k + 1)) = ownS os (ts.take k) + (ownN os ts[k].id : Nat) := by
  unfold ownS
  rw [List.take_succ_eq_append_getElem h, List.map_append, List.sum_append]
  simp
theorem ownS_small {os : List Int} {ts : List Ten} (h64 : os.length ≤ 64) : ∀ k, 0 ≤ ownS os (ts.take k) ∧ ownS os (ts.take k) ≤ 64 * k
  | 0 => by simp [ownS]
  | k + 1 => by
    have ih := ownS_small (ts := ts) h64 k
    rcases Nat.lt_or_ge k ts.length with hk | hk
    · rw [ownS_take hk]
      have := ownN_le os ts[k].id
      omega
    · rw [List.take_of_length_le (show ts.length ≤ k + 1 by omega)]
      rw [List.take_of_length_le hk] at ih
      omega
def nzN (os : List Int) : Nat := os.countP fun o => decide (o ≠ 0)
theorem nzN_take {os : List Int} {k : Nat} (h : k < os.length) : nzN (os.take (k + 1)) = nzN (os.take k) + if os.getD k 0 ≠ 0 then 1 else 0 := by
  unfold nzN
  have hg : os.getD k 0 = os[k] := by simp [List.getD, h]
  rw [List.take_succ_eq_append_getElem h, List.countP_append, List.countP_cons, List.countP_nil, Nat.zero_add, hg]
  simp
theorem nzN_le (os : List Int) (k : Nat) : nzN (os.take k) ≤ k := Nat.le_trans List.countP_le_length (by rw [List.length_take]; omega)

set_option maxHeartbeats 1600000 in
set_option maxRecDepth 20000 in
/-- TableStays, where the changes are refused. -/
theorem tableStays_no (V : TabW) (t : Tab) (A : Option Addr) (c : Nat) (l : List Rc) (w : World) (HS : TableSpec w) (h : TabAt w w.heap.size V t) (ho : t.ok) (hl : RecsAt w w.heap.size A l) (hc : l.length ≤ c) (hr : ∀ r ∈ l, r.ok) (hm : l.length ≤ 140737488355328) (hE : (applyR t l).1 ≠ 0) :
    Calls Try.prog 7 #[.agg (tabV V t), .slice A l.length c] w fun e w' => e = .returned (.bool true) ∧ Below w.heap.size w w' := by
  have hb0 : Below w.heap.size w (w.alloc (.cells (tabV V t) 26)) := (Below.refl _ _).alloc (Nat.le_refl _) _
  have A1 := HS.apply V t A c l _ hb0 ((h.below hb0).more hb0.size) ho ((hl.below hb0).more hb0.size) hc hr hm
  have HAW := Lib.hid (fun X (hb : Below w.heap.size w X) => tableAwake HS X hb)
  rw [apply_zero hE] at A1
  obtain ⟨E, hEE⟩ : ∃ E, E = (applyR t l).1 := ⟨_, rfl⟩
  rw [← hEE] at hE A1
  have d1 : (E != 0) = true := bne_iff_ne.2 hE
  have d2 : (E == 0) = false := beq_eq_false_iff_ne.2 hE
  have e0 : ∀ V' : TabW, tabV V' Tab.zero = #[.slice V'.A1 0 V'.c1, .slice V'.A2 0 V'.c2, .slice V'.A3 0 V'.c3] := fun _ => rfl
  simp only [e0] at A1
  unfold tabV at A1 hb0 ⊢
  have HA1 := Lib.hid A1
  have HB0 := Lib.hid hb0
  clear A1 hb0 h ho hl hc hr hm hE hEE HS e0
  go_enter Try.func7, Try.ntmps7
  go_wp2_with (first
    | (go_at_call 19; with_reducible (refine Calls.mono HA1.out ?_); rintro e w3 ⟨V1, rfl, _, _, hb3⟩
       have hx3 := (chain HB0.out hb3).alloc (chain HB0.out hb3).size (.cells #[.slice V1.A1 0 V1.c1, .slice V1.A2 0 V1.c2, .slice V1.A3 0 V1.c3] 26)
       have HT : Hid (∀ X, Below (w3.alloc (.cells #[.slice V1.A1 0 V1.c1, .slice V1.A2 0 V1.c2, .slice V1.A3 0 V1.c3] 26)).heap.size (w3.alloc (.cells #[.slice V1.A1 0 V1.c1, .slice V1.A2 0 V1.c2, .slice V1.A3 0 V1.c3] 26)) X → X.cell? ⟨w3.heap.size, 0, none⟩ = some (.slice V1.A1 0 V1.c1) ∧ X.cell? ⟨w3.heap.size, 1, none⟩ = some (.slice V1.A2 0 V1.c2) ∧ X.cell? ⟨w3.heap.size, 2, none⟩ = some (.slice V1.A3 0 V1.c3)) := fun X hb => cells3 ((hb.block _ (by simp)).trans (heap_alloc_new w3 _)))
    | (go_at_call 11; with_reducible (refine Calls.mono (HAW.out _ hx3) ?_); rintro e w4 ⟨rfl, hb4⟩; have hx4 := chain hx3 hb4)
    | (go_at_call 11; with_reducible (refine Calls.mono (HAW.out _ hx4) ?_); rintro e w5 ⟨rfl, hb5⟩; obtain ⟨y0, y1, y2⟩ := HT.out _ (chain hb4 hb5)))
  go_ret
  exact ⟨rfl, chain hx4 hb5⟩

set_option maxHeartbeats 3200000 in
set_option maxRecDepth 20000 in
/-- TableStays, where the changes are done. -/
theorem tableStays_yes (V : TabW) (t : Tab) (A : Option Addr) (c : Nat) (l : List Rc) (w : World) (HS : TableSpec w) (h : TabAt w w.heap.size V t) (ho : t.ok) (hl : RecsAt w w.heap.size A l) (hc : l.length ≤ c) (hr : ∀ r ∈ l, r.ok) (hm : l.length ≤ 140737488355328) (hE : (applyR t l).1 = 0) :
    Calls Try.prog 7 #[.agg (tabV V t), .slice A l.length c] w fun e w' => e = .returned (.bool true) ∧ Below w.heap.size w w' := by
  have hb0 : Below w.heap.size w (w.alloc (.cells (tabV V t) 26)) := (Below.refl _ _).alloc (Nat.le_refl _) _
  have hg0 := heap_alloc_new w (.cells (tabV V t) 26)
  have A1 := HS.apply V t A c l _ hb0 ((h.below hb0).more hb0.size) ho ((hl.below hb0).more hb0.size) hc hr hm
  have HAW := Lib.hid (fun X (hb : Below w.heap.size w X) => tableAwake HS X hb)
  obtain ⟨_, hs1, hs2⟩ := apply_sound hE
  have ho1 := sound_ok hs1
  obtain ⟨n1, n2, n3⟩ := sound_few hs1
  obtain ⟨T1, hT1⟩ : ∃ T, T = (applyR t l).2 := ⟨_, rfl⟩
  rw [hE, ← hT1] at A1
  rw [← hT1] at hs1 hs2 ho1 n1 n2 n3
  have OW : ∀ X V1 id, Below w.heap.size w X → TabAt X X.heap.size V1 T1 → I64n id → Calls Try.prog 13 #[.agg (tabV V1 T1), .int .i64 id] X fun e w' => e = .returned (.int .i64 (ownN T1.os id : Nat)) ∧ Below X.heap.size X w' := fun X V1 id hb ht hi => HS.owned V1 T1 id X hb ht ho1 hi
  have CK : ∀ X V1, Below w.heap.size w X → TabAt X X.heap.size V1 T1 → Calls Try.prog 10 #[.agg (tabV V1 T1)] X fun e w' => e = .returned (.int .i64 0) ∧ Below X.heap.size X w' := fun X V1 hb ht => HS.check V1 T1 X hb ht ho1 hs1
  have HQ : Hid (∀ k, 0 ≤ sumQ (T1.ts.take k) ∧ sumQ (T1.ts.take k) ≤ 64 * k) := sumQ_small fun x hx => (hs1.ten x hx).1.quota
  have HO : Hid (∀ k, 0 ≤ ownS T1.os (T1.ts.take k) ∧ ownS T1.os (T1.ts.take k) ≤ 64 * k) := ownS_small n3
  have HQS : Hid (∀ k, (h : k < T1.ts.length) → sumQ (T1.ts.take (k + 1)) = sumQ (T1.ts.take k) + T1.ts[k].quota ∧ ownS T1.os (T1.ts.take (k + 1)) = ownS T1.os (T1.ts.take k) + (ownN T1.os T1.ts[k].id : Nat) ∧ ((ownN T1.os T1.ts[k].id : Nat) : Int) ≤ T1.ts[k].quota ∧ (1 ≤ T1.ts[k].quota ∧ T1.ts[k].quota ≤ 64) ∧ I64n T1.ts[k].id) := fun k h => ⟨sumQ_take h, ownS_take h, (hs1.ten _ (List.getElem_mem h)).2, (hs1.ten _ (List.getElem_mem h)).1.quota, (ho1.ts _ (List.getElem_mem h)).id⟩
  have HEND : Hid (sumQ (T1.ts.take T1.ts.length) ≤ T1.os.length ∧ ownS T1.os (T1.ts.take T1.ts.length) = nzN T1.os) := by
    unfold Hid
    rw [List.take_length]
    exact ⟨hs1.sum, own_all hs1.up (fun x hx => (hs1.ten x hx).1.id) hs1.own⟩
  have HNZ : Hid (∀ k, k < T1.os.length → nzN (T1.os.take (k + 1)) = nzN (T1.os.take k) + if T1.os.getD k 0 ≠ 0 then 1 else 0) := fun k h => nzN_take h
  have HNL : Hid (∀ k, nzN (T1.os.take k) ≤ k) := nzN_le T1.os
  have HNE : Hid (nzN (T1.os.take T1.os.length) = nzN T1.os) := by unfold Hid; rw [List.take_length]
  have HLEN : Hid (T1.os.length = t.os.length) := hs2
  have HF : ∀ X, Below (w.alloc (.cells (tabV V t) 26)).heap.size (w.alloc (.cells (tabV V t) 26)) X → X.cell? ⟨w.heap.size, 2, none⟩ = some (.slice V.A3 t.os.length V.c3) := fun X hb => by
    have q : X.heap[w.heap.size]? = some (.cells (tabV V t) 26 (0, 0)) := (hb.block _ (Array.getElem?_eq_some_iff.1 hg0).1).trans hg0
    exact (cells3 q).2.2
  unfold tabV at A1 hb0 OW CK HF ⊢
  have HA1 := Lib.hid A1
  have HB0 := Lib.hid hb0
  have HOW := Lib.hid OW
  have HCK := Lib.hid CK
  have HFH := Lib.hid HF
  obtain ⟨N1, hN1⟩ : ∃ N, N = T1.ts.length := ⟨_, rfl⟩
  obtain ⟨N2, hN2⟩ : ∃ N, N = T1.vs.length := ⟨_, rfl⟩
  obtain ⟨N3, hN3⟩ : ∃ N, N = T1.os.length := ⟨_, rfl⟩
  obtain ⟨N4, hN4⟩ : ∃ N, N = t.os.length := ⟨_, rfl⟩
  have HN1 := Lib.hid hN1
  have HN3 := Lib.hid hN3
  simp only [← hN1, ← hN2, ← hN3, ← hN4] at HA1 HOW HCK HEND HNE HLEN n1 n2 n3 HFH HB0 ⊢
  clear A1 hb0 OW CK HF h ho hl hc hr hm hE hT1 HS hs1 hs2 ho1 hN1 hN2 hN3 hN4 hg0
  go_enter Try.func7, Try.ntmps7
  go_wp2_with (first
    | (go_at_call 19; with_reducible (refine Calls.mono HA1.out ?_); rintro e w3 ⟨V1, rfl, ht1, _, hb3⟩
       have ha3 : Below w3.heap.size w3 (w3.alloc (.cells #[.slice V1.A1 N1 V1.c1, .slice V1.A2 N2 V1.c2, .slice V1.A3 N3 V1.c3] 26)) := (Below.refl _ _).alloc (Nat.le_refl _) _
       have hx3 := chain hb3 ha3
       have hn3 := heap_alloc_new w3 (.cells #[.slice V1.A1 N1 V1.c1, .slice V1.A2 N2 V1.c2, .slice V1.A3 N3 V1.c3] 26))
    | (go_at_call 11; with_reducible (refine Calls.mono (HAW.out _ (chain HB0.out hx3)) ?_); rintro e w4 ⟨rfl, hb4⟩))
  have HT : Hid (∀ X, Below (w3.alloc (.cells #[.slice V1.A1 N1 V1.c1, .slice V1.A2 N2 V1.c2, .slice V1.A3 N3 V1.c3] 26)).heap.size (w3.alloc (.cells #[.slice V1.A1 N1 V1.c1, .slice V1.A2 N2 V1.c2, .slice V1.A3 N3 V1.c3] 26)) X → (X.cell? ⟨w3.heap.size, 0, none⟩ = some (.slice V1.A1 N1 V1.c1) ∧ X.cell? ⟨w3.heap.size, 1, none⟩ = some (.slice V1.A2 N2 V1.c2) ∧ X.cell? ⟨w3.heap.size, 2, none⟩ = some (.slice V1.A3 N3 V1.c3)) ∧ TabAt X X.heap.size V1 T1) := fun X hb => ⟨cells3 ((hb.block _ (Array.getElem?_eq_some_iff.1 hn3).1).trans hn3), (ht1.below (chain ha3 hb)).more (chain ha3 hb).size⟩
  obtain ⟨X3, hX3⟩ : ∃ X, X = (w3.alloc (.cells #[.slice V1.A1 N1 V1.c1, .slice V1.A2 N2 V1.c2, .slice V1.A3 N3 V1.c3] 26)) := ⟨_, rfl⟩
  obtain ⟨q5, hq5⟩ : ∃ q, q = w3.heap.size := ⟨_, rfl⟩
  rw [← hX3] at HT hb4 hx3
  rw [← hq5] at HT ⊢
  have HX3 := Lib.hid hx3
  have HB4 := Lib.hid hb4
  clear hX3 hq5 hn3 ht1 ha3 hb3 hx3 hb4
  go_loopw [7, 8, 9] (fun sv ov iv wr => ∃ (k : Nat) (s o : Int), k ≤ N1 ∧ iv = .int .i64 k ∧ sv = .int .i64 s ∧ ov = .int .i64 o ∧ Hid (s = sumQ (T1.ts.take k) ∧ o = ownS T1.os (T1.ts.take k)) ∧ Hid (Below X3.heap.size X3 wr)) (fun _ _ iv _ => N1 - (intOf iv).toNat)
  case atStart => exact ⟨0, 0, 0, Nat.zero_le _, rfl, rfl, rfl, ⟨rfl, rfl⟩, HB4.out⟩
  case round =>
    obtain ⟨k, s, o, hk, rfl, rfl, rfl, hI, hB⟩ := hrel
    have k0 : (0 : Int) ≤ (k : Int) := by omega
    have hs := HQ.out k
    have ho := HO.out k
    rw [← hI.out.1] at hs
    rw [← hI.out.2] at ho
    obtain ⟨hs0, hs1⟩ := hs
    obtain ⟨ho0, ho1⟩ := ho
    obtain ⟨⟨y0, y1, y2⟩, ht⟩ := HT.out wr hB.out
    by_cases hlt : k < N1
    · have k1 : (k : Int) < (N1 : Int) := by omega
      have hkx : k < T1.ts.length := by have := HN1.out; omega
      obtain ⟨b, off, hA, hbl, q0, q1, _⟩ := ht.ts k hkx
      obtain ⟨u1, u2, u3, u4, u5⟩ := HQS.out k hkx
      have hcall := fun X (hb : Below X3.heap.size X3 X) => HOW.out X V1 T1.ts[k].id (chain HB0.out (chain HX3.out hb)) (HT.out X hb).2 u5
      have hids : ∀ X, Below wr.heap.size wr X → X.cell? ⟨b, off + k * 6, none⟩ = some (.int .i64 T1.ts[k].id) ∧ X.cell? ⟨b, off + k * 6 + 1, none⟩ = some (.int .i64 T1.ts[k].quota) := fun X hb => ⟨(hb.cell (p := ⟨b, off + k * 6, none⟩) hbl).trans q0, (hb.cell (p := ⟨b, off + k * 6 + 1, none⟩) hbl).trans q1⟩
      obtain ⟨xi, hxi⟩ : ∃ x, x = T1.ts[k].id := ⟨_, rfl⟩
      obtain ⟨xq, hxq⟩ : ∃ x, x = T1.ts[k].quota := ⟨_, rfl⟩
      rw [← hxi] at u2 u3 u5
      rw [← hxq] at u1 u3 u4
      simp only [← hxi] at hcall hids
      simp only [← hxq] at hids
      obtain ⟨m, hm⟩ : ∃ m, m = ownN T1.os xi := ⟨_, rfl⟩
      rw [← hm] at u2 u3
      simp only [← hm] at hcall
      obtain ⟨u4a, u4b⟩ := u4
      have HI2 : Hid (s + xq = sumQ (T1.ts.take (k + 1)) ∧ o + (m : Int) = ownS T1.os (T1.ts.take (k + 1))) := ⟨by rw [u1, ← hI.out.1], by rw [u2, ← hI.out.2]⟩
      have v1 : IntKind.i64.wrap (s + xq) = s + xq := IntWalk.i64_in _ (by omega)
      have v2 : IntKind.i64.wrap (o + (m : Int)) = o + (m : Int) := IntWalk.i64_in _ (by omega)
      have d1 : ¬ (m : Int) > xq := by omega
      have HC := Lib.hid hcall
      have HID := Lib.hid hids
      have HCELL : Hid (∀ X, Below X3.heap.size X3 X → X.cell? ⟨q5, 0, none⟩ = some (.slice (some ⟨b, off, none⟩) N1 V1.c1) ∧ X.cell? ⟨q5, 1, none⟩ = some (.slice V1.A2 N2 V1.c2) ∧ X.cell? ⟨q5, 2, none⟩ = some (.slice V1.A3 N3 V1.c3)) := fun X hb => by have := (HT.out X hb).1; rwa [hA] at this
      rw [hA] at y0 hcall
      have HC2 : Hid (∀ X, Below X3.heap.size X3 X → Calls Try.prog 13 #[.agg #[.slice (some ⟨b, off, none⟩) N1 V1.c1, .slice V1.A2 N2 V1.c2, .slice V1.A3 N3 V1.c3], .int .i64 xi] X fun e w' => e = .returned (.int .i64 (m : Nat)) ∧ Below X.heap.size X w') := hcall
      clear hcall hids u1 u2 u3 u5 hxi hxq hm hI ht hA q0 q1 HQ HO HQS HEND HNZ HNL HNE HC HCK HT HAW HOW
      go_wp2
      have hbx : Below wr.heap.size wr wr.drew := (Below.refl _ _).drew
      go_region_held3 (fun X => (X.cell? ⟨q5, 0, none⟩ = some (.slice (some ⟨b, off, none⟩) N1 V1.c1) ∧ X.cell? ⟨q5, 1, none⟩ = some (.slice V1.A2 N2 V1.c2) ∧ X.cell? ⟨q5, 2, none⟩ = some (.slice V1.A3 N3 V1.c3)) ∧ X.cell? ⟨b, off + k * 6, none⟩ = some (.int .i64 xi))
        (exact ⟨HCELL.out _ (chain hB.out hbx), (HID.out _ hbx).1⟩)
        (first
          | (go_at_call 13; with_reducible (refine Calls.mono (HC2.out _ (chain hB.out hbx)) ?_); rintro e w7 ⟨rfl, hb7⟩; have hbx := chain hbx hb7)
          | fail)
      obtain ⟨y0, y1, y2⟩ := HCELL.out _ (chain hB.out hbx)
      obtain ⟨z0, z1⟩ := HID.out _ hbx
      have R := Lib.hid (chain hB.out hbx)
      go_wp2
      clear y0 y1 y2 z0 z1 hbx HCELL HID HC2 hB
      go_roundw
      case rel => first | exact ⟨k + 1, s + xq, o + (m : Int), by omega, by go_num, by first | rfl | go_num, by first | rfl | go_num, HI2, R⟩ | ((repeat apply Exists.intro); exact ⟨⟨k + 1, s + xq, o + (m : Int), by omega, by go_num, by first | rfl | go_num, by first | rfl | go_num, HI2, R⟩, rfl⟩)
      case measure => simp [intOf]; omega
    · have hkN : N1 = k := by omega
      subst hkN
      have k1 : ¬ (N1 : Int) < (N1 : Int) := by omega
      have hend := HEND.out
      rw [← hI.out.1, ← hI.out.2] at hend
      obtain ⟨hsl, how⟩ := hend
      have HOWN := Lib.hid how
      have hints := ht.os
      obtain ⟨wo, hwo⟩ : ∃ x, x = wr := ⟨_, rfl⟩
      subst hwo
      have HINT := Lib.hid hints
      have ho64 : o ≤ 64 * 7 := by omega
      have HL64 := Lib.hid ho64
      clear hI HQ HO HQS how
      go_wp2
      go_loopw [8, 11] (fun ov iv wr => ∃ (k : Nat) (z : Int), k ≤ N3 ∧ iv = .int .i64 k ∧ ov = .int .i64 z ∧ Hid (z = o - nzN (T1.os.take k)) ∧ wr = wo) (fun _ iv _ => N3 - (intOf iv).toNat)
      case atStart => exact ⟨0, o, Nat.zero_le _, rfl, rfl, by unfold Hid nzN; simp, rfl⟩
      case round =>
        obtain ⟨j, z, hj, rfl, rfl, hz, rfl⟩ := hrel
        have j0 : (0 : Int) ≤ (j : Int) := by omega
        have hnl := HNL.out j
        have hzb : -64 ≤ z ∧ z ≤ 448 := by rw [hz.out]; omega
        obtain ⟨hz0, hz1⟩ := hzb
        by_cases hjl : j < N3
        · have j1 : (j : Int) < (N3 : Int) := by omega
          have hjx : j < T1.os.length := by have := HN3.out; omega
          obtain ⟨b, off, hA, _, q0⟩ := HINT.out j hjx
          have hst := HNZ.out j hjx
          rw [hA] at y2
          obtain ⟨x, hx⟩ : ∃ x, x = T1.os.getD j 0 := ⟨_, rfl⟩
          rw [← hx] at q0 hst
          by_cases h0 : x = 0
          · have HZ : Hid (z = o - nzN (T1.os.take (j + 1))) := by unfold Hid; rw [hst, if_neg (fun q => q h0), Nat.add_zero]; exact hz.out
            have d1 : (x != 0) = false := by rw [h0]; rfl
            have d2 : (x == 0) = true := beq_iff_eq.2 h0
            clear hst hx h0 hA hz hnl
            go_wp2
            go_roundw
            case rel => first | exact ⟨j + 1, z, by omega, by go_num, rfl, HZ, by first | rfl | trivial⟩ | ((repeat apply Exists.intro); exact ⟨⟨j + 1, z, by omega, by go_num, rfl, HZ, by first | rfl | trivial⟩, rfl⟩)
            case measure => simp [intOf]; omega
          · have HZ : Hid (z - 1 = o - nzN (T1.os.take (j + 1))) := by unfold Hid; rw [hst, if_pos h0, hz.out]; omega
            have d1 : (x != 0) = true := bne_iff_ne.2 h0
            have d2 : (x == 0) = false := beq_eq_false_iff_ne.2 h0
            have v1 : IntKind.i64.wrap (z - 1) = z - 1 := IntWalk.i64_in _ (by omega)
            clear hst hx h0 hA hz hnl
            go_wp2
            go_roundw
            case rel => first | exact ⟨j + 1, z - 1, by omega, by go_num, by first | rfl | go_num, HZ, by first | rfl | trivial⟩ | ((repeat apply Exists.intro); exact ⟨⟨j + 1, z - 1, by omega, by go_num, by first | rfl | go_num, HZ, by first | rfl | trivial⟩, rfl⟩)
            case measure => simp [intOf]; omega
        · have hjN : N3 = j := by omega
          subst hjN
          have j1 : ¬ (N3 : Int) < (N3 : Int) := by omega
          have hz2 : z = 0 := by rw [hz.out, HOWN.out, HNE.out]; omega
          subst hz2
          have hlen : Hid (N3 = N4) := HLEN.out
          have HCL := Lib.hid (HCK.out wr V1 (chain HB0.out (chain HX3.out hB.out)) ht)
          have hf := fun X (hb : Below X3.heap.size X3 X) => (HT.out X hb).1
          have HF5 := Lib.hid hf
          have HF2 := Lib.hid (fun X (hb : Below X3.heap.size X3 X) => HFH.out X (chain HX3.out hb))
          have hsl2 : s ≤ (N3 : Int) := hsl
          have hl4 : N4 = N3 := HLEN.out.symm
          subst hl4
          clear hz hnl hlen ht hints hf HINT HNZ HNL HNE HCK HOWN HEND HT HAW HOW
          go_wp2_with (go_at_call 10; with_reducible (refine Calls.mono HCL.out ?_); rintro e w7 ⟨rfl, hb7⟩; obtain ⟨y0, y1, y2⟩ := HF5.out _ (chain hB.out hb7); have z2 := HF2.out _ (chain hB.out hb7))
          go_ret
          exact ⟨rfl, chain HB0.out (chain HX3.out (chain hB.out hb7))⟩

/-- TableStays. -/
theorem tableStays_go (V : TabW) (t : Tab) (A : Option Addr) (c : Nat) (l : List Rc) (w : World) (HS : TableSpec w) (h : TabAt w w.heap.size V t) (ho : t.ok) (hl : RecsAt w w.heap.size A l) (hc : l.length ≤ c) (hr : ∀ r ∈ l, r.ok) (hm : l.length ≤ 140737488355328) :
    Calls Try.prog 7 #[.agg (tabV V t), .slice A l.length c] w fun e w' => e = .returned (.bool true) ∧ Below w.heap.size w w' := by
  by_cases hE : (applyR t l).1 = 0
  · exact tableStays_yes V t A c l w HS h ho hl hc hr hm hE
  · exact tableStays_no V t A c l w HS h ho hl hc hr hm hE

end Go.Proofs.Ytnenpafofplbhaa
