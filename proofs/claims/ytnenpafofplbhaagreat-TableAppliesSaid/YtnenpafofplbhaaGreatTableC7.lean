/-
  The landed table: ownersSound, sound, Check.
-/
import Derived.Test.YtnenpafofplbhaaGreatTableC6
import Derived.Deep.RegionHeld3
namespace Go.Proofs.YtnenpafofplbhaaGreat
open Go.RowKit

set_option maxHeartbeats 1600000 in
/-- 'slices.IndexFunc' of numbers; the function may take memory. -/
theorem indexN_any (A : Option Addr) (c : Nat) (os : List Int) (P : Nat → Bool) (r : Int) (fn : FuncId) (cb : Array Value) (w : World) (hN : os.length ≤ 9223372036854775807) (h : Ints w w.heap.size .i64 A os) (hr : FirstAt P os.length r)
    (he : ∀ args w, (callFunc fn args).run Tryz.prog w = .ok (.enter fn args) w) (hc : ∀ k (_ : k < os.length) W, Below w.heap.size w W → Calls Tryz.prog fn (#[.int .i64 (os.getD k 0)] ++ cb) W fun e w' => e = .returned (.bool (P k)) ∧ Below W.heap.size W w') :
    Calls Tryz.prog 77 #[.slice A os.length c, .func (.func fn) #[] cb] w fun e w' => e = .returned (.int .i64 r) ∧ Below w.heap.size w w' := by
  have HA : Hid (∀ W, Below w.heap.size w W → Ints W w.heap.size .i64 A os) := fun W hb => h.below hb
  have HC := Lib.hid hc
  have HR := Lib.hid hr
  obtain ⟨N, hNN⟩ : ∃ N, N = os.length := ⟨_, rfl⟩
  rw [← hNN] at HR hN ⊢
  have HN := Lib.hid hNN
  have eg := he
  clear h hc hNN hr
  go_enter Tryz.func77, Tryz.ntmps77
  go_wp2
  go_loopw [8] (fun i wr => ∃ k : Nat, k ≤ N ∧ i = .int .i64 k ∧ Hid (∀ j, j < k → P j = false) ∧ Hid (Below w.heap.size w wr)) (fun i _ => N - (intOf i).toNat)
  case atStart => exact ⟨0, Nat.zero_le _, rfl, fun j hj => absurd hj (Nat.not_lt_zero j), Below.refl _ _⟩
  case round =>
    obtain ⟨k, hk, rfl, hall, hB⟩ := hrel
    by_cases hlt : k < N
    · have hkx : k < os.length := by have := HN.out; omega
      obtain ⟨b, o, rfl, _, q0⟩ := HA.out wr hB.out k hkx
      have k1 : (k : Int) < (N : Int) := by omega
      have k0 : (0 : Int) ≤ (k : Int) := by omega
      have hck := HC.out k hkx wr hB.out
      have hall2 : Hid (P k = false → ∀ j, j < k + 1 → P j = false) := fun q j hj => by
        rcases Nat.lt_or_ge j k with g | g
        · exact hall.out j g
        · rw [show j = k by omega]; exact q
      have hy : Hid (P k = true → r = k) := fun q => HR.out.hit hlt q hall.out
      obtain ⟨p, hp⟩ : ∃ p, p = P k := ⟨_, rfl⟩
      rw [← hp] at hck hy hall2
      obtain ⟨x, hx⟩ : ∃ x, x = os.getD k 0 := ⟨_, rfl⟩
      rw [← hx] at q0 hck
      clear hx
      have HCK := Lib.hid hck
      clear hall HA HC hp hck
      cases p
      · have H2 := Lib.hid (hall2.out rfl)
        clear hall2 hy
        go_wp2_with (go_at_fn fn; with_reducible (refine Calls.mono HCK.out ?_); rintro e w2 ⟨rfl, hb2⟩)
        have R := Lib.hid (chain hB.out hb2)
        clear hB hb2
        go_roundw
        case rel => first | exact ⟨k + 1, by omega, by go_num, H2.out, R⟩ | ((repeat apply Exists.intro); exact ⟨⟨k + 1, by omega, by go_num, H2.out, R⟩, rfl⟩)
        case measure => simp [intOf]; omega
      · have H2 := Lib.hid (hy.out rfl)
        clear hall2 hy
        go_wp2_with (go_at_fn fn; with_reducible (refine Calls.mono HCK.out ?_); rintro e w2 ⟨rfl, hb2⟩)
        have R := Lib.hid (chain hB.out hb2)
        clear hB hb2
        go_ret
        exact ⟨by rw [H2.out]; rfl, R.out⟩
    · have hk8 : k = N := by omega
      subst hk8
      have hn := Lib.hid (HR.out.miss hall.out)
      clear hall HA HC
      have k1 : ¬ (k : Int) < (k : Int) := by omega
      go_wp2
      go_ret
      exact ⟨by rw [hn.out]; rfl, hB.out⟩

set_option maxHeartbeats 800000 in
/-- 'slices.ContainsFunc' of numbers. -/
theorem containsN_any (A : Option Addr) (c : Nat) (os : List Int) (P : Nat → Bool) (fn : FuncId) (cb : Array Value) (w : World) (hN : os.length ≤ 9223372036854775807) (h : Ints w w.heap.size .i64 A os)
    (he : ∀ args w, (callFunc fn args).run Tryz.prog w = .ok (.enter fn args) w) (hc : ∀ k (_ : k < os.length) W, Below w.heap.size w W → Calls Tryz.prog fn (#[.int .i64 (os.getD k 0)] ++ cb) W fun e w' => e = .returned (.bool (P k)) ∧ Below W.heap.size W w') :
    Calls Tryz.prog 66 #[.slice A os.length c, .func (.func fn) #[] cb] w fun e w' => e = .returned (.bool ((List.range os.length).any P)) ∧ Below w.heap.size w w' := by
  obtain ⟨r, hr⟩ := first_at P os.length
  have HI := Lib.hid (indexN_any A c os P r fn cb w hN h hr he hc)
  rw [← hr.any]
  obtain ⟨N, hNN⟩ : ∃ N, N = os.length := ⟨_, rfl⟩
  rw [← hNN] at HI ⊢
  clear h he hc hNN hr hN
  go_enter Tryz.func66, Tryz.ntmps66
  go_wp2_with (go_at_call 77; with_reducible (refine Calls.mono HI.out ?_); rintro e w2 ⟨rfl, hb2⟩)
  go_ret
  exact ⟨rfl, hb2⟩
set_option maxHeartbeats 800000 in
/-- 'slices.ContainsFunc' of tenants. -/
theorem containsT_any (A : Option Addr) (c : Nat) (ts : List Ten) (P : Nat → Bool) (fn : FuncId) (cb : Array Value) (w : World) (hN : ts.length ≤ 9223372036854775807) (h : TensAt w w.heap.size A ts)
    (he : ∀ args w, (callFunc fn args).run Tryz.prog w = .ok (.enter fn args) w) (hc : ∀ k (hk : k < ts.length) W, Below w.heap.size w W → Calls Tryz.prog fn (#[.agg (tenV ts[k])] ++ cb) W fun e w' => e = .returned (.bool (P k)) ∧ Below W.heap.size W w') :
    Calls Tryz.prog 67 #[.slice A ts.length c, .func (.func fn) #[] cb] w fun e w' => e = .returned (.bool ((List.range ts.length).any P)) ∧ Below w.heap.size w w' := by
  obtain ⟨r, hr⟩ := first_at P ts.length
  have HI := Lib.hid (indexT_any A c ts P r fn cb w hN h hr he hc)
  rw [← hr.any]
  obtain ⟨N, hNN⟩ : ∃ N, N = ts.length := ⟨_, rfl⟩
  rw [← hNN] at HI ⊢
  clear h he hc hNN hr hN
  go_enter Tryz.func67, Tryz.ntmps67
  go_wp2_with (go_at_call 68; with_reducible (refine Calls.mono HI.out ?_); rintro e w2 ⟨rfl, hb2⟩)
  go_ret
  exact ⟨rfl, hb2⟩

set_option maxHeartbeats 1600000 in
/-- Is an owner a stranger? -/
theorem stranger_any (V : TabW) (t : Tab) (o : Int) (q : Nat) (w : World) (h : TabAt w w.heap.size V t) (hm : t.ts.length ≤ 9223372036854775807)
    (hq : w.cell? ⟨q, 0, none⟩ = some (.slice V.A1 t.ts.length V.c1) ∧ w.cell? ⟨q, 1, none⟩ = some (.slice V.A2 t.vs.length V.c2) ∧ w.cell? ⟨q, 2, none⟩ = some (.slice V.A3 t.os.length V.c3)) :
    Calls Tryz.prog 64 (#[.int .i64 o] ++ #[.pointer (some ⟨q, 0, none⟩)]) w fun e w' => e = .returned (.bool (decide (o ≠ 0 ∧ (tenAt t.ts o).isSome = false))) ∧ Below w.heap.size w w' := by
  show Calls Tryz.prog 64 #[.int .i64 o, .pointer (some ⟨q, 0, none⟩)] w _
  have H := Lib.hid (there_any V t o w h hm)
  unfold tabV at H
  obtain ⟨q0, q1, q2⟩ := hq
  obtain ⟨b, hb⟩ : ∃ b, b = (tenAt t.ts o).isSome := ⟨_, rfl⟩
  rw [← hb] at H ⊢
  obtain ⟨N1, hN1⟩ : ∃ N, N = t.ts.length := ⟨_, rfl⟩
  obtain ⟨N2, hN2⟩ : ∃ N, N = t.vs.length := ⟨_, rfl⟩
  obtain ⟨N3, hN3⟩ : ∃ N, N = t.os.length := ⟨_, rfl⟩
  rw [← hN1, ← hN2, ← hN3] at H
  rw [← hN1] at q0
  rw [← hN2] at q1
  rw [← hN3] at q2
  clear h hm hb hN1 hN2 hN3
  by_cases h0 : o = 0
  · subst h0
    rw [decide_eq_false (fun h => h.1 rfl)]
    go_enter Tryz.func64, Tryz.ntmps64
    go_wp2
    go_ret
    exact ⟨rfl, Below.refl _ _⟩
  · have d : (o != 0) = true := bne_iff_ne.2 h0
    have d2 : (o == 0) = false := beq_eq_false_iff_ne.2 h0
    have e : decide (o ≠ 0 ∧ b = false) = !b := by cases b <;> simp [h0]
    rw [e]
    clear e h0
    cases b
    · go_enter Tryz.func64, Tryz.ntmps64
      go_wp2_with (go_at_call 63; with_reducible (refine Calls.mono H.out ?_); rintro e w2 ⟨rfl, hb2⟩)
      go_ret
      exact ⟨rfl, hb2⟩
    · go_enter Tryz.func64, Tryz.ntmps64
      go_wp2_with (go_at_call 63; with_reducible (refine Calls.mono H.out ?_); rintro e w2 ⟨rfl, hb2⟩)
      go_ret
      exact ⟨rfl, hb2⟩

set_option maxHeartbeats 1600000 in
/-- Does a tenant own more than its Quota? -/
theorem greedy_any (V : TabW) (t : Tab) (x : Ten) (q : Nat) (w : World) (h : TabAt w w.heap.size V t) (hm : t.os.length ≤ 9223372036854775807)
    (hq : w.cell? ⟨q, 0, none⟩ = some (.slice V.A1 t.ts.length V.c1) ∧ w.cell? ⟨q, 1, none⟩ = some (.slice V.A2 t.vs.length V.c2) ∧ w.cell? ⟨q, 2, none⟩ = some (.slice V.A3 t.os.length V.c3)) :
    Calls Tryz.prog 65 (#[.agg (tenV x)] ++ #[.pointer (some ⟨q, 0, none⟩)]) w fun e w' => e = .returned (.bool (decide (x.quota < (ownN t.os x.id : Nat)))) ∧ Below w.heap.size w w' := by
  show Calls Tryz.prog 65 #[.agg (tenV x), .pointer (some ⟨q, 0, none⟩)] w _
  have H := Lib.hid (fun (W : World) (hb : Below w.heap.size w W) => owned_any V t x.id W ((h.below hb).more hb.size) hm)
  unfold tabV at H
  obtain ⟨p0, p1, p2, p3, p4, p5⟩ := x
  simp only [tenV]
  simp only at H
  have hb0 : Below w.heap.size w (w.alloc (.cells #[.int .i64 p0, .int .i64 p1, .int .i64 p2, .int .i64 p3, .string p4, .bool p5] 49)) := (Below.refl _ _).alloc (Nat.le_refl _) _
  have hlt0 := World.block_lt_of_cell? w _ hq.1
  obtain ⟨N1, hN1⟩ : ∃ N, N = t.ts.length := ⟨_, rfl⟩
  obtain ⟨N2, hN2⟩ : ∃ N, N = t.vs.length := ⟨_, rfl⟩
  obtain ⟨N3, hN3⟩ : ∃ N, N = t.os.length := ⟨_, rfl⟩
  obtain ⟨m, hmm⟩ : ∃ m, m = ownN t.os p0 := ⟨_, rfl⟩
  rw [← hN1, ← hN2, ← hN3, ← hmm] at H
  rw [← hN1, ← hN2, ← hN3] at hq
  rw [← hmm]
  have HQ : Hid (∀ X, Below w.heap.size w X → X.cell? ⟨q, 0, none⟩ = some (.slice V.A1 N1 V.c1) ∧ X.cell? ⟨q, 1, none⟩ = some (.slice V.A2 N2 V.c2) ∧ X.cell? ⟨q, 2, none⟩ = some (.slice V.A3 N3 V.c3)) := fun X hb => ⟨(hb.cell (p := ⟨q, 0, none⟩) hlt0).trans hq.1, (hb.cell (p := ⟨q, 1, none⟩) hlt0).trans hq.2.1, (hb.cell (p := ⟨q, 2, none⟩) hlt0).trans hq.2.2⟩
  obtain ⟨W0, hW0⟩ : ∃ W, W = w.alloc (.cells #[.int .i64 p0, .int .i64 p1, .int .i64 p2, .int .i64 p3, .string p4, .bool p5] 49) := ⟨_, rfl⟩
  have HX : Hid (∀ X, Below W0.heap.size W0 X → X.cell? ⟨w.heap.size, 0, none⟩ = some (.int .i64 p0) ∧ X.cell? ⟨w.heap.size, 1, none⟩ = some (.int .i64 p1)) := fun X hb => by
    have hg := heap_alloc_new w (.cells #[.int .i64 p0, .int .i64 p1, .int .i64 p2, .int .i64 p3, .string p4, .bool p5] 49)
    rw [← hW0] at hg
    obtain ⟨a, b, _⟩ := cells6 ((hb.block _ (Array.getElem?_eq_some_iff.1 hg).1).trans hg)
    exact ⟨a, b⟩
  rw [← hW0] at hb0
  have HB0 := Lib.hid hb0
  clear h hm hN1 hN2 hN3 hmm hq hlt0 hb0
  go_enter Tryz.func65, Tryz.ntmps65
  go_wp2_with fail
  rw [← hW0]
  clear hW0
  have hbx : Below W0.heap.size W0 W0.drew := (Below.refl _ _).drew
  go_region_held3 (fun W => (W.cell? ⟨q, 0, none⟩ = some (.slice V.A1 N1 V.c1) ∧ W.cell? ⟨q, 1, none⟩ = some (.slice V.A2 N2 V.c2) ∧ W.cell? ⟨q, 2, none⟩ = some (.slice V.A3 N3 V.c3)) ∧ W.cell? ⟨w.heap.size, 0, none⟩ = some (.int .i64 p0) ∧ W.cell? ⟨w.heap.size, 1, none⟩ = some (.int .i64 p1))
    (exact ⟨HQ.out _ (chain HB0.out hbx), HX.out _ hbx⟩)
    (first
      | (go_at_call 17; with_reducible (refine Calls.mono (H.out _ (chain HB0.out hbx)) ?_); rintro e w3 ⟨rfl, hb3⟩; have hbx : Below W0.heap.size W0 w3 := hbx.trans (hb3.mono hbx.size))
      | fail)
  all_goals (go_wp2; go_ret; exact ⟨rfl, chain HB0.out hbx⟩)

end Go.Proofs.YtnenpafofplbhaaGreat
