/-
  The landed table: ownersSound, sound, Check. The landed table: ownersSound, sound, Check. Two rows of one's own that grow side by side.
-/
import Derived.Test.YtbmgiekiildaaaaTableC5G
import Derived.Deep.RegionHeld3
import Derived.Test.YtbmgiekiildaaaaWordsG
namespace Go.Proofs.Ytbmgiekiildaaaa
open Go.RowKit

set_option maxHeartbeats 1600000 in
/-- 'slices.IndexFunc' of numbers; the function may take memory. -/
theorem indexN_any (A : Option Addr) (c : Nat) (os : List Int) (P : Nat → Bool) (r : Int) (fn : FuncId) (cb : Array Value) (w : World) (hN : os.length ≤ 9223372036854775807) (h : Ints w w.heap.size .i64 A os) (hr : FirstAt P os.length r)
    (he : ∀ args w, (callFunc fn args).run Try.prog w = .ok (.enter fn args) w) (hc : ∀ k (_ : k < os.length) W, Below w.heap.size w W → Calls Try.prog fn (#[.int .i64 (os.getD k 0)] ++ cb) W fun e w' => e = .returned (.bool (P k)) ∧ Below W.heap.size W w') :
    Calls Try.prog 59 #[.slice A os.length c, .func (.func fn) #[] cb] w fun e w' => e = .returned (.int .i64 r) ∧ Below w.heap.size w w' := by
  have HA : Hid (∀ W, Below w.heap.size w W → Ints W w.heap.size .i64 A os) := fun W hb => h.below hb
  have HC := Lib.hid hc
  have HR := Lib.hid hr
  obtain ⟨N, hNN⟩ : ∃ N, N = os.length := ⟨_, rfl⟩
  rw [← hNN] at HR hN ⊢
  have HN := Lib.hid hNN
  have eg := he
  clear h hc hNN hr
  go_enter Try.func59, Try.ntmps59
  go_wp2
  go_loopw [8] (fun i wr => ∃ k : Nat, k ≤ N ∧ i = .int .i64 k ∧ Hid (∀ j, j < k → P j = false) ∧ Hid (Below w.heap.size w wr)) (fun i _ => N - (intOf i).toNat)
  case atStart => exact ⟨0, Nat.zero_le _, rfl, fun j hj => absurd hj (Nat.not_lt_zero j), Below.refl _ _⟩
  case round =>
    obtain ⟨k, hk, rfl, hall, hB⟩ := hrel
    by_cases hlt : k < N
    · have hkx : k < os.length := by have := HN.out; omega
      obtain ⟨b, o, rfl, _, q0⟩ := HA.out wr hB.out k hkx
      have k1 : (k : Int) < (N : Int) := by omega
      have k0 : (0 : Int) ≤ (k : Int) := by omega
      have hck := HC.out k hkx wr hB.out
      have hall2 : Hid (P k = false → ∀ j, j < k + 1 → P j = false) := fun q j hj => by
        rcases Nat.lt_or_ge j k with g | g
        · exact hall.out j g
        · rw [show j = k by omega]; exact q
      have hy : Hid (P k = true → r = k) := fun q => HR.out.hit hlt q hall.out
      obtain ⟨p, hp⟩ : ∃ p, p = P k := ⟨_, rfl⟩
      rw [← hp] at hck hy hall2
      obtain ⟨x, hx⟩ : ∃ x, x = os.getD k 0 := ⟨_, rfl⟩
      rw [← hx] at q0 hck
      clear hx
      have HCK := Lib.hid hck
      clear hall HA HC hp hck
      cases p
      · have H2 := Lib.hid (hall2.out rfl)
        clear hall2 hy
        go_wp2_with (go_at_fn fn; with_reducible (refine Calls.mono HCK.out ?_); rintro e w2 ⟨rfl, hb2⟩)
        have R := Lib.hid (chain hB.out hb2)
        clear hB hb2
        go_roundw
        case rel => first | exact ⟨k + 1, by omega, by go_num, H2.out, R⟩ | ((repeat apply Exists.intro); exact ⟨⟨k + 1, by omega, by go_num, H2.out, R⟩, rfl⟩)
        case measure => simp [intOf]; omega
      · have H2 := Lib.hid (hy.out rfl)
        clear hall2 hy
        go_wp2_with (go_at_fn fn; with_reducible (refine Calls.mono HCK.out ?_); rintro e w2 ⟨rfl, hb2⟩)
        have R := Lib.hid (chain hB.out hb2)
        clear hB hb2
        go_ret
        exact ⟨by rw [H2.out]; rfl, R.out⟩
    · have hk8 : k = N := by omega
      subst hk8
      have hn := Lib.hid (HR.out.miss hall.out)
      clear hall HA HC
      have k1 : ¬ (k : Int) < (k : Int) := by omega
      go_wp2
      go_ret
      exact ⟨by rw [hn.out]; rfl, hB.out⟩

set_option maxHeartbeats 800000 in
/-- 'slices.ContainsFunc' of numbers. -/
theorem containsN_any (A : Option Addr) (c : Nat) (os : List Int) (P : Nat → Bool) (fn : FuncId) (cb : Array Value) (w : World) (hN : os.length ≤ 9223372036854775807) (h : Ints w w.heap.size .i64 A os)
    (he : ∀ args w, (callFunc fn args).run Try.prog w = .ok (.enter fn args) w) (hc : ∀ k (_ : k < os.length) W, Below w.heap.size w W → Calls Try.prog fn (#[.int .i64 (os.getD k 0)] ++ cb) W fun e w' => e = .returned (.bool (P k)) ∧ Below W.heap.size W w') :
    Calls Try.prog 55 #[.slice A os.length c, .func (.func fn) #[] cb] w fun e w' => e = .returned (.bool ((List.range os.length).any P)) ∧ Below w.heap.size w w' := by
  obtain ⟨r, hr⟩ := first_at P os.length
  have HI := Lib.hid (indexN_any A c os P r fn cb w hN h hr he hc)
  rw [← hr.any]
  obtain ⟨N, hNN⟩ : ∃ N, N = os.length := ⟨_, rfl⟩
  rw [← hNN] at HI ⊢
  clear h he hc hNN hr hN
  go_enter Try.func55, Try.ntmps55
  go_wp2_with (go_at_call 59; with_reducible (refine Calls.mono HI.out ?_); rintro e w2 ⟨rfl, hb2⟩)
  go_ret
  exact ⟨rfl, hb2⟩
set_option maxHeartbeats 800000 in
/-- 'slices.ContainsFunc' of tenants. -/
theorem containsT_any (A : Option Addr) (c : Nat) (ts : List Ten) (P : Nat → Bool) (fn : FuncId) (cb : Array Value) (w : World) (hN : ts.length ≤ 9223372036854775807) (h : TensAt w w.heap.size A ts)
    (he : ∀ args w, (callFunc fn args).run Try.prog w = .ok (.enter fn args) w) (hc : ∀ k (hk : k < ts.length) W, Below w.heap.size w W → Calls Try.prog fn (#[.agg (tenV ts[k])] ++ cb) W fun e w' => e = .returned (.bool (P k)) ∧ Below W.heap.size W w') :
    Calls Try.prog 56 #[.slice A ts.length c, .func (.func fn) #[] cb] w fun e w' => e = .returned (.bool ((List.range ts.length).any P)) ∧ Below w.heap.size w w' := by
  obtain ⟨r, hr⟩ := first_at P ts.length
  have HI := Lib.hid (indexT_any A c ts P r fn cb w hN h hr he hc)
  rw [← hr.any]
  obtain ⟨N, hNN⟩ : ∃ N, N = ts.length := ⟨_, rfl⟩
  rw [← hNN] at HI ⊢
  clear h he hc hNN hr hN
  go_enter Try.func56, Try.ntmps56
  go_wp2_with (go_at_call 60; with_reducible (refine Calls.mono HI.out ?_); rintro e w2 ⟨rfl, hb2⟩)
  go_ret
  exact ⟨rfl, hb2⟩

set_option maxHeartbeats 1600000 in
/-- Is an owner a stranger? -/
theorem stranger_any (V : TabW) (t : Tab) (o : Int) (q : Nat) (w : World) (h : TabAt w w.heap.size V t) (hm : t.ts.length ≤ 9223372036854775807)
    (hq : w.cell? ⟨q, 0, none⟩ = some (.slice V.A1 t.ts.length V.c1) ∧ w.cell? ⟨q, 1, none⟩ = some (.slice V.A2 t.vs.length V.c2) ∧ w.cell? ⟨q, 2, none⟩ = some (.slice V.A3 t.os.length V.c3)) :
    Calls Try.prog 52 (#[.int .i64 o] ++ #[.pointer (some ⟨q, 0, none⟩)]) w fun e w' => e = .returned (.bool (decide (o ≠ 0 ∧ (tenAt t.ts o).isSome = false))) ∧ Below w.heap.size w w' := by
  show Calls Try.prog 52 #[.int .i64 o, .pointer (some ⟨q, 0, none⟩)] w _
  have H := Lib.hid (there_any V t o w h hm)
  unfold tabV at H
  obtain ⟨q0, q1, q2⟩ := hq
  obtain ⟨b, hb⟩ : ∃ b, b = (tenAt t.ts o).isSome := ⟨_, rfl⟩
  rw [← hb] at H ⊢
  obtain ⟨N1, hN1⟩ : ∃ N, N = t.ts.length := ⟨_, rfl⟩
  obtain ⟨N2, hN2⟩ : ∃ N, N = t.vs.length := ⟨_, rfl⟩
  obtain ⟨N3, hN3⟩ : ∃ N, N = t.os.length := ⟨_, rfl⟩
  rw [← hN1, ← hN2, ← hN3] at H
  rw [← hN1] at q0
  rw [← hN2] at q1
  rw [← hN3] at q2
  clear h hm hb hN1 hN2 hN3
  by_cases h0 : o = 0
  · subst h0
    rw [decide_eq_false (fun h => h.1 rfl)]
    go_enter Try.func52, Try.ntmps52
    go_wp2
    go_ret
    exact ⟨rfl, Below.refl _ _⟩
  · have d : (o != 0) = true := bne_iff_ne.2 h0
    have d2 : (o == 0) = false := beq_eq_false_iff_ne.2 h0
    have e : decide (o ≠ 0 ∧ b = false) = !b := by cases b <;> simp [h0]
    rw [e]
    clear e h0
    cases b
    · go_enter Try.func52, Try.ntmps52
      go_wp2_with (go_at_call 51; with_reducible (refine Calls.mono H.out ?_); rintro e w2 ⟨rfl, hb2⟩)
      go_ret
      exact ⟨rfl, hb2⟩
    · go_enter Try.func52, Try.ntmps52
      go_wp2_with (go_at_call 51; with_reducible (refine Calls.mono H.out ?_); rintro e w2 ⟨rfl, hb2⟩)
      go_ret
      exact ⟨rfl, hb2⟩

set_option maxHeartbeats 1600000 in
/-- Does a tenant own more than its Quota? -/
theorem greedy_any (V : TabW) (t : Tab) (x : Ten) (q : Nat) (w : World) (h : TabAt w w.heap.size V t) (hm : t.os.length ≤ 9223372036854775807)
    (hq : w.cell? ⟨q, 0, none⟩ = some (.slice V.A1 t.ts.length V.c1) ∧ w.cell? ⟨q, 1, none⟩ = some (.slice V.A2 t.vs.length V.c2) ∧ w.cell? ⟨q, 2, none⟩ = some (.slice V.A3 t.os.length V.c3)) :
    Calls Try.prog 53 (#[.agg (tenV x)] ++ #[.pointer (some ⟨q, 0, none⟩)]) w fun e w' => e = .returned (.bool (decide (x.quota < (ownN t.os x.id : Nat)))) ∧ Below w.heap.size w w' := by
  show Calls Try.prog 53 #[.agg (tenV x), .pointer (some ⟨q, 0, none⟩)] w _
  have H := Lib.hid (fun (W : World) (hb : Below w.heap.size w W) => owned_any V t x.id W ((h.below hb).more hb.size) hm)
  unfold tabV at H
  obtain ⟨p0, p1, p2, p3, p4, p5⟩ := x
  simp only [tenV]
  simp only at H
  have hb0 : Below w.heap.size w (w.alloc (.cells #[.int .i64 p0, .int .i64 p1, .int .i64 p2, .int .i64 p3, .string p4, .bool p5] 83)) := (Below.refl _ _).alloc (Nat.le_refl _) _
  have hlt0 := World.block_lt_of_cell? w _ hq.1
  obtain ⟨N1, hN1⟩ : ∃ N, N = t.ts.length := ⟨_, rfl⟩
  obtain ⟨N2, hN2⟩ : ∃ N, N = t.vs.length := ⟨_, rfl⟩
  obtain ⟨N3, hN3⟩ : ∃ N, N = t.os.length := ⟨_, rfl⟩
  obtain ⟨m, hmm⟩ : ∃ m, m = ownN t.os p0 := ⟨_, rfl⟩
  rw [← hN1, ← hN2, ← hN3, ← hmm] at H
  rw [← hN1, ← hN2, ← hN3] at hq
  rw [← hmm]
  have HQ : Hid (∀ X, Below w.heap.size w X → X.cell? ⟨q, 0, none⟩ = some (.slice V.A1 N1 V.c1) ∧ X.cell? ⟨q, 1, none⟩ = some (.slice V.A2 N2 V.c2) ∧ X.cell? ⟨q, 2, none⟩ = some (.slice V.A3 N3 V.c3)) := fun X hb => ⟨(hb.cell (p := ⟨q, 0, none⟩) hlt0).trans hq.1, (hb.cell (p := ⟨q, 1, none⟩) hlt0).trans hq.2.1, (hb.cell (p := ⟨q, 2, none⟩) hlt0).trans hq.2.2⟩
  obtain ⟨W0, hW0⟩ : ∃ W, W = w.alloc (.cells #[.int .i64 p0, .int .i64 p1, .int .i64 p2, .int .i64 p3, .string p4, .bool p5] 83) := ⟨_, rfl⟩
  have HX : Hid (∀ X, Below W0.heap.size W0 X → X.cell? ⟨w.heap.size, 0, none⟩ = some (.int .i64 p0) ∧ X.cell? ⟨w.heap.size, 1, none⟩ = some (.int .i64 p1)) := fun X hb => by
    have hg := heap_alloc_new w (.cells #[.int .i64 p0, .int .i64 p1, .int .i64 p2, .int .i64 p3, .string p4, .bool p5] 83)
    rw [← hW0] at hg
    obtain ⟨a, b, _⟩ := cells6 ((hb.block _ (Array.getElem?_eq_some_iff.1 hg).1).trans hg)
    exact ⟨a, b⟩
  rw [← hW0] at hb0
  have HB0 := Lib.hid hb0
  clear h hm hN1 hN2 hN3 hmm hq hlt0 hb0
  go_enter Try.func53, Try.ntmps53
  go_wp2_with fail
  rw [← hW0]
  clear hW0
  have hbx : Below W0.heap.size W0 W0.drew := (Below.refl _ _).drew
  go_region_held3 (fun W => (W.cell? ⟨q, 0, none⟩ = some (.slice V.A1 N1 V.c1) ∧ W.cell? ⟨q, 1, none⟩ = some (.slice V.A2 N2 V.c2) ∧ W.cell? ⟨q, 2, none⟩ = some (.slice V.A3 N3 V.c3)) ∧ W.cell? ⟨w.heap.size, 0, none⟩ = some (.int .i64 p0) ∧ W.cell? ⟨w.heap.size, 1, none⟩ = some (.int .i64 p1))
    (exact ⟨HQ.out _ (chain HB0.out hbx), HX.out _ hbx⟩)
    (first
      | (go_at_call 54; with_reducible (refine Calls.mono (H.out _ (chain HB0.out hbx)) ?_); rintro e w3 ⟨rfl, hb3⟩; have hbx : Below W0.heap.size W0 w3 := hbx.trans (hb3.mono hbx.size))
      | fail)
  all_goals (go_wp2; go_ret; exact ⟨rfl, chain HB0.out hbx⟩)

end Go.Proofs.Ytbmgiekiildaaaa

namespace Go.Proofs.Ytbmgiekiildaaaa
open Go.RowKit

theorem range_any_get {α : Type} {l : List α} {P : Nat → Bool} : (List.range l.length).any P = false ↔ ∀ k, k < l.length → P k = false := by
  rw [List.any_eq_false]
  exact ⟨fun h k hk => by have := h k (List.mem_range.2 hk); simpa using this, fun h x hx => by rw [h x (List.mem_range.1 hx)]; decide⟩

set_option maxHeartbeats 1600000 in
set_option maxRecDepth 20000 in
/-- 'ownersSound'. -/
theorem ownsSound_any (V : TabW) (t : Tab) (w : World) (h : TabAt w w.heap.size V t) (hm1 : t.ts.length ≤ 9223372036854775807) (hm : t.os.length ≤ 9223372036854775807) (S : Bool) (hS : S = true ↔ (∀ o ∈ t.os, o = 0 ∨ (tenAt t.ts o).isSome = true) ∧ ∀ x ∈ t.ts, (ownN t.os x.id : Int) ≤ x.quota) :
    Calls Try.prog 45 #[.agg (tabV V t)] w fun e w' => e = .returned (.bool S) ∧ Below w.heap.size w w' := by
  obtain ⟨F0, F1, F2, hb0⟩ := box_facts w (.slice V.A1 t.ts.length V.c1) (.slice V.A2 t.vs.length V.c2) (.slice V.A3 t.os.length V.c3) 38
  obtain ⟨W0, hW0⟩ : ∃ W, W = w.alloc (.cells #[.slice V.A1 t.ts.length V.c1, .slice V.A2 t.vs.length V.c2, .slice V.A3 t.os.length V.c3] 38) := ⟨_, rfl⟩
  rw [← hW0] at F0 F1 F2 hb0
  have hlt0 := World.block_lt_of_cell? W0 _ F0
  have HF : ∀ X, Below W0.heap.size W0 X → X.cell? ⟨w.heap.size, 0, none⟩ = some (.slice V.A1 t.ts.length V.c1) ∧ X.cell? ⟨w.heap.size, 1, none⟩ = some (.slice V.A2 t.vs.length V.c2) ∧ X.cell? ⟨w.heap.size, 2, none⟩ = some (.slice V.A3 t.os.length V.c3) := fun X hb => ⟨(hb.cell (p := ⟨w.heap.size, 0, none⟩) hlt0).trans F0, (hb.cell (p := ⟨w.heap.size, 1, none⟩) hlt0).trans F1, (hb.cell (p := ⟨w.heap.size, 2, none⟩) hlt0).trans F2⟩
  have hT : ∀ X, Below W0.heap.size W0 X → TabAt X X.heap.size V t := fun X hb => (h.below (chain hb0 hb)).more (chain hb0 hb).size
  have H1 := Lib.hid (containsN_any V.A3 V.c3 t.os (fun k => decide (t.os.getD k 0 ≠ 0 ∧ (tenAt t.ts (t.os.getD k 0)).isSome = false)) 52 #[.pointer (some ⟨w.heap.size, 0, none⟩)] W0 hm ((h.below hb0).more hb0.size).os (fun args w => by kernel_rfl)
    (fun k _ W hb => stranger_any V t (t.os.getD k 0) w.heap.size W (hT W hb) hm1 (HF W hb)))
  have H2 := Lib.hid (fun (W : World) (hb : Below W0.heap.size W0 W) => containsT_any V.A1 V.c1 t.ts (fun k => decide (∃ h : k < t.ts.length, t.ts[k].quota < (ownN t.os t.ts[k].id : Nat))) 53 #[.pointer (some ⟨w.heap.size, 0, none⟩)] W hm1 (hT W hb).ts (fun args w => by kernel_rfl)
    (fun k hk X hx => by
      have q := greedy_any V t t.ts[k] w.heap.size X (hT X (chain hb hx)) hm (HF X (chain hb hx))
      have e : decide (∃ h : k < t.ts.length, t.ts[k].quota < (ownN t.os t.ts[k].id : Nat)) = decide (t.ts[k].quota < (ownN t.os t.ts[k].id : Nat)) := by
        rw [Bool.eq_iff_iff, decide_eq_true_iff, decide_eq_true_iff]
        exact ⟨fun ⟨_, e⟩ => e, fun e => ⟨hk, e⟩⟩
      rw [e]; exact q))
  have e1 : ((List.range t.os.length).any fun k => decide (t.os.getD k 0 ≠ 0 ∧ (tenAt t.ts (t.os.getD k 0)).isSome = false)) = false ↔ ∀ o ∈ t.os, o = 0 ∨ (tenAt t.ts o).isSome = true := by
    rw [range_any_get]
    constructor
    · intro q o ho
      obtain ⟨k, hk, rfl⟩ := List.getElem_of_mem ho
      have := of_decide_eq_false (q k hk)
      rw [List.getD_eq_getElem?_getD, List.getElem?_eq_getElem hk, Option.getD_some] at this
      by_cases h0 : t.os[k] = 0
      · exact .inl h0
      · right
        cases hs : (tenAt t.ts t.os[k]).isSome with
        | true => rfl
        | false => exact absurd ⟨h0, hs⟩ this
    · intro q k hk
      refine decide_eq_false fun ⟨a, b⟩ => ?_
      rcases q _ (getD_mem hk) with h0 | h0
      · exact a h0
      · rw [h0] at b; cases b
  have e2 : ((List.range t.ts.length).any fun k => decide (∃ h : k < t.ts.length, t.ts[k].quota < (ownN t.os t.ts[k].id : Nat))) = false ↔ ∀ x ∈ t.ts, (ownN t.os x.id : Int) ≤ x.quota := by
    rw [range_any_get]
    constructor
    · intro q x hx
      obtain ⟨k, hk, rfl⟩ := List.getElem_of_mem hx
      have := of_decide_eq_false (q k hk)
      exact Int.not_lt.1 fun hlt => this ⟨hk, hlt⟩
    · intro q k hk
      refine decide_eq_false fun ⟨a, b⟩ => ?_
      have := q _ (List.getElem_mem hk)
      omega
  obtain ⟨b1, hb1⟩ : ∃ b, b = (List.range t.os.length).any fun k => decide (t.os.getD k 0 ≠ 0 ∧ (tenAt t.ts (t.os.getD k 0)).isSome = false) := ⟨_, rfl⟩
  obtain ⟨b2, hb2⟩ : ∃ b, b = (List.range t.ts.length).any fun k => decide (∃ h : k < t.ts.length, t.ts[k].quota < (ownN t.os t.ts[k].id : Nat)) := ⟨_, rfl⟩
  rw [← hb1] at e1 H1
  simp only [← hb2] at e2 H2
  rw [← e1, ← e2] at hS
  have hSS : S = (!b1 && !b2) := by
    rw [Bool.eq_iff_iff, hS]
    cases b1 <;> cases b2 <;> decide
  rw [hSS]
  obtain ⟨f0, f1, f2⟩ := HF W0 (Below.refl _ _)
  have HFH := Lib.hid HF
  unfold tabV
  obtain ⟨N1, hN1⟩ : ∃ N, N = t.ts.length := ⟨_, rfl⟩
  obtain ⟨N2, hN2⟩ : ∃ N, N = t.vs.length := ⟨_, rfl⟩
  obtain ⟨N3, hN3⟩ : ∃ N, N = t.os.length := ⟨_, rfl⟩
  simp only [← hN1, ← hN2, ← hN3] at H1 H2 HFH hW0 f0 f1 f2 ⊢
  have HB0 := Lib.hid hb0
  clear hS hSS e1 e2 hb1 hb2 hT HF h hm hm1 hN1 hN2 hN3 F0 F1 F2 hlt0 hb0
  cases b1
  · cases b2
    all_goals
      go_enter Try.func45, Try.ntmps45
      go_wp2_with fail
      rw [← hW0]
      clear hW0
      go_wp2_with (first
        | (go_at_call 55; with_reducible (refine Calls.mono H1.out ?_); rintro e w2 ⟨rfl, hb2⟩
           obtain ⟨f0, f1, f2⟩ := HFH.out _ hb2)
        | (go_at_call 56; with_reducible (refine Calls.mono (H2.out _ hb2) ?_); rintro e w3 ⟨rfl, hb3⟩))
      go_ret
      exact ⟨rfl, chain HB0.out (chain hb2 hb3)⟩
  · go_enter Try.func45, Try.ntmps45
    go_wp2_with fail
    rw [← hW0]
    clear hW0
    go_wp2_with (go_at_call 55; with_reducible (refine Calls.mono H1.out ?_); rintro e w2 ⟨rfl, hb2⟩)
    go_ret
    exact ⟨rfl, chain HB0.out hb2⟩

theorem goodV_all {ts : List Ten} {vs : List Vol} (h1 : ∀ x ∈ ts, x.plain) : (∀ j, j < vs.length → goodV ts vs j) ↔ (∀ v ∈ vs, (0 ≤ v.id ∧ v.id ≤ 7) ∧ (tenAt ts v.ten).isSome = true ∧ (0 ≤ v.blocks ∧ v.blocks ≤ 32) ∧ 0 ≤ v.base ∧ v.base ≤ 1099511627776) ∧ vs.Pairwise fun x y => x.id < y.id := by
  have key : ∀ v : Vol, (formR ⟨5, v.id, v.ten, v.blocks, 0, ⟨#[]⟩⟩ ∧ formR ⟨8, v.id, v.base, 0, 0, ⟨#[]⟩⟩ ∧ (tenAt ts v.ten).isSome = true) ↔ ((0 ≤ v.id ∧ v.id ≤ 7) ∧ (tenAt ts v.ten).isSome = true ∧ (0 ≤ v.blocks ∧ v.blocks ≤ 32) ∧ 0 ≤ v.base ∧ v.base ≤ 1099511627776) := fun v => by
    have hz : (⟨#[]⟩ : ByteArray).size = 0 := rfl
    constructor
    · rintro ⟨a, b, c⟩
      unfold formR inR at a b
      rw [hz] at a b
      simp at a b
      exact ⟨a.1, c, a.2.2, b.2⟩
    · rintro ⟨a, c, d, e⟩
      obtain ⟨y, hy, hk⟩ := tenAt_isSome.1 c
      have hp := (h1 y hy).id
      rw [hk] at hp
      refine ⟨?_, ?_, c⟩
      · unfold formR inR
        rw [hz]
        simp
        exact ⟨a, hp, d⟩
      · unfold formR inR
        rw [hz]
        simp
        exact ⟨a, e⟩
  constructor
  · intro h
    have hall : ∀ v ∈ vs, (0 ≤ v.id ∧ v.id ≤ 7) ∧ (tenAt ts v.ten).isSome = true ∧ (0 ≤ v.blocks ∧ v.blocks ≤ 32) ∧ 0 ≤ v.base ∧ v.base ≤ 1099511627776 := fun v hv => by
      obtain ⟨k, hk, rfl⟩ := List.getElem_of_mem hv
      obtain ⟨_, _, q⟩ := h k hk
      exact (key _).1 q
    refine ⟨hall, ?_⟩
    have step : ∀ k, (hk : k + 1 < vs.length) → vs[k].id < vs[k + 1].id := fun k hk => by
      obtain ⟨_, q, _⟩ := h (k + 1) hk
      rwa [lastV_succ (by omega)] at q
    rw [List.pairwise_iff_getElem]
    intro i j hi hj hij
    induction j with
    | zero => omega
    | succ j ih =>
      have hs := step j hj
      rcases Nat.lt_or_ge i j with q | q
      · have := ih (by omega) q; omega
      · have : i = j := by omega
        subst this; exact hs
  · rintro ⟨h2, h3⟩ k hk
    refine ⟨hk, ?_, (key _).2 (h2 _ (List.getElem_mem hk))⟩
    cases k with
    | zero => have := (h2 _ (List.getElem_mem hk)).1; show (-1 : Int) < _; omega
    | succ k =>
      rw [lastV_succ (by omega)]
      exact List.pairwise_iff_getElem.1 h3 k (k + 1) (by omega) hk (Nat.lt_succ_self k)

theorem sound_parts (t : Tab) : t.sound ↔ inR (t.os.length : Int) 1 64 ∧ ((∀ j, j < t.ts.length → goodT t.ts j) ∧ sumQ t.ts ≤ t.os.length) ∧ (∀ j, j < t.vs.length → goodV t.ts t.vs j) ∧ ((∀ o ∈ t.os, o = 0 ∨ (tenAt t.ts o).isSome = true) ∧ ∀ x ∈ t.ts, (ownN t.os x.id : Int) ≤ x.quota) := by
  constructor
  · intro h
    have hp : ∀ x ∈ t.ts, x.plain := fun x hx => (h.ten x hx).1
    refine ⟨by have := h.len; unfold inR; omega, ⟨goodT_all.2 ⟨hp, h.up⟩, h.sum⟩, (goodV_all hp).2 ⟨h.vol, h.vup⟩, h.own, fun x hx => (h.ten x hx).2⟩
  · rintro ⟨a, ⟨b1, b2⟩, c, d, e⟩
    obtain ⟨b3, b4⟩ := goodT_all.1 b1
    obtain ⟨c1, c2⟩ := (goodV_all b3).1 c
    exact ⟨by unfold inR at a; omega, fun x hx => ⟨b3 x hx, e x hx⟩, b4, c1, c2, d, b2⟩

open Classical in
set_option maxHeartbeats 1600000 in
set_option maxRecDepth 20000 in
/-- 'sound'. -/
theorem sound_any (V : TabW) (t : Tab) (w : World) (h : TabAt w w.heap.size V t) (ho : t.ok) (S : Bool) (hS : S = true ↔ t.sound) :
    Calls Try.prog 36 #[.agg (tabV V t)] w fun e w' => e = .returned (.bool S) ∧ Below w.heap.size w w' := by
  obtain ⟨S1, h1⟩ : ∃ S : Bool, S = true ↔ (∀ j, j < t.ts.length → goodT t.ts j) ∧ sumQ t.ts ≤ t.os.length := ⟨decide _, decide_eq_true_iff⟩
  obtain ⟨S2, h2⟩ : ∃ S : Bool, S = true ↔ (∀ j, j < t.vs.length → goodV t.ts t.vs j) := ⟨decide _, decide_eq_true_iff⟩
  obtain ⟨S3, h3⟩ : ∃ S : Bool, S = true ↔ (∀ o ∈ t.os, o = 0 ∨ (tenAt t.ts o).isSome = true) ∧ ∀ x ∈ t.ts, (ownN t.os x.id : Int) ≤ x.quota := ⟨decide _, decide_eq_true_iff⟩
  have hb0 : Below w.heap.size w (w.alloc (.cells (tabV V t) 38)) := (Below.refl _ _).alloc (Nat.le_refl _) _
  have hb1 := hb0.alloc hb0.size (.cells #[.int .i64 1, .int .i64 64] 79)
  have hT : ∀ X, Below w.heap.size w X → TabAt X X.heap.size V t := fun X hb => (h.below hb).more hb.size
  have H1 := Lib.hid (fun (W : World) (hb : Below w.heap.size w W) => tensSound_any V t W (hT W hb) ho.nt S1 h1)
  have H2 := Lib.hid (fun (W : World) (hb : Below w.heap.size w W) => volsSound_any V t W (hT W hb) ho.nt ho.nv S2 h2)
  have H3 := Lib.hid (fun (W : World) (hb : Below w.heap.size w W) => ownsSound_any V t W (hT W hb) ho.nt ho.no S3 h3)
  have H0 := Lib.hid (fun W : World => has_any 1 64 (t.os.length : Int) W)
  have hs0 : (w.alloc (.cells (tabV V t) 38)).heap.size = w.heap.size + 1 := by simp
  have hg0 : ((w.alloc (.cells (tabV V t) 38)).alloc (.cells #[.int .i64 1, .int .i64 64] 79)).heap[w.heap.size]? = some (.cells (tabV V t) 38 (0, 0)) := by
    rw [Below.heap_alloc _ _ _ (by simp)]; exact heap_alloc_new _ _
  rw [sound_parts, ← h1, ← h2, ← h3] at hS
  obtain ⟨b, hb⟩ : ∃ b, b = decide (inR (t.os.length : Int) 1 64) := ⟨_, rfl⟩
  have hbb : inR (t.os.length : Int) 1 64 ↔ b = true := by rw [hb, decide_eq_true_iff]
  rw [hbb] at hS
  simp only [← hb] at H0
  have hSS : S = (b && S1 && S2 && S3) := by
    rw [Bool.eq_iff_iff, hS]
    cases b <;> cases S1 <;> cases S2 <;> cases S3 <;> decide
  rw [hSS]
  have HF : Hid (∀ X, Below ((w.alloc (.cells (tabV V t) 38)).alloc (.cells #[.int .i64 1, .int .i64 64] 79)).heap.size ((w.alloc (.cells (tabV V t) 38)).alloc (.cells #[.int .i64 1, .int .i64 64] 79)) X → X.cell? ⟨w.heap.size, 0, none⟩ = some (.slice V.A1 t.ts.length V.c1) ∧ X.cell? ⟨w.heap.size, 1, none⟩ = some (.slice V.A2 t.vs.length V.c2) ∧ X.cell? ⟨w.heap.size, 2, none⟩ = some (.slice V.A3 t.os.length V.c3)) := fun X hb => cells3 ((hb.block _ (Array.getElem?_eq_some_iff.1 hg0).1).trans hg0)
  unfold tabV at H1 H2 H3 HF hb1 ⊢
  obtain ⟨N1, hN1⟩ : ∃ N, N = t.ts.length := ⟨_, rfl⟩
  obtain ⟨N2, hN2⟩ : ∃ N, N = t.vs.length := ⟨_, rfl⟩
  obtain ⟨N3, hN3⟩ : ∃ N, N = t.os.length := ⟨_, rfl⟩
  simp only [← hN1, ← hN2, ← hN3] at H0 H1 H2 H3 HF hb1 ⊢
  clear hS hSS hbb hb h1 h2 h3 hT hs0 hg0 hb0 h ho hN1 hN2 hN3
  cases b
  · go_enter Try.func36, Try.ntmps36
    go_wp2_with (go_at_call 42; with_reducible (refine Calls.mono (H0.out _) ?_); rintro e w2 ⟨rfl, hb2⟩)
    go_ret
    exact ⟨rfl, chain hb1 hb2⟩
  · cases S1
    · go_enter Try.func36, Try.ntmps36
      go_wp2_with (first
        | (go_at_call 42; with_reducible (refine Calls.mono (H0.out _) ?_); rintro e w2 ⟨rfl, hb2⟩; obtain ⟨f0, f1, f2⟩ := HF.out _ hb2; have hx2 := chain hb1 hb2)
        | (go_at_call 43; with_reducible (refine Calls.mono (H1.out _ hx2) ?_); rintro e w3 ⟨rfl, hb3⟩))
      go_ret
      exact ⟨rfl, chain hx2 hb3⟩
    · cases S2
      · go_enter Try.func36, Try.ntmps36
        go_wp2_with (first
          | (go_at_call 42; with_reducible (refine Calls.mono (H0.out _) ?_); rintro e w2 ⟨rfl, hb2⟩; obtain ⟨f0, f1, f2⟩ := HF.out _ hb2; have hx2 := chain hb1 hb2)
          | (go_at_call 43; with_reducible (refine Calls.mono (H1.out _ hx2) ?_); rintro e w3 ⟨rfl, hb3⟩; have hy3 := chain hb2 hb3; have hx3 := chain hb1 hy3; obtain ⟨f0, f1, f2⟩ := HF.out _ hy3)
          | (go_at_call 44; with_reducible (refine Calls.mono (H2.out _ hx3) ?_); rintro e w4 ⟨rfl, hb4⟩))
        go_ret
        exact ⟨rfl, chain hx3 hb4⟩
      · cases S3
        all_goals
          go_enter Try.func36, Try.ntmps36
          go_wp2_with (first
            | (go_at_call 42; with_reducible (refine Calls.mono (H0.out _) ?_); rintro e w2 ⟨rfl, hb2⟩; obtain ⟨f0, f1, f2⟩ := HF.out _ hb2; have hx2 := chain hb1 hb2)
            | (go_at_call 43; with_reducible (refine Calls.mono (H1.out _ hx2) ?_); rintro e w3 ⟨rfl, hb3⟩; have hy3 := chain hb2 hb3; have hx3 := chain hb1 hy3; obtain ⟨f0, f1, f2⟩ := HF.out _ hy3)
            | (go_at_call 44; with_reducible (refine Calls.mono (H2.out _ hx3) ?_); rintro e w4 ⟨rfl, hb4⟩; have hy4 := chain hy3 hb4; have hx4 := chain hb1 hy4; obtain ⟨f0, f1, f2⟩ := HF.out _ hy4)
            | (go_at_call 45; with_reducible (refine Calls.mono (H3.out _ hx4) ?_); rintro e w5 ⟨rfl, hb5⟩))
          go_ret
          exact ⟨rfl, chain hx4 hb5⟩

set_option maxHeartbeats 800000 in
/-- 'Check'. -/
theorem check_any (V : TabW) (t : Tab) (w : World) (h : TabAt w w.heap.size V t) (ho : t.ok) (S : Bool) (hS : S = true ↔ t.sound) :
    Calls Try.prog 26 #[.agg (tabV V t)] w fun e w' => e = .returned (.int .i64 (if S then 0 else 2)) ∧ Below w.heap.size w w' := by
  have hb0 : Below w.heap.size w (w.alloc (.cells (tabV V t) 38)) := (Below.refl _ _).alloc (Nat.le_refl _) _
  have H := Lib.hid (sound_any V t _ ((h.below hb0).more hb0.size) ho S hS)
  clear h ho hS
  unfold tabV at H hb0 ⊢
  cases S
  all_goals
    go_enter Try.func26, Try.ntmps26
    go_wp2_with (go_at_call 36; with_reducible (refine Calls.mono H.out ?_); rintro e w2 ⟨rfl, hb2⟩)
    go_ret
    exact ⟨rfl, chain hb0 hb2⟩

end Go.Proofs.Ytbmgiekiildaaaa

namespace Go.Proofs.Ytbmgiekiildaaaa
open Go.RowKit

theorem own_kept {w w' : World} {base e size n : Nat} {row : Option Nat} {v : Value} {xs : List Value} (h : w.ownsRow base e size v n xs) (hg : w.grownBy w' row) (hne : ∀ q, row = some q → v.ownBlock ≠ some q) : w'.ownsRow base e size v n xs := by
  refine h.kept hg ?_
  cases hv : v.ownBlock with
  | none => exact Or.inl rfl
  | some q => exact Or.inr fun e => hne q e.symm hv
/-- Two slices have no block in common. -/
def Apart (v u : Value) : Prop := ∀ q, v.ownBlock = some q → u.ownBlock ≠ some q
theorem Apart.symm {v u : Value} (h : Apart v u) : Apart u v := fun q hu hv => h q hv hu
theorem Apart.grown {v u v' : Value} {N : Nat} (h : Apart v u) (hu : ∀ q, u.ownBlock = some q → q < N) (hv : v'.ownBlock = v.ownBlock ∨ v'.ownBlock = some N) : Apart v' u := fun q hq hqu => by
  rcases hv with e | e
  · exact h q (e ▸ hq) hqu
  · have := hu q hqu
    rw [e] at hq; injection hq with hq; omega

end Go.Proofs.Ytbmgiekiildaaaa
