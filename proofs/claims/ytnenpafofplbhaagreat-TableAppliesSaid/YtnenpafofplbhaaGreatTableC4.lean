/-
  The landed table: there, Owned.
-/
import Derived.Test.YtnenpafofplbhaaGreatTableC3
import Derived.Test.YtnenpafofplbhaaGreatTableRef2
namespace Go.Proofs.YtnenpafofplbhaaGreat
open Go.RowKit

theorem ten_cases (ts : List Ten) (id : Int) : (∃ k, ∃ h : k < ts.length, ts[k].id = id ∧ (∀ j, (h : j < ts.length) → j < k → ts[j].id ≠ id) ∧ tenAt ts id = some ts[k]) ∨ ((∀ j, (h : j < ts.length) → ts[j].id ≠ id) ∧ tenAt ts id = none) := by
  induction ts with
  | nil => exact .inr ⟨fun j h => absurd h (Nat.not_lt_zero j), rfl⟩
  | cons x ts ih =>
    by_cases he : x.id = id
    · refine .inl ⟨0, Nat.zero_lt_succ _, he, fun j _ hj => absurd hj (Nat.not_lt_zero j), ?_⟩
      unfold tenAt
      rw [List.find?_cons_of_pos (by simpa using he)]; rfl
    · have hc : tenAt (x :: ts) id = tenAt ts id := by
        unfold tenAt
        rw [List.find?_cons_of_neg (by simpa using he)]
      rcases ih with ⟨k, h, e, hl, ha⟩ | ⟨hl, ha⟩
      · refine .inl ⟨k + 1, by simpa using h, by simpa using e, fun j hj hjk => ?_, by rw [hc, ha]; simp⟩
        cases j with
        | zero => exact he
        | succ j => exact hl j (by simpa using hj) (by omega)
      · refine .inr ⟨fun j hj => ?_, by rw [hc, ha]⟩
        cases j with
        | zero => exact he
        | succ j => exact hl j (by simpa using hj)

set_option maxHeartbeats 1600000 in
/-- 'there'. -/
theorem there_any (V : TabW) (t : Tab) (id : Int) (w : World) (h : TabAt w w.heap.size V t) (hm : t.ts.length ≤ 9223372036854775807) :
    Calls Tryz.prog 63 #[.agg (tabV V t), .int .i64 id] w fun e w' => e = .returned (.bool (tenAt t.ts id).isSome) ∧ Below w.heap.size w w' := by
  have hb0 : Below w.heap.size w (w.alloc (.cells (tabV V t) 26)) := (Below.refl _ _).alloc (Nat.le_refl _) _
  have hb1 := hb0.alloc hb0.size (.cells (tabV V t) 38)
  have hs1 : (w.alloc (.cells (tabV V t) 26)).heap.size = w.heap.size + 1 := by simp
  have hn1 := heap_alloc_new (w.alloc (.cells (tabV V t) 26)) (.cells (tabV V t) 38)
  rw [hs1] at hn1
  have hc := cells3 (X := (w.alloc (.cells (tabV V t) 26)).alloc (.cells (tabV V t) 38)) (g := w.heap.size + 1) (T := 38) hn1
  have ht := (h.ts.below hb1).more hb1.size
  have H : ∃ v : Option Addr, (v.isSome = (tenAt t.ts id).isSome) ∧ Calls Tryz.prog 46 #[.pointer (some ⟨w.heap.size + 1, 0, none⟩), .int .i64 id] ((w.alloc (.cells (tabV V t) 26)).alloc (.cells (tabV V t) 38)) fun e w' => e = .returned (.pointer v) ∧ Below ((w.alloc (.cells (tabV V t) 26)).alloc (.cells (tabV V t) 38)).heap.size ((w.alloc (.cells (tabV V t) 26)).alloc (.cells (tabV V t) 38)) w' := by
    rcases ten_cases t.ts id with ⟨k, hk, he, hl, ha⟩ | ⟨hl, ha⟩
    · obtain ⟨b, off, hA, _⟩ := ht k hk
      rw [hA] at ht
      have hc0 := hc.1
      rw [hA] at hc0
      exact ⟨_, by rw [ha]; rfl, dten_yes (w.heap.size + 1) b off V.c1 t.ts id k _ hc0 hm ht hk he hl⟩
    · exact ⟨_, by rw [ha]; rfl, dten_no (w.heap.size + 1) V.A1 V.c1 t.ts id _ hc.1 hm ht hl⟩
  obtain ⟨v, hv, H⟩ := H
  rw [← hv]
  have HC := Lib.hid H
  unfold tabV at HC hb1 ⊢
  clear H hc hn1 ht hb0 hs1 h hv
  cases v with
  | none =>
    go_enter Tryz.func63, Tryz.ntmps63
    go_wp2_with (go_at_call 46; with_reducible (refine Calls.mono HC.out ?_); rintro e w2 ⟨rfl, hb2⟩)
    go_ret
    exact ⟨rfl, chain hb1 hb2⟩
  | some a =>
    go_enter Tryz.func63, Tryz.ntmps63
    go_wp2_with (go_at_call 46; with_reducible (refine Calls.mono HC.out ?_); rintro e w2 ⟨rfl, hb2⟩)
    go_ret
    exact ⟨rfl, chain hb1 hb2⟩

set_option maxHeartbeats 1600000 in
set_option maxRecDepth 20000 in
/-- 'Owned', of a number that may be a tenant's. -/
theorem owned_in (V : TabW) (t : Tab) (id : Int) (w : World) (h : TabAt w w.heap.size V t) (hm : t.os.length ≤ 9223372036854775807) (h1 : ¬ id < 1) (h2 : ¬ id > 7) :
    Calls Tryz.prog 17 #[.agg (tabV V t), .int .i64 id] w fun e w' => e = .returned (.int .i64 (ownN t.os id : Nat)) ∧ Below w.heap.size w w' := by
  obtain ⟨F0, F1, F2, hb0⟩ := box_facts w (.slice V.A1 t.ts.length V.c1) (.slice V.A2 t.vs.length V.c2) (.slice V.A3 t.os.length V.c3) 26
  have HT := Lib.hid (h.os.below hb0)
  have hle := h.l3
  obtain ⟨ts, vs, os⟩ := t
  obtain ⟨A1, c1, A2, c2, A3, c3⟩ := V
  simp only [tabV] at F0 F1 F2 hb0 HT hle hm ⊢
  obtain ⟨N1, hN1⟩ : ∃ N, N = ts.length := ⟨_, rfl⟩
  obtain ⟨N2, hN2⟩ : ∃ N, N = vs.length := ⟨_, rfl⟩
  obtain ⟨N, hN⟩ : ∃ N, N = os.length := ⟨_, rfl⟩
  have HN := Lib.hid hN
  have hin : inR id 1 7 := by unfold inR; omega
  have HST : Hid (∀ k, k < N → ownN (os.take (k + 1)) id = ownN (os.take k) id + (if os.getD k 0 = id then 1 else 0)) := fun k hk => by
    rw [ownN_take (hN ▸ hk) id]
    by_cases he : os.getD k 0 = id
    · rw [if_pos ⟨he, hin⟩, if_pos he]
    · rw [if_neg (fun q => he q.1), if_neg he]
  have HEN : Hid (ownN (os.take N) id = ownN os id) := by rw [hN]; show ownN (os.take os.length) id = _; rw [List.take_length]
  have HLE : Hid (∀ k, ownN (os.take k) id ≤ k) := fun k => Nat.le_trans (ownN_le _ _) (by rw [List.length_take]; omega)
  rw [← hN1, ← hN2, ← hN] at F0 F1 F2 hb0 ⊢
  rw [← hN] at hm hle
  simp only [← hN1, ← hN2, ← hN] at HT
  obtain ⟨W0, hW0⟩ : ∃ W, W = w.alloc (.cells #[.slice A1 N1 c1, .slice A2 N2 c2, .slice A3 N c3] 26) := ⟨_, rfl⟩
  rw [← hW0] at F0 F1 F2 hb0 HT
  clear h hN hN1 hN2 hin
  go_enter Tryz.func17, Tryz.ntmps17
  go_wp2
  rw [← hW0]
  clear hW0
  go_loopw [5, 17] (fun n i wr => ∃ k c : Nat, k ≤ N ∧ i = .int .i64 k ∧ n = .int .i64 c ∧ Hid (c = ownN (os.take k) id) ∧ wr = W0) (fun _ i _ => N - (intOf i).toNat)
  case atStart => exact ⟨0, 0, Nat.zero_le _, rfl, rfl, (ownN_zero id).symm, rfl⟩
  case round =>
    obtain ⟨k, c, hk, rfl, rfl, hc, rfl⟩ := hrel
    have k0 : (0 : Int) ≤ (k : Int) := by omega
    have hck : c ≤ k := by rw [hc.out]; exact HLE.out k
    by_cases hlt : k < N
    · have k1 : (k : Int) < (N : Int) := by omega
      obtain ⟨b, off, rfl, _, q0⟩ := HT.out k (by have := HN.out; omega)
      by_cases he : os.getD k 0 = id
      · have HC : Hid (c + 1 = ownN (os.take (k + 1)) id) := by unfold Hid; rw [HST.out k hlt, if_pos he, hc.out]
        have d : (os.getD k 0 == id) = true := beq_iff_eq.2 he
        obtain ⟨p, hp⟩ : ∃ p, p = os.getD k 0 := ⟨_, rfl⟩
        rw [← hp] at q0 d
        clear hp he
        go_wp2
        go_roundw
        case rel => exact ⟨k + 1, c + 1, by omega, by go_num, by go_num, HC, by first | rfl | trivial⟩
        case measure => first | (simp [intOf]; done) | (simp [intOf]; omega)
      · have HC : Hid (c = ownN (os.take (k + 1)) id) := by unfold Hid; rw [HST.out k hlt, if_neg he, hc.out]; rfl
        have d : (os.getD k 0 == id) = false := beq_eq_false_iff_ne.2 he
        obtain ⟨p, hp⟩ : ∃ p, p = os.getD k 0 := ⟨_, rfl⟩
        rw [← hp] at q0 d
        clear hp he
        go_wp2
        go_roundw
        case rel => exact ⟨k + 1, c, by omega, by go_num, by first | rfl | go_num, HC, by first | rfl | trivial⟩
        case measure => first | (simp [intOf]; done) | (simp [intOf]; omega)
    · have hkN : k = N := by omega
      have HE : Hid (c = ownN os id) := by rw [hc.out, hkN]; exact HEN.out
      have k1 : ¬ (k : Int) < (N : Int) := by omega
      clear hkN
      go_wp2
      go_ret
      exact ⟨by rw [← HE.out]; rfl, hb0⟩
set_option maxHeartbeats 1600000 in
/-- 'Owned'. -/
theorem owned_any (V : TabW) (t : Tab) (id : Int) (w : World) (h : TabAt w w.heap.size V t) (hm : t.os.length ≤ 9223372036854775807) :
    Calls Tryz.prog 17 #[.agg (tabV V t), .int .i64 id] w fun e w' => e = .returned (.int .i64 (ownN t.os id : Nat)) ∧ Below w.heap.size w w' := by
  by_cases h1 : id < 1
  · rw [show ownN t.os id = 0 from if_neg (by omega)]
    have hb0 : Below w.heap.size w (w.alloc (.cells (tabV V t) 26)) := (Below.refl _ _).alloc (Nat.le_refl _) _
    clear h hm
    go_enter Tryz.func17, Tryz.ntmps17
    go_wp2
    go_ret
    exact ⟨rfl, hb0⟩
  · by_cases h2 : id > 7
    · rw [show ownN t.os id = 0 from if_neg (by omega)]
      have hb0 : Below w.heap.size w (w.alloc (.cells (tabV V t) 26)) := (Below.refl _ _).alloc (Nat.le_refl _) _
      clear h hm
      go_enter Tryz.func17, Tryz.ntmps17
      go_wp2
      go_ret
      exact ⟨rfl, hb0⟩
    · exact owned_in V t id w h hm h1 h2

end Go.Proofs.YtnenpafofplbhaaGreat
