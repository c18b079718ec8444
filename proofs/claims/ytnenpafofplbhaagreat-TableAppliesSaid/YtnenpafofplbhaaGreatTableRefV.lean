/-
  The document's own Volume (stowageref16).
-/
import Derived.Test.YtnenpafofplbhaaGreatTableRef
namespace Go.Proofs.YtnenpafofplbhaaGreat
open Go.RowKit

set_option maxHeartbeats 1600000 in
set_option maxRecDepth 20000 in
/-- 'Volume'. -/
theorem refVol_any (V : TabW) (t : Tab) (id : Int) (w : World) (h : TabAt w w.heap.size V t) (hm : t.vs.length ≤ 9223372036854775807) :
    Calls Tryz.prog 40 #[.agg (tabV V t), .int .i64 id] w fun e w' => e = .returned (.int .i64 (volI t.vs id)) ∧ Below w.heap.size w w' := by
  obtain ⟨F0, F1, F2, hb0⟩ := box_facts w (.slice V.A1 t.ts.length V.c1) (.slice V.A2 t.vs.length V.c2) (.slice V.A3 t.os.length V.c3) 26
  have HT := Lib.hid (h.vs.below hb0)
  have hle := h.l2
  obtain ⟨ts, vs, os⟩ := t
  obtain ⟨A1, c1, A2, c2, A3, c3⟩ := V
  simp only [tabV] at F0 F1 F2 hb0 HT hle hm ⊢
  obtain ⟨N, hN⟩ : ∃ N, N = ts.length := ⟨_, rfl⟩
  obtain ⟨N2, hN2⟩ : ∃ N, N = vs.length := ⟨_, rfl⟩
  obtain ⟨N3, hN3⟩ : ∃ N, N = os.length := ⟨_, rfl⟩
  rw [← hN, ← hN2, ← hN3] at F0 F1 F2 hb0 ⊢
  rw [← hN2] at hm hle
  simp only [← hN, ← hN2, ← hN3] at HT
  have HN := Lib.hid hN2
  obtain ⟨W0, hW0⟩ : ∃ W, W = w.alloc (.cells #[.slice A1 N c1, .slice A2 N2 c2, .slice A3 N3 c3] 26) := ⟨_, rfl⟩
  have HW := Lib.hid hW0
  rw [← hW0] at F0 F1 F2 hb0 HT
  clear h hN hN2 hN3
  go_enter Tryz.func40, Tryz.ntmps40
  go_wp2
  rw [← hW0]
  clear hW0
  go_loopw [5] (fun i wr => ∃ k : Nat, k ≤ N2 ∧ i = .int .i64 k ∧ Hid (∀ j, (h : j < vs.length) → j < k → vs[j].id ≠ id) ∧ wr = W0) (fun i _ => N2 - (intOf i).toNat)
  case atStart => exact ⟨0, Nat.zero_le _, rfl, fun j _ hj => absurd hj (Nat.not_lt_zero j), rfl⟩
  case round =>
    obtain ⟨k, hk, rfl, hall, rfl⟩ := hrel
    have k0 : (0 : Int) ≤ (k : Int) := by omega
    by_cases hlt : k < N2
    · have hkx : k < vs.length := by have := HN.out; omega
      have k1 : (k : Int) < (N2 : Int) := by omega
      obtain ⟨b, off, rfl, _, q0, _⟩ := HT.out k hkx
      by_cases he : vs[k].id = id
      · have HE := Lib.hid (volI_at hkx he hall.out)
        obtain ⟨p, hp⟩ : ∃ p, p = vs[k].id := ⟨_, rfl⟩
        rw [← hp] at q0 he
        have d : (p == id) = true := beq_iff_eq.2 he
        clear hp he
        go_wp2
        go_ret
        exact ⟨by rw [HE.out]; rfl, hb0⟩
      · have HYES : Hid (∀ j, (h : j < vs.length) → j < k + 1 → vs[j].id ≠ id) := fun j hj hj2 => by
          rcases Nat.lt_or_ge j k with g | g
          · exact hall.out j hj g
          · have : j = k := by omega
            subst this; exact he
        obtain ⟨p, hp⟩ : ∃ p, p = vs[k].id := ⟨_, rfl⟩
        rw [← hp] at q0 he
        have d : (p == id) = false := beq_eq_false_iff_ne.2 he
        clear hp he
        go_wp2
        go_roundw
        case rel => exact ⟨k + 1, by omega, by go_num, HYES, by first | rfl | trivial⟩
        case measure => first | (simp [intOf]; done) | (simp [intOf]; omega)
    · have hkN : k = N2 := by omega
      have HE : Hid (volI vs id = -1) := volI_no fun j hj => hall.out j hj (by have := HN.out; omega)
      have k1 : ¬ (k : Int) < (N2 : Int) := by omega
      clear hkN
      go_wp2
      go_ret
      exact ⟨by rw [HE.out]; rfl, hb0⟩

end Go.Proofs.YtnenpafofplbhaaGreat
