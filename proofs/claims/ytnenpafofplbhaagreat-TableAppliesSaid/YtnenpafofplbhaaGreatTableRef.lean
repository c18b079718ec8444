/-
  The document's own Tenant, Volume, Owned (stowageref16).
-/
import Derived.Test.YtnenpafofplbhaaGreatTableAsk
import Derived.BigQuiet
namespace Go.Proofs.YtnenpafofplbhaaGreat
open Go.RowKit

/-- A table laid in a box of its own, and what it holds. -/
theorem box_facts (w : World) (x y z : Value) (T : TypeId) : (w.alloc (.cells #[x, y, z] T)).cell? ⟨w.heap.size, 0, none⟩ = some x ∧ (w.alloc (.cells #[x, y, z] T)).cell? ⟨w.heap.size, 1, none⟩ = some y ∧ (w.alloc (.cells #[x, y, z] T)).cell? ⟨w.heap.size, 2, none⟩ = some z ∧ Below w.heap.size w (w.alloc (.cells #[x, y, z] T)) := by
  have h := heap_alloc_new w (.cells #[x, y, z] T)
  exact ⟨by rw [cell_of_row _ _ _ _ _ _ h]; rfl, by rw [cell_of_row _ _ _ _ _ _ h]; rfl, by rw [cell_of_row _ _ _ _ _ _ h]; rfl, (Below.refl _ _).alloc (Nat.le_refl _) _⟩

set_option maxHeartbeats 1600000 in
set_option maxRecDepth 20000 in
/-- 'Tenant'. -/
theorem refTen_any (V : TabW) (t : Tab) (id : Int) (w : World) (h : TabAt w w.heap.size V t) (hm : t.ts.length ≤ 9223372036854775807) :
    Calls Tryz.prog 37 #[.agg (tabV V t), .int .i64 id] w fun e w' => e = .returned (.int .i64 (tenI t.ts id)) ∧ Below w.heap.size w w' := by
  obtain ⟨F0, F1, F2, hb0⟩ := box_facts w (.slice V.A1 t.ts.length V.c1) (.slice V.A2 t.vs.length V.c2) (.slice V.A3 t.os.length V.c3) 26
  have HT := Lib.hid (h.ts.below hb0)
  have hle := h.l1
  obtain ⟨ts, vs, os⟩ := t
  obtain ⟨A1, c1, A2, c2, A3, c3⟩ := V
  simp only [tabV] at F0 F1 F2 hb0 HT hle hm ⊢
  obtain ⟨N, hN⟩ : ∃ N, N = ts.length := ⟨_, rfl⟩
  obtain ⟨N2, hN2⟩ : ∃ N, N = vs.length := ⟨_, rfl⟩
  obtain ⟨N3, hN3⟩ : ∃ N, N = os.length := ⟨_, rfl⟩
  rw [← hN, ← hN2, ← hN3] at F0 F1 F2 hb0 ⊢
  rw [← hN] at hm hle
  simp only [← hN, ← hN2, ← hN3] at HT
  have HN := Lib.hid hN
  obtain ⟨W0, hW0⟩ : ∃ W, W = w.alloc (.cells #[.slice A1 N c1, .slice A2 N2 c2, .slice A3 N3 c3] 26) := ⟨_, rfl⟩
  have HW := Lib.hid hW0
  rw [← hW0] at F0 F1 F2 hb0 HT
  clear h hN hN2 hN3
  go_enter Tryz.func37, Tryz.ntmps37
  go_wp2
  rw [← hW0]
  clear hW0
  go_loopw [5] (fun i wr => ∃ k : Nat, k ≤ N ∧ i = .int .i64 k ∧ Hid (∀ j, (h : j < ts.length) → j < k → ts[j].id ≠ id) ∧ wr = W0) (fun i _ => N - (intOf i).toNat)
  case atStart => exact ⟨0, Nat.zero_le _, rfl, fun j _ hj => absurd hj (Nat.not_lt_zero j), rfl⟩
  case round =>
    obtain ⟨k, hk, rfl, hall, rfl⟩ := hrel
    have k0 : (0 : Int) ≤ (k : Int) := by omega
    by_cases hlt : k < N
    · have hkx : k < ts.length := by have := HN.out; omega
      have k1 : (k : Int) < (N : Int) := by omega
      obtain ⟨b, off, rfl, _, q0, _⟩ := HT.out k hkx
      by_cases he : ts[k].id = id
      · have HE := Lib.hid (tenI_at hkx he hall.out)
        obtain ⟨p, hp⟩ : ∃ p, p = ts[k].id := ⟨_, rfl⟩
        rw [← hp] at q0 he
        have d : (p == id) = true := beq_iff_eq.2 he
        clear hp he
        go_wp2
        go_ret
        exact ⟨by rw [HE.out]; rfl, hb0⟩
      · have HYES : Hid (∀ j, (h : j < ts.length) → j < k + 1 → ts[j].id ≠ id) := fun j hj hj2 => by
          rcases Nat.lt_or_ge j k with g | g
          · exact hall.out j hj g
          · have : j = k := by omega
            subst this; exact he
        obtain ⟨p, hp⟩ : ∃ p, p = ts[k].id := ⟨_, rfl⟩
        rw [← hp] at q0 he
        have d : (p == id) = false := beq_eq_false_iff_ne.2 he
        clear hp he
        go_wp2
        go_roundw
        case rel => exact ⟨k + 1, by omega, by go_num, HYES, by first | rfl | trivial⟩
        case measure => first | (simp [intOf]; done) | (simp [intOf]; omega)
    · have hkN : k = N := by omega
      have HE : Hid (tenI ts id = -1) := tenI_no fun j hj => hall.out j hj (by have := HN.out; omega)
      have k1 : ¬ (k : Int) < (N : Int) := by omega
      clear hkN
      go_wp2
      go_ret
      exact ⟨by rw [HE.out]; rfl, hb0⟩

end Go.Proofs.YtnenpafofplbhaaGreat
