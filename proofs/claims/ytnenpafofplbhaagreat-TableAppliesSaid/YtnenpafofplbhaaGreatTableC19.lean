/-
  The landed table: change.
-/
import Derived.Test.YtnenpafofplbhaaGreatTableC18
namespace Go.Proofs.YtnenpafofplbhaaGreat
open Go.RowKit

theorem formR_kind {r : Rc} (h : formR r) : 0 ≤ r.k ∧ r.k ≤ 9 := by
  refine Classical.byContradiction fun hk => ?_
  unfold formR plainT inR at h
  repeat' split at h
  all_goals (first | omega | exact h.elim)

set_option maxHeartbeats 3200000 in
set_option maxRecDepth 20000 in
/-- 'change'. -/
theorem change_go {lo p : Nat} {w : World} {V : TabW} {t : Tab} (h : DrIn lo w p V t) (hs : t.sound) (r : Rc) (hf : formR r) :
    Calls Tryz.prog 11 #[.pointer (some ⟨p, 0, none⟩), .agg (rcV r)] w fun e w' => ∃ V', e = .returned (.int .i64 (oneR t r).1) ∧ DrIn lo w' p V' (oneR t r).2 ∧ Below lo w w' := by
  have hk := formR_kind hf
  obtain ⟨k, ra, rb, rc, rd, key⟩ := r
  simp only at hk
  have hb0 : Below w.heap.size w (w.alloc (.cells (rcV ⟨k, ra, rb, rc, rd, key⟩) 40)) := (Below.refl _ _).alloc (Nat.le_refl _) _
  have hd0 := h.below hb0
  have hl0 := hb0.mono h.lo_le
  have HD0 : Hid (DrIn lo (w.alloc (.cells (rcV ⟨k, ra, rb, rc, rd, key⟩) 40)) p V t ∧ Below lo w (w.alloc (.cells (rcV ⟨k, ra, rb, rc, rd, key⟩) 40))) := ⟨hd0, hl0⟩
  simp only [rcV] at hd0 HD0 ⊢
  have HL0 := Lib.hid hl0
  rcases (show k = 0 ∨ k = 1 ∨ k = 2 ∨ k = 3 ∨ k = 4 ∨ k = 5 ∨ k = 6 ∨ k = 7 ∨ k = 8 ∨ k = 9 by omega) with rfl | rfl | rfl | rfl | rfl | rfl | rfl | rfl | rfl | rfl
  · have e : oneR t ⟨0, ra, rb, rc, rd, key⟩ = (0, t) := rfl
    rw [e]
    clear h hs hf hk hb0 hl0 e hd0 HL0
    go_enter Tryz.func11, Tryz.ntmps11
    go_wp2
    go_ret
    exact ⟨V, rfl, HD0.out⟩
  · have hx : plainT ⟨1, ra, rb, rc, rd, key⟩ := by unfold formR at hf; rwa [if_pos rfl] at hf
    have H := addTenant_go hd0 hs ⟨1, ra, rb, rc, rd, key⟩ hx
    have e : oneR t ⟨1, ra, rb, rc, rd, key⟩ = one1 t ⟨1, ra, rb, rc, rd, key⟩ := rfl
    rw [e]
    obtain ⟨O, hO⟩ : ∃ O, O = one1 t ⟨1, ra, rb, rc, rd, key⟩ := ⟨_, rfl⟩
    rw [← hO] at H ⊢
    simp only at H
    have HC := Lib.hid H
    clear h hs hf hk hb0 hl0 e hd0 HD0 hO H hx
    go_enter Tryz.func11, Tryz.ntmps11
    go_wp2_with (go_at_call 25; with_reducible (refine Calls.mono HC.out ?_); rintro e w1 ⟨V1, rfl, hd1, hb1⟩)
    go_ret
    exact ⟨V1, rfl, hd1, HL0.out.trans hb1⟩
  · have hx : inR rb 1 64 := by
      unfold formR plainT inR at hf
      unfold inR
      repeat' split at hf
      all_goals (first | omega | exact hf.elim | (simp at * <;> omega))
    have H := setQuota_go hd0 hs ⟨2, ra, rb, rc, rd, key⟩ hx
    have e : oneR t ⟨2, ra, rb, rc, rd, key⟩ = one2 t ⟨2, ra, rb, rc, rd, key⟩ := rfl
    rw [e]
    obtain ⟨O, hO⟩ : ∃ O, O = one2 t ⟨2, ra, rb, rc, rd, key⟩ := ⟨_, rfl⟩
    rw [← hO] at H ⊢
    simp only at H
    have HC := Lib.hid H
    clear h hs hf hk hb0 hl0 e hd0 HD0 hO H hx
    go_enter Tryz.func11, Tryz.ntmps11
    go_wp2_with (go_at_call 26; with_reducible (refine Calls.mono HC.out ?_); rintro e w1 ⟨V1, rfl, hd1, hb1⟩)
    go_ret
    exact ⟨V1, rfl, hd1, HL0.out.trans hb1⟩
  · have hx : True := trivial
    have H := markDying_go hd0 hs ⟨3, ra, rb, rc, rd, key⟩
    have e : oneR t ⟨3, ra, rb, rc, rd, key⟩ = one3 t ⟨3, ra, rb, rc, rd, key⟩ := rfl
    rw [e]
    obtain ⟨O, hO⟩ : ∃ O, O = one3 t ⟨3, ra, rb, rc, rd, key⟩ := ⟨_, rfl⟩
    rw [← hO] at H ⊢
    simp only at H
    have HC := Lib.hid H
    clear h hs hf hk hb0 hl0 e hd0 HD0 hO H hx
    go_enter Tryz.func11, Tryz.ntmps11
    go_wp2_with (go_at_call 27; with_reducible (refine Calls.mono HC.out ?_); rintro e w1 ⟨V1, rfl, hd1, hb1⟩)
    go_ret
    exact ⟨V1, rfl, hd1, HL0.out.trans hb1⟩
  · have hx : True := trivial
    have H := removeTenant_go hd0 hs ⟨4, ra, rb, rc, rd, key⟩
    have e : oneR t ⟨4, ra, rb, rc, rd, key⟩ = one4 t ⟨4, ra, rb, rc, rd, key⟩ := rfl
    rw [e]
    obtain ⟨O, hO⟩ : ∃ O, O = one4 t ⟨4, ra, rb, rc, rd, key⟩ := ⟨_, rfl⟩
    rw [← hO] at H ⊢
    simp only at H
    have HC := Lib.hid H
    clear h hs hf hk hb0 hl0 e hd0 HD0 hO H hx
    go_enter Tryz.func11, Tryz.ntmps11
    go_wp2_with (go_at_call 28; with_reducible (refine Calls.mono HC.out ?_); rintro e w1 ⟨V1, rfl, hd1, hb1⟩)
    go_ret
    exact ⟨V1, rfl, hd1, HL0.out.trans hb1⟩
  · have hx : inR ra 0 7 := by
      unfold formR plainT inR at hf
      unfold inR
      repeat' split at hf
      all_goals (first | omega | exact hf.elim | (simp at * <;> omega))
    have H := addVolume_go hd0 hs ⟨5, ra, rb, rc, rd, key⟩ hx
    have e : oneR t ⟨5, ra, rb, rc, rd, key⟩ = one5 t ⟨5, ra, rb, rc, rd, key⟩ := rfl
    rw [e]
    obtain ⟨O, hO⟩ : ∃ O, O = one5 t ⟨5, ra, rb, rc, rd, key⟩ := ⟨_, rfl⟩
    rw [← hO] at H ⊢
    simp only at H
    have HC := Lib.hid H
    clear h hs hf hk hb0 hl0 e hd0 HD0 hO H hx
    go_enter Tryz.func11, Tryz.ntmps11
    go_wp2_with (go_at_call 29; with_reducible (refine Calls.mono HC.out ?_); rintro e w1 ⟨V1, rfl, hd1, hb1⟩)
    go_ret
    exact ⟨V1, rfl, hd1, HL0.out.trans hb1⟩
  · have hx : True := trivial
    have H := setBlocks_go hd0 hs ⟨6, ra, rb, rc, rd, key⟩
    have e : oneR t ⟨6, ra, rb, rc, rd, key⟩ = one6 t ⟨6, ra, rb, rc, rd, key⟩ := rfl
    rw [e]
    obtain ⟨O, hO⟩ : ∃ O, O = one6 t ⟨6, ra, rb, rc, rd, key⟩ := ⟨_, rfl⟩
    rw [← hO] at H ⊢
    simp only at H
    have HC := Lib.hid H
    clear h hs hf hk hb0 hl0 e hd0 HD0 hO H hx
    go_enter Tryz.func11, Tryz.ntmps11
    go_wp2_with (go_at_call 30; with_reducible (refine Calls.mono HC.out ?_); rintro e w1 ⟨V1, rfl, hd1, hb1⟩)
    go_ret
    exact ⟨V1, rfl, hd1, HL0.out.trans hb1⟩
  · have hx : True := trivial
    have H := removeVolume_go hd0 hs ⟨7, ra, rb, rc, rd, key⟩
    have e : oneR t ⟨7, ra, rb, rc, rd, key⟩ = one7 t ⟨7, ra, rb, rc, rd, key⟩ := rfl
    rw [e]
    obtain ⟨O, hO⟩ : ∃ O, O = one7 t ⟨7, ra, rb, rc, rd, key⟩ := ⟨_, rfl⟩
    rw [← hO] at H ⊢
    simp only at H
    have HC := Lib.hid H
    clear h hs hf hk hb0 hl0 e hd0 HD0 hO H hx
    go_enter Tryz.func11, Tryz.ntmps11
    go_wp2_with (go_at_call 31; with_reducible (refine Calls.mono HC.out ?_); rintro e w1 ⟨V1, rfl, hd1, hb1⟩)
    go_ret
    exact ⟨V1, rfl, hd1, HL0.out.trans hb1⟩
  · have hx : True := trivial
    have H := setBase_go hd0 hs ⟨8, ra, rb, rc, rd, key⟩
    have e : oneR t ⟨8, ra, rb, rc, rd, key⟩ = one8 t ⟨8, ra, rb, rc, rd, key⟩ := rfl
    rw [e]
    obtain ⟨O, hO⟩ : ∃ O, O = one8 t ⟨8, ra, rb, rc, rd, key⟩ := ⟨_, rfl⟩
    rw [← hO] at H ⊢
    simp only at H
    have HC := Lib.hid H
    clear h hs hf hk hb0 hl0 e hd0 HD0 hO H hx
    go_enter Tryz.func11, Tryz.ntmps11
    go_wp2_with (go_at_call 32; with_reducible (refine Calls.mono HC.out ?_); rintro e w1 ⟨V1, rfl, hd1, hb1⟩)
    go_ret
    exact ⟨V1, rfl, hd1, HL0.out.trans hb1⟩
  · have hx : inR ra 0 63 := by
      unfold formR plainT inR at hf
      unfold inR
      repeat' split at hf
      all_goals (first | omega | exact hf.elim | (simp at * <;> omega))
    have H := setOwner_go hd0 hs ⟨9, ra, rb, rc, rd, key⟩ hx
    have e : oneR t ⟨9, ra, rb, rc, rd, key⟩ = one9 t ⟨9, ra, rb, rc, rd, key⟩ := rfl
    rw [e]
    obtain ⟨O, hO⟩ : ∃ O, O = one9 t ⟨9, ra, rb, rc, rd, key⟩ := ⟨_, rfl⟩
    rw [← hO] at H ⊢
    simp only at H
    have HC := Lib.hid H
    clear h hs hf hk hb0 hl0 e hd0 HD0 hO H hx
    go_enter Tryz.func11, Tryz.ntmps11
    go_wp2_with (go_at_call 33; with_reducible (refine Calls.mono HC.out ?_); rintro e w1 ⟨V1, rfl, hd1, hb1⟩)
    go_ret
    exact ⟨V1, rfl, hd1, HL0.out.trans hb1⟩

end Go.Proofs.YtnenpafofplbhaaGreat
