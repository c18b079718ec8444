/-
  The law LineApart as a walk, from what is asked of the layer line.
-/
import Derived.Test.YtbfchclfonicmaaLineBack
import Derived.Deep.QuietTactic
namespace Go.Proofs.Ytbfchclfonicmaa
open Go.RowKit

theorem ln_nine {W : World} {q : Nat} {l : Ln} {t : TypeId} (h : W.heap[q]? = some (.cells (lnV l) t (0, 0))) :
    W.cell? ⟨q, 0, none⟩ = some (.int .i64 l.g) ∧ W.cell? ⟨q, 1, none⟩ = some (.int .i64 l.s) ∧ W.cell? ⟨q, 2, none⟩ = some (.bool l.last) ∧ W.cell? ⟨q, 3, none⟩ = some (.int .i64 l.r.k) ∧ W.cell? ⟨q, 4, none⟩ = some (.int .i64 l.r.a) ∧ W.cell? ⟨q, 5, none⟩ = some (.int .i64 l.r.b) ∧ W.cell? ⟨q, 6, none⟩ = some (.int .i64 l.r.c) ∧ W.cell? ⟨q, 7, none⟩ = some (.int .i64 l.r.d) ∧ W.cell? ⟨q, 8, none⟩ = some (.string l.r.key) := by
  refine ⟨?_, ?_, ?_, ?_, ?_, ?_, ?_, ?_, ?_⟩ <;> (rw [cell_of_row _ _ _ _ _ _ h]; rfl)
/-- Two boxes ahead. -/
theorem two_boxesL (w : World) (u v : Array Value) (t : TypeId) : ((w.alloc (.cells u t)).alloc (.cells v t)).heap[w.heap.size]? = some (.cells u t (0, 0)) ∧ ((w.alloc (.cells u t)).alloc (.cells v t)).heap[w.heap.size + 1]? = some (.cells v t (0, 0)) ∧
    Below w.heap.size w ((w.alloc (.cells u t)).alloc (.cells v t)) ∧ w.heap.size + 1 < ((w.alloc (.cells u t)).alloc (.cells v t)).heap.size := by
  refine ⟨?_, ?_, ((Below.refl _ _).alloc (Nat.le_refl _) _).alloc (by simp) _, by simp⟩
  · rw [Below.heap_alloc _ _ _ (by simp)]; exact heap_alloc_new _ _
  · have := heap_alloc_new (w.alloc (.cells u t)) (.cells v t)
    rwa [show (w.alloc (.cells u t)).heap.size = w.heap.size + 1 by simp] at this

set_option maxHeartbeats 3200000 in
set_option maxRecDepth 20000 in
/-- LineApart. -/
theorem lineApart_go (a b : Ln) (w : World) (HS : LineSpec w) (hoa : a.ok) (hob : b.ok) :
    Calls Try.prog 9 #[.agg (lnV a), .agg (lnV b)] w fun e w' => e = .returned (.bool true) ∧ Below w.heap.size w w' := by
  have HA := Lib.hid (fun W (hb : Below w.heap.size w W) => lineAwake HS W hb)
  have H1 := Lib.hid (fun W (hb : Below w.heap.size w W) => HS.encAny a W hb hoa)
  have H2 := Lib.hid (fun W (hb : Below w.heap.size w W) => HS.encAny b W hb hob)
  have hinf : (Try.prog.info? 25).map (·.size) = some (lnV a).size := Try.infoLine
  have hinf2 : (Try.prog.info? 25).map (·.size) = some (lnV b).size := Try.infoLine
  have HR := Lib.hid (two_boxesL w (lnV a) (lnV b) 25)
  have HROW : Hid (∀ W W' : World, (W.heap[w.heap.size]? = some (.cells (lnV a) 25 (0, 0)) ∧ W.heap[w.heap.size + 1]? = some (.cells (lnV b) 25 (0, 0)) ∧ w.heap.size + 1 < W.heap.size) → Below W.heap.size W W' → (W'.heap[w.heap.size]? = some (.cells (lnV a) 25 (0, 0)) ∧ W'.heap[w.heap.size + 1]? = some (.cells (lnV b) 25 (0, 0)) ∧ w.heap.size + 1 < W'.heap.size)) :=
    fun W W' h hb => ⟨(hb.block _ (by omega)).trans h.1, (hb.block _ h.2.2).trans h.2.1, Nat.lt_of_lt_of_le h.2.2 hb.size⟩
  by_cases hE : encE a = 0 ∧ encE b = 0
  · obtain ⟨hEa, hEb⟩ := hE
    have h1 : (encR a).2 = encB a := by unfold encR; rw [if_pos hEa]
    have h2 : (encR b).2 = encB b := by unfold encR; rw [if_pos hEb]
    rw [h1, encB_len hEa, hEa] at H1
    rw [h2, encB_len hEb, hEb] at H2
    have HT1 : Hid (∀ (W : World) (A : Option Addr) (c : Nat), Ints W W.heap.size .u8 A (encB a) → ∀ n, (convert 26 9 (.slice A 64 c)).run Try.prog (W.drewN n) = .ok (.string (strOfNums (encB a))) (W.drewN n)) := fun W A c h n => text_of (h.drewN n) (encB_len hEa) c
    have HT2 : Hid (∀ (W : World) (A : Option Addr) (c : Nat), Ints W W.heap.size .u8 A (encB b) → ∀ n, (convert 26 9 (.slice A 64 c)).run Try.prog (W.drewN n) = .ok (.string (strOfNums (encB b))) (W.drewN n)) := fun W A c h n => text_of (h.drewN n) (encB_len hEb) c
    have hteq : ((strOfNums (encB a)).toList == (strOfNums (encB b)).toList) = decide (a = b) := by
      rw [textI_apart (encB_mem a) (encB_mem b)]
      exact decide_eq_decide.2 ⟨enc_inj hEa hEb, fun e => by rw [e]⟩
    have heq := fun W => eqLine_all a b W
    have HC : Hid (∀ W : World, (W.heap[w.heap.size]? = some (.cells (lnV a) 25 (0, 0)) ∧ W.heap[w.heap.size + 1]? = some (.cells (lnV b) 25 (0, 0)) ∧ w.heap.size + 1 < W.heap.size) → _) := fun W h => And.intro (ln_nine h.1) (ln_nine h.2.1)
    obtain ⟨S1, hS1⟩ : ∃ X, X = strOfNums (encB a) := ⟨_, rfl⟩
    obtain ⟨S2, hS2⟩ : ∃ X, X = strOfNums (encB b) := ⟨_, rfl⟩
    rw [← hS1, ← hS2] at hteq
    simp only [← hS1] at HT1
    simp only [← hS2] at HT2
    obtain ⟨X, hX⟩ : ∃ X, X = encB a := ⟨_, rfl⟩
    obtain ⟨Y, hY⟩ : ∃ X, X = encB b := ⟨_, rfl⟩
    simp only [← hX] at H1 HT1
    simp only [← hY] at H2 HT2
    obtain ⟨T, hT⟩ : ∃ T, T = decide (a = b) := ⟨_, rfl⟩
    rw [← hT] at hteq
    simp only [← hT] at heq
    obtain ⟨V, hV⟩ : ∃ V, V = lnV a := ⟨_, rfl⟩
    obtain ⟨U, hU⟩ : ∃ V, V = lnV b := ⟨_, rfl⟩
    have HV := Lib.hid hV
    have HU := Lib.hid hU
    rw [← hV] at hinf ⊢
    rw [← hU] at hinf2 ⊢
    simp only [← hV, ← hU] at HR HROW HC
    simp only [← hV] at H1
    simp only [← hU] at H2
    have HEQ := Lib.hid heq
    clear HS hoa hob h1 h2 hEa hEb hS1 hS2 hX hY hT hV hU heq
    go_enter Try.func9, Try.ntmps9
    go_wp2_with (first
      | (refine wpList_load_row rfl 25 _ rfl w.heap.size rfl 25 _ (0, 0) _ HR.out.1 Try.underlying25 rfl hinf ?_)
      | (have hguard := hx1; clear hguard; go_at_call 10; with_reducible (refine Calls.mono (H2.out _ hx1) ?_); rintro e w2 ⟨A2, c2, rfl, hi2, hb2⟩; have hx2 := hx1.trans (hb2.mono hx1.size); have hj1 := (hi1.below hb2).more hb2.size; have HW2 := Lib.hid (HROW.out _ _ HW1.out hb2))
      | (go_at_call 10; with_reducible (refine Calls.mono (H1.out _ HR.out.2.2.1) ?_); rintro e w1 ⟨A1, c1, rfl, hi1, hb1⟩; have hx1 := HR.out.2.2.1.trans (hb1.mono HR.out.2.2.1.size); have HW1 := Lib.hid (HROW.out _ _ ⟨HR.out.1, HR.out.2.1, HR.out.2.2.2⟩ hb1))
      | (refine wpList_load_row rfl 25 _ rfl (w.heap.size + 1) rfl 25 _ (0, 0) _ HW1.out.2.1 Try.underlying25 rfl hinf2 ?_)
      | (have hguard := hx2; clear hguard; go_at_call 12; with_reducible (refine Calls.mono (HA.out _ hx2) ?_); rintro e w3 ⟨rfl, hb3⟩; have hx3 := hx2.trans (hb3.mono hx2.size); have t1 := HT1.out w3 A1 c1 ((hj1.below hb3).more hb3.size); have t2 := HT2.out w3 A2 c2 ((hi2.below hb3).more hb3.size); obtain ⟨⟨a0, a1, a2, a3, a4, a5, a6, a7, a8⟩, b0, b1, b2, b3, b4, b5, b6, b7, b8⟩ := HC.out _ (HROW.out _ _ HW2.out hb3)))
    have heq := HEQ.out
    rw [HV.out, HU.out]
    unfold lnV at heq ⊢
    clear HV HU HC HR HROW HW1 HW2 HEQ
    cases T
    · go_quiet (fail)
      go_wp2
      go_ret
      exact ⟨rfl, below_drewN hx3 nq⟩
    · go_quiet (fail)
      go_wp2
      go_ret
      exact ⟨rfl, below_drewN hx3 nq⟩
  · obtain ⟨V, hV⟩ : ∃ V, V = lnV a := ⟨_, rfl⟩
    obtain ⟨U, hU⟩ : ∃ V, V = lnV b := ⟨_, rfl⟩
    rw [← hV] at hinf ⊢
    rw [← hU] at hinf2 ⊢
    simp only [← hV, ← hU] at HR HROW
    simp only [← hV] at H1
    simp only [← hU] at H2
    obtain ⟨Ea, hEa⟩ : ∃ E, E = encE a := ⟨_, rfl⟩
    obtain ⟨Eb, hEb⟩ : ∃ E, E = encE b := ⟨_, rfl⟩
    rw [← hEa, ← hEb] at hE
    simp only [← hEa] at H1
    simp only [← hEb] at H2
    obtain ⟨X, hX⟩ : ∃ X, X = (encR a).2 := ⟨_, rfl⟩
    obtain ⟨Y, hY⟩ : ∃ X, X = (encR b).2 := ⟨_, rfl⟩
    simp only [← hX] at H1
    simp only [← hY] at H2
    clear HS hoa hob hV hU hEa hEb hX hY
    by_cases h1 : Ea = 0
    · have h2 : Eb ≠ 0 := fun h => hE ⟨h1, h⟩
      subst h1
      have d1 : (Eb != 0) = true := by rw [bne_iff_ne]; exact h2
      have d2 : (Eb == 0) = false := by rw [beq_eq_false_iff_ne]; exact h2
      clear hE h2
      go_enter Try.func9, Try.ntmps9
      go_wp2_with (first
        | (refine wpList_load_row rfl 25 _ rfl w.heap.size rfl 25 _ (0, 0) _ HR.out.1 Try.underlying25 rfl hinf ?_)
        | (have hguard := hx1; clear hguard; go_at_call 10; with_reducible (refine Calls.mono (H2.out _ hx1) ?_); rintro e w2 ⟨A2, c2, rfl, hi2, hb2⟩; have hx2 := hx1.trans (hb2.mono hx1.size))
        | (go_at_call 10; with_reducible (refine Calls.mono (H1.out _ HR.out.2.2.1) ?_); rintro e w1 ⟨A1, c1, rfl, hi1, hb1⟩; have hx1 := HR.out.2.2.1.trans (hb1.mono HR.out.2.2.1.size); have HW1 := Lib.hid (HROW.out _ _ ⟨HR.out.1, HR.out.2.1, HR.out.2.2.2⟩ hb1))
        | (refine wpList_load_row rfl 25 _ rfl (w.heap.size + 1) rfl 25 _ (0, 0) _ HW1.out.2.1 Try.underlying25 rfl hinf2 ?_)
        | (have hguard := hx3; clear hguard; go_at_call 12; with_reducible (refine Calls.mono (HA.out _ hx3) ?_); rintro e w4 ⟨rfl, hb4⟩; have hx4 := hx3.trans (hb4.mono hx3.size))
        | (have hguard := hx2; clear hguard; go_at_call 12; with_reducible (refine Calls.mono (HA.out _ hx2) ?_); rintro e w3 ⟨rfl, hb3⟩; have hx3 := hx2.trans (hb3.mono hx2.size)))
      go_ret
      exact ⟨rfl, hx4⟩
    · have d1 : (Ea != 0) = true := by rw [bne_iff_ne]; exact h1
      have d2 : (Ea == 0) = false := by rw [beq_eq_false_iff_ne]; exact h1
      clear hE h1
      go_enter Try.func9, Try.ntmps9
      go_wp2_with (first
        | (refine wpList_load_row rfl 25 _ rfl w.heap.size rfl 25 _ (0, 0) _ HR.out.1 Try.underlying25 rfl hinf ?_)
        | (have hguard := hx1; clear hguard; go_at_call 10; with_reducible (refine Calls.mono (H2.out _ hx1) ?_); rintro e w2 ⟨A2, c2, rfl, hi2, hb2⟩; have hx2 := hx1.trans (hb2.mono hx1.size))
        | (go_at_call 10; with_reducible (refine Calls.mono (H1.out _ HR.out.2.2.1) ?_); rintro e w1 ⟨A1, c1, rfl, hi1, hb1⟩; have hx1 := HR.out.2.2.1.trans (hb1.mono HR.out.2.2.1.size); have HW1 := Lib.hid (HROW.out _ _ ⟨HR.out.1, HR.out.2.1, HR.out.2.2.2⟩ hb1))
        | (refine wpList_load_row rfl 25 _ rfl (w.heap.size + 1) rfl 25 _ (0, 0) _ HW1.out.2.1 Try.underlying25 rfl hinf2 ?_)
        | (have hguard := hx3; clear hguard; go_at_call 12; with_reducible (refine Calls.mono (HA.out _ hx3) ?_); rintro e w4 ⟨rfl, hb4⟩; have hx4 := hx3.trans (hb4.mono hx3.size))
        | (have hguard := hx2; clear hguard; go_at_call 12; with_reducible (refine Calls.mono (HA.out _ hx2) ?_); rintro e w3 ⟨rfl, hb3⟩; have hx3 := hx2.trans (hb3.mono hx2.size)))
      go_ret
      exact ⟨rfl, hx4⟩

end Go.Proofs.Ytbfchclfonicmaa
