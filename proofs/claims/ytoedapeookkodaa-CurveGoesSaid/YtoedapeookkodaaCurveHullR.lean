/-
  The document's own corners (stowageref11).
-/
import Derived.Test.YtoedapeookkodaaCurveOf
import Derived.Test.YtoedapeookkodaaCurveMore
import Derived.Deep.DeepCutAuto
import Derived.Deep.RegionHeld3
namespace Go.Proofs.Ytoedapeookkodaa
open Go.RowKit

theorem own_drewC {w : World} {base e s n : Nat} {v : Value} {xs : List Value} (h : w.ownsRow base e s v n xs) (m : Nat) : (w.drewN m).ownsRow base e s v n xs := h
set_option maxHeartbeats 3200000 in
set_option maxRecDepth 20000 in
/-- 'Hull'. -/
theorem refHull_any (A : Option Addr) (n : Nat) (c : List Int) (w : World) (h : Ints w w.heap.size .i64 A c) (hs : soundL c = true) :
    Calls Try.prog 17 #[.slice A c.length n] w fun e w' => ∃ A' c', e = .returned (.slice A' (hullL c).length c') ∧ Ints w' w'.heap.size .i64 A' (hullL c) ∧ Below w.heap.size w w' := by
  obtain ⟨i0, hif, hz0, hz1, hz2⟩ := info_parts Try.infoI64c
  obtain ⟨h1, h2, _, _⟩ := (soundL_iff c).1 hs
  obtain ⟨bA, oA, rfl, hbA, hcA⟩ := h.at_ h1
  have HC : Hid (∀ W i, Below w.heap.size w W → i < c.length → W.cell? ⟨bA, oA + i, none⟩ = some (.int .i64 (c.getD i 0))) := fun W i hb hi => (hb.cell (p := ⟨bA, oA + i, none⟩) hbA).trans (hcA i hi)
  have HLE : Hid (∀ a b, a ≤ b → b < c.length → c.getD a 0 ≤ c.getD b 0) := fun a b q r => sound_le hs q r
  have HBD : Hid (∀ a, a < c.length → 0 ≤ c.getD a 0 ∧ c.getD a 0 ≤ 4503599627370496) := fun a q => sound_bounds hs q
  have HM : Hid (∀ s a b, moreC c s a b = decide ((c.getD b 0 - c.getD a 0) * ((s : Int) - a) < (c.getD s 0 - c.getD a 0) * ((b : Int) - a))) := fun s a b => rfl
  have HROW : Hid (∀ s a, rowOk c s a = (List.range c.length).all fun b => decide (b ≤ s) || moreC c s a b) := fun s a => rfl
  have HCOR : Hid (∀ s, cornerB c s = (List.range s).all (rowOk c s)) := fun s => rfl
  have HHS := Lib.hid (hullTo_succ c)
  have HHL := Lib.hid (hullTo_le c)
  have HH0 : Hid (hullTo c 0 = []) := rfl
  have HHE : Hid (hullL c = hullTo c c.length) := rfl
  obtain ⟨N, hN⟩ : ∃ N, N = c.length := ⟨_, rfl⟩
  simp only [← hN] at HC HLE HBD HROW HHE h2
  rw [← hN, HHE.out]
  obtain ⟨F, hF⟩ : ∃ F : Nat → Int, F = fun i => c.getD i 0 := ⟨_, rfl⟩
  have hFF : ∀ i, c.getD i 0 = F i := fun i => by rw [hF]
  simp only [hFF] at HC HLE HBD HM
  obtain ⟨G, hG⟩ : ∃ G, G = moreC c := ⟨_, rfl⟩
  obtain ⟨R, hR⟩ : ∃ R, R = rowOk c := ⟨_, rfl⟩
  obtain ⟨K, hK⟩ : ∃ K, K = cornerB c := ⟨_, rfl⟩
  rw [← hG] at HM HROW
  rw [← hR] at HROW HCOR
  simp only [← hK] at HCOR HHS
  have n1 : (N : Int) ≤ 4096 := by omega
  clear h hs h1 h2 hbA hcA hN hF hFF hG hR hK HHE
  obtain ⟨H, hH⟩ : ∃ H, H = hullTo c := ⟨_, rfl⟩
  simp only [← hH] at HHS HHL HH0
  rw [← hH]
  clear hH
  go_enter Try.func17, Try.ntmps17
  go_wp2
  go_loopw [3, 4] (fun v i wr => ∃ s : Nat, s ≤ N ∧ i = .int .i64 s ∧ (∃ A c, v = .slice A (H s).length c) ∧ Hid (wr.ownsRow w.heap.size 3 1 v (H s).length ((H s).map (Value.int .i64)) ∧ Below w.heap.size w wr)) (fun _ i _ => N - (intOf i).toNat)
  case atStart =>
    refine ⟨0, Nat.zero_le _, rfl, ?_, ?_⟩
    · rw [HH0.out]; exact ⟨_, _, rfl⟩
    · rw [HH0.out]; exact ⟨World.ownsRow_made (base := w.heap.size) (e := 3) (size := 1) w #[] 0 (Nat.le_refl _) (Nat.zero_le _) rfl, (Below.refl _ _).alloc (Nat.le_refl _) _⟩
  case round =>
    obtain ⟨s, hsN, rfl, ⟨A1, c1, rfl⟩, hS⟩ := hrel
    by_cases hlt : s < N
    · have s1 : (s : Int) < (N : Int) := by omega
      have s0 : (0 : Int) ≤ (s : Int) := by omega
      obtain ⟨wo, hwo⟩ : ∃ x, x = wr := ⟨_, rfl⟩
      subst hwo
      go_wp2
      go_loopw [5, 6] (fun q i wi => ∃ (a m : Nat) (B : Bool), a ≤ s ∧ i = .int .i64 a ∧ q = .bool B ∧ B = (List.range a).all (R s) ∧ wi = wo.drewN m) (fun _ i _ => s - (intOf i).toNat)
      case atStart => exact ⟨0, 0, true, Nat.zero_le _, rfl, rfl, rfl, rfl⟩
      case round =>
        obtain ⟨a, m, B, has, rfl, rfl, hB, hwi⟩ := hrel
        have a0 : (0 : Int) ≤ (a : Int) := by omega
        by_cases hgo : a < s ∧ B = true
        · obtain ⟨hals, rfl⟩ := hgo
          have a1 : (a : Int) < (s : Int) := by omega
          have HB := Lib.hid hB
          have HWI := Lib.hid hwi
          obtain ⟨wa, hwa⟩ : ∃ x, x = wr := ⟨_, rfl⟩
          subst hwa
          clear hB hwi
          go_wp2
          go_loopw [5, 7] (fun q i wj => ∃ (b m' : Nat) (B : Bool), s + 1 ≤ b ∧ b ≤ N ∧ i = .int .i64 b ∧ q = .bool B ∧ B = ((List.range b).all fun b => decide (b ≤ s) || G s a b) ∧ wj = wa.drewN m') (fun _ i _ => N - (intOf i).toNat)
          case atStart =>
            refine ⟨s + 1, 0, true, Nat.le_refl _, hlt, by go_num, rfl, ?_, rfl⟩
            symm
            rw [List.all_eq_true]
            intro x hx
            have := List.mem_range.1 hx
            rw [decide_eq_true (by omega : x ≤ s)]; rfl
          case round =>
            obtain ⟨b, m', B2, hsb, hbN, rfl, rfl, hB2, hwj⟩ := hrel
            have b0 : (0 : Int) ≤ (b : Int) := by omega
            by_cases hgo2 : b < N ∧ B2 = true
            · obtain ⟨hblt, rfl⟩ := hgo2
              have b1 : (b : Int) < (N : Int) := by omega
              have a2 : (a : Int) < (N : Int) := by omega
              have HWJ := Lib.hid hwj
              have hbw : Below w.heap.size w wr := by rw [hwj, HWI.out]; exact below_drewN (below_drewN hS.out.2 _) _
              have q0 := HC.out wr s hbw hlt
              have q1 := HC.out wr a hbw (by omega)
              have q2 := HC.out wr b hbw hblt
              have l1 := HLE.out a s (by omega) hlt
              have l2 := HLE.out a b (by omega) hblt
              have v0 := HBD.out s hlt
              have v1 := HBD.out a (by omega)
              have v2 := HBD.out b hblt
              have hnew : Hid (G s a b = ((List.range (b + 1)).all fun b => decide (b ≤ s) || G s a b)) := by
                refine Lib.hid ?_
                rw [all_range_succ, ← hB2, decide_eq_false (by omega : ¬ b ≤ s)]; rfl
              have hm := HM.out s a b
              obtain ⟨X, hX⟩ : ∃ X, X = F s := ⟨_, rfl⟩
              obtain ⟨Y, hY⟩ : ∃ Y, Y = F a := ⟨_, rfl⟩
              obtain ⟨Z, hZ⟩ : ∃ Z, Z = F b := ⟨_, rfl⟩
              rw [← hX] at q0 l1 v0 hm
              rw [← hY] at q1 l1 l2 v1 hm
              rw [← hZ] at q2 l2 v2 hm
              have HMO := Lib.hid (fun (W : World) => refMoreC_any (X - Y) ((b : Int) - a) (Z - Y) ((s : Int) - a) W ⟨by omega, by omega⟩ ⟨by omega, by omega⟩ ⟨by omega, by omega⟩ ⟨by omega, by omega⟩)
              rw [← hm] at HMO
              obtain ⟨V, hV⟩ : ∃ V, V = G s a b := ⟨_, rfl⟩
              rw [← hV] at HMO hnew
              have HMQ := Lib.hid (fun (n : Nat) => (HMO.out (wr.drewN n)).mono fun e w' ⟨p1, p2⟩ => (⟨p1, p2.symm⟩ : e = Ending.returned (.bool V) ∧ w' = wr.drewN n))
              have y0 := v1.1
              have y1 : X ≤ 4503599627370496 := v0.2
              have y2 : Z ≤ 4503599627370496 := v2.2
              clear hX hY hZ hV hm hB2 hwj v0 v1 v2 hbw
              go_wp2
              go_quiet ((go_at_call 28; with_reducible (refine Calls.quiet_of_same (HMQ.out _))))
              go_wp2
              go_roundw
              case rel => first | exact ⟨b + 1, m' + nq, V, by omega, by omega, by go_num, rfl, hnew.out, by rw [HWJ.out, World.drewN_drewN]⟩ | ((repeat apply Exists.intro); exact ⟨⟨b + 1, m' + nq, V, by omega, by omega, by go_num, rfl, hnew.out, by rw [HWJ.out, World.drewN_drewN]⟩, rfl⟩)
              case measure => simp [intOf]; omega
            · have hrow : Hid (B2 = R s a) := by
                refine Lib.hid ?_
                rw [HROW.out]
                by_cases hb8 : b = N
                · rw [hb8] at hB2; exact hB2
                · have : B2 = false := by
                    cases hB3 : B2
                    · rfl
                    · exact absurd ⟨by omega, hB3⟩ hgo2
                  rw [this] at hB2 ⊢
                  exact (all_range_false hbN hB2.symm).symm
              have hnew : Hid (B2 = (List.range (a + 1)).all (R s)) := by
                refine Lib.hid ?_
                rw [all_range_succ, ← HB.out, ← hrow.out]; rfl
              have HWJ := Lib.hid hwj
              by_cases hB3 : B2 = true
              · subst hB3
                have d0 : N ≤ b := Nat.le_of_not_lt (fun h9 => hgo2 ⟨h9, rfl⟩)
                have d1 : decide ((b : Int) < (N : Int)) = false := decide_eq_false (by omega)
                have d2 : decide (b < N) = false := decide_eq_false (by omega)
                clear hB2 hwj hgo2 hrow
                go_wp2
                go_roundw
                case rel => first | exact ⟨a + 1, m + m', true, by omega, by go_num, rfl, hnew.out, by rw [HWJ.out, HWI.out, World.drewN_drewN]⟩ | ((repeat apply Exists.intro); exact ⟨⟨a + 1, m + m', true, by omega, by go_num, rfl, hnew.out, by rw [HWJ.out, HWI.out, World.drewN_drewN]⟩, rfl⟩)
                case measure => simp [intOf]; omega
              · have hB4 : B2 = false := by cases B2 <;> simp_all
                subst hB4
                by_cases hb8 : b = N
                · have d1 : decide ((b : Int) < (N : Int)) = false := decide_eq_false (by omega)
                  have d2 : decide (b < N) = false := decide_eq_false (by omega)
                  clear hB2 hwj hgo2 hrow hb8 hB3
                  go_wp2
                  go_roundw
                  case rel => first | exact ⟨a + 1, m + m', false, by omega, by go_num, rfl, hnew.out, by rw [HWJ.out, HWI.out, World.drewN_drewN]⟩ | ((repeat apply Exists.intro); exact ⟨⟨a + 1, m + m', false, by omega, by go_num, rfl, hnew.out, by rw [HWJ.out, HWI.out, World.drewN_drewN]⟩, rfl⟩)
                  case measure => simp [intOf]; omega
                · have d1 : decide ((b : Int) < (N : Int)) = true := decide_eq_true (by omega)
                  have d2 : decide (b < N) = true := decide_eq_true (by omega)
                  clear hB2 hwj hgo2 hrow hb8 hB3
                  go_wp2
                  go_roundw
                  case rel => first | exact ⟨a + 1, m + m', false, by omega, by go_num, rfl, hnew.out, by rw [HWJ.out, HWI.out, World.drewN_drewN]⟩ | ((repeat apply Exists.intro); exact ⟨⟨a + 1, m + m', false, by omega, by go_num, rfl, hnew.out, by rw [HWJ.out, HWI.out, World.drewN_drewN]⟩, rfl⟩)
                  case measure => simp [intOf]; omega
        · have hK : Hid (K s = B) := by
            refine Lib.hid ?_
            rw [HCOR.out]
            by_cases ha8 : a = s
            · rw [hB, ha8]
            · have : B = false := by
                cases hB3 : B
                · rfl
                · exact absurd ⟨by omega, hB3⟩ hgo
              rw [this] at hB ⊢
              exact all_range_false has hB.symm
          have HHSS := HHS.out s
          rw [hK.out] at HHSS
          have HWI := Lib.hid hwi
          clear hB hwi HC HLE HBD HM HROW HCOR HHS HH0
          by_cases hB3 : B = true
          · subst hB3
            have ha8 : a = s := by
              by_cases h9 : a = s
              · exact h9
              · exact absurd ⟨by omega, rfl⟩ hgo
            subst ha8
            obtain ⟨hown, hbel⟩ := hS.out
            have hown2 : wr.ownsRow w.heap.size 3 1 (.slice A1 (H a).length c1) (H a).length ((H a).map (Value.int .i64)) := by rw [HWI.out]; exact own_drewC hown m
            have hbel2 : Below w.heap.size w wr := by rw [HWI.out]; exact below_drewN hbel m
            have hHl := HHL.out a
            rw [if_pos rfl] at HHSS
            have HHs := Lib.hid HHSS
            obtain ⟨T, hT⟩ : ∃ T, T = H a := ⟨_, rfl⟩
            rw [← hT] at hown2 hHl
            rw [← hT]
            have HT := Lib.hid hT
            clear hgo hS hown hbel hT HHSS
            go_wp2_with (at_builtin; refine wpList_append_own_at _ rfl _ _ 22 rfl w.heap.size 3 i0 (.int .i64 0) 1 8 Try.underlying22 hif hz0 hz1 hz2 rfl (by decide) _ _ _ rfl (hown2.alloc _) ⟨wr.heap.size, 0, none⟩ 1 1 [.int .i64 (a : Int)] rfl rfl (cell_one_new _ _ _) ?d1 ?d2 ?d3 ?d4 ?_)
            case d1 => first | rfl | (intro u hu; simp at hu; subst hu; rfl)
            case d2 => unfold maxLen; omega
            case d3 => omega
            case d4 => have := hbel2.size; simp; omega
            intro v3 w3 hown3 hg3 _ _
            have R9 : Hid (w3.ownsRow w.heap.size 3 1 v3 (H (a + 1)).length ((H (a + 1)).map (Value.int .i64)) ∧ Below w.heap.size w w3 ∧ (H (a + 1)).length = T.length + 1) := by
              refine ⟨?_, (hbel2.alloc hbel2.size _).grown hg3 (by have := hbel2.size; simp; omega) fun q hq => (hown2.lt q hq).1, ?_⟩
              · rw [HHs.out, ← HT.out, List.map_append, List.length_append]; exact hown3
              · rw [HHs.out, ← HT.out, List.length_append]; rfl
            obtain ⟨A3, c3, rfl⟩ := own_slice R9.out.1
            have HL9 := Lib.hid R9.out.2.2
            clear hown2 hbel2 hown3 hg3 hHl
            go_wp2
            go_roundw
            case rel => first | exact ⟨a + 1, by omega, by go_num, ⟨A3, c3, rfl⟩, R9.out.1, R9.out.2.1⟩ | ((repeat apply Exists.intro); exact ⟨⟨a + 1, by omega, by go_num, ⟨A3, c3, rfl⟩, R9.out.1, R9.out.2.1⟩, rfl⟩) | ((repeat apply Exists.intro); exact ⟨⟨a + 1, by omega, by go_num, ⟨A3, c3, by rw [HL9.out]⟩, R9.out.1, R9.out.2.1⟩, rfl⟩)
            case measure => simp [intOf]; omega
          · have hB4 : B = false := by cases B <;> simp_all
            subst hB4
            rw [if_neg (by decide)] at HHSS
            have HHs := Lib.hid HHSS
            have R9 : Hid (wr.ownsRow w.heap.size 3 1 (.slice A1 (H s).length c1) (H s).length ((H s).map (Value.int .i64)) ∧ Below w.heap.size w wr) := by
              refine Lib.hid ?_
              rw [HWI.out]
              exact ⟨own_drewC hS.out.1 m, below_drewN hS.out.2 m⟩
            clear hgo hS HHSS hB3
            by_cases ha8 : a = s
            · subst ha8
              go_wp2
              go_roundw
              case rel => first | exact ⟨a + 1, by omega, by go_num, ⟨A1, c1, by rw [HHs.out]⟩, by rw [HHs.out]; exact ⟨R9.out.1, R9.out.2⟩⟩ | ((repeat apply Exists.intro); exact ⟨⟨a + 1, by omega, by go_num, ⟨A1, c1, by rw [HHs.out]⟩, by rw [HHs.out]; exact ⟨R9.out.1, R9.out.2⟩⟩, rfl⟩)
              case measure => simp [intOf]; omega
            · have d1 : decide ((a : Int) < (s : Int)) = true := decide_eq_true (by omega)
              have d2 : decide (a < s) = true := decide_eq_true (by omega)
              go_wp2
              go_roundw
              case rel => first | exact ⟨s + 1, by omega, by go_num, ⟨A1, c1, by rw [HHs.out]⟩, by rw [HHs.out]; exact ⟨R9.out.1, R9.out.2⟩⟩ | ((repeat apply Exists.intro); exact ⟨⟨s + 1, by omega, by go_num, ⟨A1, c1, by rw [HHs.out]⟩, by rw [HHs.out]; exact ⟨R9.out.1, R9.out.2⟩⟩, rfl⟩)
              case measure => simp [intOf]; omega
    · have hk8 : s = N := by omega
      subst hk8
      obtain ⟨hown, hbel⟩ := hS.out
      clear hS HHS HHL HCOR HROW HM HBD HLE HC
      go_wp2
      go_ret
      exact ⟨A1, c1, rfl, Ints.of_own (n := (H s).length) (c := c1) hown, hbel⟩

end Go.Proofs.Ytoedapeookkodaa
