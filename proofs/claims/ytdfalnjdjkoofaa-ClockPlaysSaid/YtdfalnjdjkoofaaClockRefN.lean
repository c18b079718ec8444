/-
  The document's own ring (stowageref13): New.
-/
import Derived.Test.YtdfalnjdjkoofaaClockRef2
namespace Go.Proofs.Ytdfalnjdjkoofaa
open Go.RowKit

theorem Try.infoBoolK : (Try.prog.info? 4).map (fun i => (i.zero, i.size, i.bytes)) = some (some (.bool false), 1, 1) := by kernel_rfl
def NewR (w : World) (k : Nat) (tv mv : Value) (W : World) : Prop :=
  W.heap[w.heap.size]? = some (.cells #[tv, mv, .int .i64 0] 43 (0, 0)) ∧ W.ownsRow (w.heap.size + 1) 3 1 tv k (List.replicate k (Value.int .i64 (-1))) ∧
  W.ownsRow (w.heap.size + 1) 4 1 mv k (List.replicate k (Value.bool false)) ∧ Apart tv mv ∧ Below w.heap.size w W
theorem own_lower {w : World} {b b' e n : Nat} {v : Value} {xs : List Value} (h : w.ownsRow b e 1 v n xs) (hb : b' ≤ b) : w.ownsRow b' e 1 v n xs := by
  refine ⟨h.1, ?_⟩
  rcases h.2 with hn | ⟨g, cap, cur, hv, hbg, rest⟩
  · exact .inl hn
  · exact .inr ⟨g, cap, cur, hv, Nat.le_trans hb hbg, rest⟩
theorem own_otherK {w w' : World} {b e n : Nat} {v : Value} {xs : List Value} (h : w.ownsRow b e 1 v n xs) (he : ∀ g, v.ownBlock = some g → w'.heap[g]? = w.heap[g]?) : w'.ownsRow b e 1 v n xs := by
  refine ⟨h.1, ?_⟩
  rcases h.2 with hn | ⟨g, cap, cur, hv, hbg, hg, rest⟩
  · exact .inl hn
  · exact .inr ⟨g, cap, cur, hv, hbg, (he g (by rw [hv]; rfl)).trans hg, rest⟩
/-- Behind the first append and its store. -/
theorem newR_t {w W W2 : World} {k : Nat} {tv mv v5 : Value} {x : Value} {t : TypeId} (h : NewR w k tv mv W) (h5 : W2.ownsRow (w.heap.size + 1) 3 1 v5 (k + 1) (List.replicate (k + 1) (Value.int .i64 (-1)))) (hg : (W.alloc (.cells #[x] t)).grownBy W2 tv.ownBlock) (hv5 : v5.ownBlock = tv.ownBlock ∨ v5.ownBlock = some (W.heap.size + 1)) :
    W2.heap[w.heap.size]? = some (.cells #[tv, mv, .int .i64 0] 43 (0, 0)) ∧ (W2.setCell ⟨w.heap.size, 0, none⟩ v5).heap[w.heap.size]? = some (.cells #[v5, mv, .int .i64 0] 43 (0, 0)) ∧
    (W2.setCell ⟨w.heap.size, 0, none⟩ v5).ownsRow (w.heap.size + 1) 3 1 v5 (k + 1) (List.replicate (k + 1) (Value.int .i64 (-1))) ∧ (W2.setCell ⟨w.heap.size, 0, none⟩ v5).ownsRow (w.heap.size + 1) 4 1 mv k (List.replicate k (Value.bool false)) ∧ Apart v5 mv ∧ Below w.heap.size w (W2.setCell ⟨w.heap.size, 0, none⟩ v5) := by
  obtain ⟨h1, h2, h3, h4, h6⟩ := h
  have hs : (W.alloc (.cells #[x] t)).heap.size = W.heap.size + 1 := by simp
  have hlt := (Array.getElem?_eq_some_iff.1 h1).1
  have hq : some w.heap.size ≠ tv.ownBlock := fun e => by have := (h2.lt _ e.symm).1; omega
  have e1 : W2.heap[w.heap.size]? = some (.cells #[tv, mv, .int .i64 0] 43 (0, 0)) := (hg.block w.heap.size (by omega) hq).trans ((Below.heap_alloc W _ _ hlt).trans h1)
  have hm2 : W2.ownsRow (w.heap.size + 1) 4 1 mv k (List.replicate k (Value.bool false)) := own_kept (h3.alloc _) hg (fun q hq hq2 => h4 q hq hq2)
  refine ⟨e1, setc_same W2 w.heap.size 0 v5 _ _ e1, ?_, ?_, ?_, ?_⟩
  · exact own_otherK h5 (fun g hgv => setc_other W2 _ g 0 v5 (fun e => by have := (h5.lt g hgv).1; omega))
  · exact own_otherK hm2 (fun g hgv => setc_other W2 _ g 0 v5 (fun e => by have := (h3.lt g hgv).1; omega))
  · exact h4.grown (N := W.heap.size + 1) (fun q hq => by have := (h3.lt q hq).2; omega) hv5
  · have hb2 : Below w.heap.size w W2 := (h6.alloc h6.size _).grown hg (by have := h6.size; omega) fun q hq => by have := (h2.lt q hq).1; omega
    exact hb2.setCell (p := ⟨w.heap.size, 0, none⟩) (Nat.le_refl _) v5
theorem newR_m {w W W2 : World} {k : Nat} {tv mv v5 : Value} {x : Value} {t : TypeId} (h1 : W.heap[w.heap.size]? = some (.cells #[tv, mv, .int .i64 0] 43 (0, 0))) (h2 : W.ownsRow (w.heap.size + 1) 3 1 tv (k + 1) (List.replicate (k + 1) (Value.int .i64 (-1))))
    (h3 : W.ownsRow (w.heap.size + 1) 4 1 mv k (List.replicate k (Value.bool false))) (h4 : Apart tv mv) (h6 : Below w.heap.size w W) (h5 : W2.ownsRow (w.heap.size + 1) 4 1 v5 (k + 1) (List.replicate (k + 1) (Value.bool false))) (hg : (W.alloc (.cells #[x] t)).grownBy W2 mv.ownBlock) (hv5 : v5.ownBlock = mv.ownBlock ∨ v5.ownBlock = some (W.heap.size + 1)) :
    W2.heap[w.heap.size]? = some (.cells #[tv, mv, .int .i64 0] 43 (0, 0)) ∧ NewR w (k + 1) tv v5 (W2.setCell ⟨w.heap.size, 1, none⟩ v5) := by
  have hs : (W.alloc (.cells #[x] t)).heap.size = W.heap.size + 1 := by simp
  have hlt := (Array.getElem?_eq_some_iff.1 h1).1
  have hq : some w.heap.size ≠ mv.ownBlock := fun e => by have := (h3.lt _ e.symm).1; omega
  have e1 : W2.heap[w.heap.size]? = some (.cells #[tv, mv, .int .i64 0] 43 (0, 0)) := (hg.block w.heap.size (by omega) hq).trans ((Below.heap_alloc W _ _ hlt).trans h1)
  have ht2 : W2.ownsRow (w.heap.size + 1) 3 1 tv (k + 1) (List.replicate (k + 1) (Value.int .i64 (-1))) := own_kept (h2.alloc _) hg (fun q hq hq2 => h4.symm q hq hq2)
  refine ⟨e1, setc_same W2 w.heap.size 1 v5 _ _ e1, ?_, ?_, ?_, ?_⟩
  · exact own_otherK ht2 (fun g hgv => setc_other W2 _ g 1 v5 (fun e => by have := (h2.lt g hgv).1; omega))
  · exact own_otherK h5 (fun g hgv => setc_other W2 _ g 1 v5 (fun e => by have := (h5.lt g hgv).1; omega))
  · exact (h4.symm.grown (N := W.heap.size + 1) (fun q hq => by have := (h2.lt q hq).2; omega) hv5).symm
  · have hb2 : Below w.heap.size w W2 := (h6.alloc h6.size _).grown hg (by have := h6.size; omega) fun q hq => by have := (h3.lt q hq).1; omega
    exact hb2.setCell (p := ⟨w.heap.size, 1, none⟩) (Nat.le_refl _) v5
/-- A ring that is whole. -/
theorem newR_ref {w W : World} {N : Nat} {tv mv : Value} (h : NewR w N tv mv W) (h1 : 1 ≤ N) (h2 : N ≤ 200) : ∃ tg tc mg mc, RefR w.heap.size W w.heap.size tg tc mg mc N (newC N) ∧ w.heap.size < tg ∧ w.heap.size < mg := by
  obtain ⟨q1, q2, q3, q4, q5⟩ := h
  obtain ⟨tg, tc, hv, hb, hl⟩ := q2.form (by omega)
  obtain ⟨mg, mc, hv2, hb2, hl2⟩ := q3.form (by omega)
  subst hv hv2
  refine ⟨tg, tc, mg, mc, ⟨q1, by rw [show (newC N).t = List.replicate N (-1) from rfl, List.map_replicate]; exact own_lower q2 (by omega), by rw [show (newC N).m = List.replicate N false from rfl, List.map_replicate]; exact own_lower q3 (by omega), by omega, by omega, fun e => q4 tg rfl (by rw [e]; rfl), Nat.le_refl _, newC_ok h1, h2⟩, by omega, by omega⟩

theorem cell_one_at (W : World) (x : Value) (t : TypeId) {n : Nat} (hn : W.heap.size = n) : ∀ j u, [x][j]? = some u → (W.alloc (.cells #[x] t)).cell? ((⟨n, 0, none⟩ : Addr).add j) = some u := hn ▸ cell_one_new W x t
set_option maxHeartbeats 3200000 in
set_option maxRecDepth 20000 in
theorem refNewK_any (N : Nat) (w : World) (h1 : 1 ≤ N) (h2 : N ≤ 200) : Calls Try.prog 10 #[.int .i64 (N : Int)] w fun e w' => e = .returned (.pointer (some ⟨w.heap.size, 0, none⟩)) ∧ (∃ tg tc mg mc, RefR w.heap.size w' w.heap.size tg tc mg mc N (newC N) ∧ w.heap.size < tg ∧ w.heap.size < mg) ∧ Below w.heap.size w w' := by
  obtain ⟨i0, hif, hz0, hz1, hz2⟩ := info_parts Try.infoI64k
  obtain ⟨j0, jif, jz0, jz1, jz2⟩ := info_parts Try.infoBoolK
  have HEND : Hid (∀ tv mv W, NewR w N tv mv W → (∃ tg tc mg mc, RefR w.heap.size W w.heap.size tg tc mg mc N (newC N) ∧ w.heap.size < tg ∧ w.heap.size < mg) ∧ Below w.heap.size w W) := fun tv mv W h => ⟨newR_ref h h1 h2, h.2.2.2.2⟩
  have H0 : Hid (NewR w 0 (.slice none 0 0) (.slice none 0 0) (w.alloc (.cells #[.slice none 0 0, .slice none 0 0, .int .i64 0] 43))) :=
    ⟨heap_alloc_new w _, ⟨rfl, .inl ⟨rfl, rfl⟩⟩, ⟨rfl, .inl ⟨rfl, rfl⟩⟩, fun q hq => by simp [Value.ownBlock] at hq, (Below.refl _ _).alloc (Nat.le_refl _) _⟩
  have HS1 : Hid (∀ k : Nat, List.replicate (k + 1) (Value.int .i64 (-1)) = List.replicate k (Value.int .i64 (-1)) ++ [.int .i64 (-1)]) := fun k => List.replicate_succ'
  have HS2 : Hid (∀ k : Nat, List.replicate (k + 1) (Value.bool false) = List.replicate k (Value.bool false) ++ [.bool false]) := fun k => List.replicate_succ'
  have n200 : (N : Int) ≤ 200 := by omega
  clear h1
  go_enter Try.func10, Try.ntmps10
  go_wp2
  go_loopw [4] (fun i wr => ∃ k : Nat, k ≤ N ∧ i = .int .i64 k ∧ Hid (∃ tA tc mA mc, NewR w k (.slice tA k tc) (.slice mA k mc) wr)) (fun i _ => N - (intOf i).toNat)
  case atStart => exact ⟨0, Nat.zero_le _, rfl, none, 0, none, 0, H0.out⟩
  case round =>
    clear H0
    obtain ⟨k, hk, rfl, hR⟩ := hrel
    obtain ⟨tA, tc, mA, mc, hN⟩ := hR.out
    by_cases hlt : k < N
    · have k1 : (k : Int) < (N : Int) := by omega
      obtain ⟨hc, ho, hm, hap, hb⟩ := hN
      have c0 := cell_of_row wr w.heap.size 0 _ _ _ hc
      have HNN := Lib.hid (show NewR w k (.slice tA k tc) (.slice mA k mc) wr from ⟨hc, ho, hm, hap, hb⟩)
      have hsz := hb.size
      clear hR hm hap hc
      go_wp2_with (at_builtin; refine wpList_append_own_at _ rfl _ _ 30 rfl (w.heap.size + 1) 3 i0 (.int .i64 0) 1 8 Try.underlying30 hif hz0 hz1 hz2 rfl (by decide) _ _ _ rfl (ho.alloc _) ⟨wr.heap.size, 0, none⟩ 1 1 [.int .i64 (-1)] rfl rfl (cell_one_new _ _ _) ?d1 ?d2 ?d3 ?d4 ?_)
      case d1 => first | rfl | (intro u hu; simp at hu; subst hu; rfl)
      case d2 => unfold maxLen; omega
      case d3 => omega
      case d4 => have := (Array.getElem?_eq_some_iff.1 HNN.out.1).1; simp; omega
      intro v3 w3 hown3 hg3 _ hv3
      have R1 := newR_t HNN.out (by rw [HS1.out]; exact hown3) hg3 hv3
      obtain ⟨A6, c6, rfl⟩ := own_slice hown3
      obtain ⟨hc3, hc4, ho4, hm4, hap4, hb4⟩ := R1
      have x0 : ∃ z, w3.cell? ⟨w.heap.size, 0, none⟩ = some z := ⟨_, cell_of_row w3 w.heap.size 0 _ _ _ hc3⟩
      have x1 := frozen_of_row w3 w.heap.size 0 _ _ hc3
      have x2 := cell_of_row w3 w.heap.size 0 _ _ _ hc3
      have HC4 := Lib.hid hc4
      have HO4 := Lib.hid ho4
      have HM4 := Lib.hid hm4
      have HP4 := Lib.hid hap4
      have HB4 := Lib.hid hb4
      have y1 := cell_of_row w3 w.heap.size 1 _ _ _ hc3
      clear ho hown3 hg3 hv3 hc3 hc4 ho4 hap4 hb4 HNN hb c0 x0
      have hs4 : (w3.setCell ⟨w.heap.size, 0, none⟩ (.slice A6 (k + 1) c6)).heap.size = w3.heap.size := by simp [World.setCell]
      have HS4 := Lib.hid hs4
      clear hs4
      go_wp2_with (at_builtin; refine wpList_append_own_at _ rfl _ _ 41 rfl (w.heap.size + 1) 4 j0 (.bool false) 1 1 Try.underlying41 jif jz0 jz1 jz2 rfl (by decide) _ _ _ rfl (hm4.alloc _) ⟨w3.heap.size, 0, none⟩ 1 1 [.bool false] rfl rfl (cell_one_at _ _ _ HS4.out) ?e1 ?e2 ?e3 ?e4 ?_)
      case e1 => first | rfl | (intro u hu; simp at hu; subst hu; rfl)
      case e2 => unfold maxLen; omega
      case e3 => omega
      case e4 => have := (Array.getElem?_eq_some_iff.1 HC4.out).1; rw [HS4.out] at this; simp; omega
      intro v5 w5 hown5 hg5 _ hv5
      have R2 := newR_m HC4.out HO4.out HM4.out HP4.out HB4.out (by rw [HS2.out]; exact hown5) hg5 (by rw [HS4.out]; first | exact hv5 | (rw [← HS4.out]; exact hv5))
      obtain ⟨A7, c7, rfl⟩ := own_slice hown5
      obtain ⟨hc5, hR5⟩ := R2
      have z1 := cell_of_row w5 w.heap.size 1 _ _ _ hc5
      have z2 := frozen_of_row w5 w.heap.size 1 _ _ hc5
      have R : Hid (∃ tA tc mA mc, NewR w (k + 1) (.slice tA (k + 1) tc) (.slice mA (k + 1) mc) (w5.setCell ⟨w.heap.size, 1, none⟩ (.slice A7 (k + 1) c7))) := ⟨_, _, _, _, hR5⟩
      clear hm4 hown5 hg5 hv5 hc5 hR5 HC4 HO4 HM4 HP4 HB4 HS4 x1 x2 y1
      go_wp2
      go_roundw
      case rel => first | exact ⟨k + 1, by omega, by go_num, R⟩ | ((repeat apply Exists.intro); exact ⟨⟨k + 1, by omega, by go_num, R⟩, rfl⟩)
      case measure => simp [intOf]; omega
    · have hkN : k = N := by omega
      subst hkN
      have HE := Lib.hid (HEND.out _ _ _ hN)
      clear hN hR
      go_wp2
      go_ret
      exact ⟨rfl, HE.out.1, HE.out.2⟩

end Go.Proofs.Ytdfalnjdjkoofaa
