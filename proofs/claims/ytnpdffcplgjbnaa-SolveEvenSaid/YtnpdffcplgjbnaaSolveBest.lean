/-
  The document's own: the best shares, by trying all (stowageref12).
-/
import Derived.Test.YtnpdffcplgjbnaaSolveBestN
import Derived.Test.YtnpdffcplgjbnaaSolveGreedy
import Derived.Deep.TreeCalls
namespace Go.Proofs.Ytnpdffcplgjbnaa
open Go.RowKit

theorem Ints.tail1 {w : World} {B : Nat} {k : IntKind} {b off : Nat} {z : Int} {zs : List Int} (h : Ints w B k (some ⟨b, off, none⟩) (z :: zs)) : Ints w B k (some ⟨b, off + 1, none⟩) zs := fun i hi => by
  obtain ⟨b', o', e, hb, q⟩ := h (i + 1) (by simp; omega)
  injection e with e; injection e with e1 e2
  subst e1 e2
  refine ⟨b, off + 1, rfl, hb, ?_⟩
  rw [show off + 1 + i = off + (i + 1) by omega]
  simpa using q
theorem Curs.tail1 {w : World} {B : Nat} {b off : Nat} {p : Cur} {ps : List Cur} (h : Curs w B (some ⟨b, off, none⟩) (p :: ps)) : Curs w B (some ⟨b, off + 1, none⟩) ps := fun i hi => by
  obtain ⟨b', o', e, hb, q, ok⟩ := h (i + 1) (by simp; omega)
  injection e with e; injection e with e1 e2
  subst e1 e2
  refine ⟨b, off + 1, rfl, hb, ?_, ?_⟩
  · rw [show off + 1 + i = off + (i + 1) by omega]
    simpa using q
  · simpa using ok
theorem bestR_le {ls : List Int} {cs : List (List Int)} {t : Int} (h : May ls cs t) (hk : cs.length ≤ 16) : (bestR ls cs t).2 ≤ 72057594037927936 := by
  obtain ⟨q1, q2, _, _⟩ := bestR_spec cs ls t h
  rw [q2, bringL_sum _ _ (q1.len.trans h.len)]
  have := bring_bounds (cs := cs) (bestR ls cs t).1 (fun i hi => h.sound _ (by rw [List.getD_eq_getElem?_getD, List.getElem?_eq_getElem hi]; exact List.getElem_mem hi)) cs.length (Nat.le_refl _)
  omega

theorem le_sum_mem : ∀ {l : List Int}, (∀ y ∈ l, 0 ≤ y) → ∀ z ∈ l, z ≤ l.sum
  | [], _, z, hz => absurd hz (by simp)
  | a :: l, h, z, hz => by
    rw [List.sum_cons]
    have ha := h a (List.mem_cons_self ..)
    have hs := sum_nonneg (l := l) fun y hy => h y (List.mem_cons_of_mem _ hy)
    rcases List.mem_cons.1 hz with e | e
    · omega
    · have := le_sum_mem (l := l) (fun y hy => h y (List.mem_cons_of_mem _ hy)) z e; omega
/-- The scan: the most so far, and what has it. -/
def mostTo (G : Nat → Int) : Nat → Int
  | 0 => -1
  | q + 1 => if mostTo G q < G q then G q else mostTo G q
def outTo (G : Nat → Int) (X : Nat → List Int) : Nat → List Int
  | 0 => []
  | q + 1 => if mostTo G q < G q then X q else outTo G X q
theorem most_best {G : Nat → Int} (h : 0 ≤ G 0) : ∀ q, mostTo G (q + 1) = G (bestG G q)
  | 0 => by
    show (if (-1 : Int) < G 0 then G 0 else -1) = _
    rw [if_pos (by omega)]; rfl
  | q + 1 => by
    have ih := most_best h q
    show (if mostTo G (q + 1) < G (q + 1) then _ else _) = _
    rw [ih]
    show _ = G (if G (bestG G q) < G (q + 1) then q + 1 else bestG G q)
    split <;> rfl
theorem out_best {G : Nat → Int} {X : Nat → List Int} (h : 0 ≤ G 0) : ∀ q, outTo G X (q + 1) = X (bestG G q)
  | 0 => by
    show (if (-1 : Int) < G 0 then X 0 else []) = _
    rw [if_pos (by omega)]; rfl
  | q + 1 => by
    have ih := out_best (X := X) h q
    show (if mostTo G (q + 1) < G (q + 1) then _ else _) = _
    rw [ih, most_best h q]
    show _ = X (if G (bestG G q) < G (q + 1) then q + 1 else bestG G q)
    split <;> rfl

set_option maxHeartbeats 800000 in
theorem refBest_one (total : Int) (A0 A1 : Option Addr) (c0 c1 : Nat) (p : Cur) (w : World) (h1 : Curs w w.heap.size A1 [p]) :
    Calls Try.prog 16 #[.int .i64 total, .slice A0 1 c0, .slice A1 1 c1] w fun e w' => ∃ A c, e = .returned (.tuple #[.slice A 1 c, .int .i64 (atN p.l total)]) ∧ Ints w' w'.heap.size .i64 A [total] ∧ Below w.heap.size w w' := by
  obtain ⟨b, o, rfl, hbl, q0, ok⟩ := h1 0 (by simp)
  simp only [List.getElem_cons_zero, Nat.add_zero] at q0 ok
  have HA : Hid (∀ W, Below w.heap.size w W → Calls Try.prog 19 #[.slice p.A p.l.length p.c, .int .i64 total] W fun e w' => e = .returned (.int .i64 (atN p.l total)) ∧ W = w') := fun W hb => refAt_any p.A p.c p.l total W ((ok.ints.below hb).more hb.size) (by have := ok.le; have := ok.cap; omega)
  have HC : Hid (∀ W, Below w.heap.size w W → W.cell? ⟨b, o, none⟩ = some (.slice p.A p.l.length p.c)) := fun W hb => (hb.cell (p := ⟨b, o, none⟩) hbl).trans q0
  obtain ⟨x, hx⟩ : ∃ x, x = atN p.l total := ⟨_, rfl⟩
  rw [← hx] at HA ⊢
  have c1 : w.cell? ⟨b, o, none⟩ = some (.slice p.A p.l.length p.c) := q0
  obtain ⟨pl, hpl⟩ : ∃ x, x = p.l.length := ⟨_, rfl⟩
  rw [← hpl] at HA HC c1
  clear h1 q0 ok hx hpl
  go_enter Try.func16, Try.ntmps16
  go_wp2_with (go_at_call 19; with_reducible (refine Calls.mono (HA.out _ ((Below.refl _ w).alloc (Nat.le_refl _) _)) ?_); rintro e w2 ⟨rfl, hw2⟩)
  go_ret2
  refine ⟨some ⟨w.heap.size, 0, none⟩, 1, rfl, ?_, ?_⟩
  · have h := Ints.new w 3 .i64 [total] #[.int .i64 total] rfl
    first | exact h | (subst hw2; exact h) | (simp [← hw2]; exact h)
  · first | exact (Below.refl _ w).alloc (Nat.le_refl _) _ | (subst hw2; exact (Below.refl _ w).alloc (Nat.le_refl _) _)

/-! ### Trying all -/
set_option maxHeartbeats 3200000 in
set_option maxRecDepth 20000 in
theorem refBest_step (total : Int) (b0 o0 b1 o1 c0 c1 : Nat) (l : Int) (ls : List Int) (p p2 : Cur) (ps : List Cur) (w : World) (h0 : Ints w w.heap.size .i64 (some ⟨b0, o0, none⟩) (l :: ls)) (h1 : Curs w w.heap.size (some ⟨b1, o1, none⟩) (p :: p2 :: ps))
    (hm : May (l :: ls) ((p :: p2 :: ps).map Cur.l) total) (ht : total ≤ 512) (hc0 : ls.length + 1 ≤ c0) (hc1 : ps.length + 2 ≤ c1) (hk : ps.length + 2 ≤ 16)
    (ih : ∀ (t : Int) (W : World), Below w.heap.size w W → l ≤ total - t → total - t ≤ total - ls.sum → Calls Try.prog 16 #[.int .i64 t, .slice (some ⟨b0, o0 + 1, none⟩) ls.length (c0 - 1), .slice (some ⟨b1, o1 + 1, none⟩) (ps.length + 1) (c1 - 1)] W
      fun e w' => ∃ A c, e = .returned (.tuple #[.slice A (ps.length + 1) c, .int .i64 (bestR ls ((p2 :: ps).map Cur.l) t).2]) ∧ Ints w' w'.heap.size .i64 A (bestR ls ((p2 :: ps).map Cur.l) t).1 ∧ Below W.heap.size W w') :
    Calls Try.prog 16 #[.int .i64 total, .slice (some ⟨b0, o0, none⟩) (ls.length + 1) c0, .slice (some ⟨b1, o1, none⟩) (ps.length + 2) c1] w
      fun e w' => ∃ A c, e = .returned (.tuple #[.slice A (ps.length + 2) c, .int .i64 (bestR (l :: ls) ((p :: p2 :: ps).map Cur.l) total).2]) ∧ Ints w' w'.heap.size .i64 A (bestR (l :: ls) ((p :: p2 :: ps).map Cur.l) total).1 ∧ Below w.heap.size w w' := by
  obtain ⟨i0, hi, hz0, hz1, hz2⟩ := info_parts Try.infoI64v
  have hll : ls.length = ps.length + 1 := by have := hm.len; simpa using this
  obtain ⟨b, o, e0, hbl, q0, ok⟩ := h1 0 (by simp)
  injection e0 with e0; injection e0 with e1 e2
  subst e1 e2
  simp only [List.getElem_cons_zero, Nat.add_zero] at q0 ok
  have HALL : Hid (∀ W, Below w.heap.size w W → Calls Try.prog 24 #[.slice (some ⟨b0, o0 + 1, none⟩) ls.length (c0 - 1)] W fun e w' => e = .returned (.int .i64 ls.sum) ∧ W = w') := fun W hb => refAll_any (some ⟨b0, o0 + 1, none⟩) (c0 - 1) ls W ((h0.tail1.below hb).more hb.size) (by omega) (fun z hz => ⟨hm.low z (List.mem_cons_of_mem _ hz), by
    have h5 := hm.sum
    rw [List.sum_cons] at h5
    have h6 := hm.low l (List.mem_cons_self ..)
    have h7 := le_sum_mem (l := ls) (fun y hy => hm.low y (List.mem_cons_of_mem _ hy)) z hz
    omega⟩)
  have hsum := hm.sum
  rw [List.sum_cons] at hsum
  have hl0 : 0 ≤ l := hm.low l (List.mem_cons_self ..)
  have hR0 : 0 ≤ ls.sum := sum_nonneg fun y hy => hm.low y (List.mem_cons_of_mem _ hy)
  obtain ⟨hh, hhh⟩ : ∃ hh, hh = total - ls.sum := ⟨_, rfl⟩
  obtain ⟨k, hk0⟩ : ∃ k, k = (hh - l).toNat := ⟨_, rfl⟩
  have hc : soundL p.l = true := hm.sound p.l (by simp)
  have HM : ∀ q : Nat, May ls ((p2 :: ps).map Cur.l) (total - (hh - (q : Int))) := fun q => hm.tail (x := hh - (q : Int)) (by omega)
  obtain ⟨U, hU⟩ : ∃ U : Nat → Int, U = fun q : Nat => atN p.l (hh - (q : Int)) := ⟨_, rfl⟩
  obtain ⟨V, hV⟩ : ∃ V : Nat → Int, V = fun q : Nat => (bestR ls ((p2 :: ps).map Cur.l) (total - (hh - (q : Int)))).2 := ⟨_, rfl⟩
  obtain ⟨Y, hY⟩ : ∃ Y : Nat → List Int, Y = fun q : Nat => (bestR ls ((p2 :: ps).map Cur.l) (total - (hh - (q : Int)))).1 := ⟨_, rfl⟩
  obtain ⟨N, hN⟩ : ∃ N, N = ls.length + 1 := ⟨_, rfl⟩
  have HU : Hid (∀ q, 0 ≤ U q ∧ U q ≤ 4503599627370496) := fun q => by rw [hU]; exact atN_bounds hc _
  have HV : Hid (∀ q, 0 ≤ V q ∧ V q ≤ 72057594037927936) := fun q => by rw [hV]; exact ⟨(bestR_spec _ _ _ (HM q)).2.2.1, bestR_le (HM q) (by simp; omega)⟩
  have HY : Hid (∀ q, (Y q).length = N - 1) := fun q => by
    rw [hY, hN]
    have := (bestR_spec _ _ _ (HM q)).1.len
    show (bestR ls ((p2 :: ps).map Cur.l) (total - (hh - (q : Int)))).1.length = _
    omega
  have HAT : Hid (∀ q W, Below w.heap.size w W → Calls Try.prog 19 #[.slice p.A p.l.length p.c, .int .i64 (hh - (q : Nat))] W fun e w' => e = .returned (.int .i64 (U q)) ∧ W = w') := fun q W hb => by
    rw [hU]; exact refAt_any p.A p.c p.l _ W ((ok.ints.below hb).more hb.size) (by have := ok.le; have := ok.cap; omega)
  have HIH : Hid (∀ q W, Below w.heap.size w W → q ≤ k → Calls Try.prog 16 #[.int .i64 (total - (hh - (q : Nat))), .slice (some ⟨b0, o0 + 1, none⟩) (N - 1) (c0 - 1), .slice (some ⟨b1, o1 + 1, none⟩) (N - 1) (c1 - 1)] W
      fun e w' => ∃ A c, e = .returned (.tuple #[.slice A (N - 1) c, .int .i64 (V q)]) ∧ Ints w' w'.heap.size .i64 A (Y q) ∧ Below W.heap.size W w') := fun q W hb hq => by
    have h := ih (total - (hh - (q : Int))) W hb (by omega) (by omega)
    rw [hV, hY, hN]
    rw [← hll] at h
    exact h
  have HC0 : Hid (∀ W, Below w.heap.size w W → W.cell? ⟨b0, o0, none⟩ = some (.int .i64 l)) := fun W hb => by
    obtain ⟨b', o', e, hlt, q⟩ := h0 0 (by simp)
    injection e with e; injection e with e1 e2
    subst e1 e2
    exact (hb.cell (p := ⟨b0, o0, none⟩) hlt).trans (by simpa using q)
  have HC1 : Hid (∀ W, Below w.heap.size w W → W.cell? ⟨b1, o1, none⟩ = some (.slice p.A p.l.length p.c)) := fun W hb => (hb.cell (p := ⟨b1, o1, none⟩) hbl).trans q0
  obtain ⟨G, hG⟩ : ∃ G : Nat → Int, G = fun q => U q + V q := ⟨_, rfl⟩
  obtain ⟨X, hX⟩ : ∃ X : Nat → List Int, X = fun q : Nat => (hh - (q : Int)) :: Y q := ⟨_, rfl⟩
  have hG0 : 0 ≤ G 0 := by rw [hG]; have := HU.out 0; have := HV.out 0; show 0 ≤ U 0 + V 0; omega
  have HRES : Hid (bestR (l :: ls) ((p :: p2 :: ps).map Cur.l) total = (outTo G X (k + 1), mostTo G (k + 1)) ∧ (outTo G X (k + 1)).length = N) := by
    refine Lib.hid ?_
    rw [out_best hG0, most_best hG0]
    refine ⟨?_, by rw [hX]; show (Y _).length + 1 = N; rw [HY.out, hN]; rfl⟩
    rw [hX, hG, hU, hV, hY, hk0, hhh]
    rfl
  have HG : Hid (∀ q, G q = U q + V q) := fun q => by rw [hG]
  have HX : Hid (∀ q, X q = [hh - (q : Int)] ++ Y q) := fun q => by rw [hX]; rfl
  have HMO : Hid (∀ q, mostTo G (q + 1) = if mostTo G q < G q then G q else mostTo G q) := fun _ => rfl
  have HXO : Hid (∀ q, outTo G X (q + 1) = if mostTo G q < G q then X q else outTo G X q) := fun _ => rfl
  have HMB : Hid (∀ q, -1 ≤ mostTo G q ∧ mostTo G q ≤ 76561193665298432) := fun q => by
    induction q with
    | zero => exact ⟨Int.le_refl _, by show (-1 : Int) ≤ _; omega⟩
    | succ q iq =>
      rw [HMO.out]
      have := HU.out q; have := HV.out q; have := HG.out q
      split <;> omega
  have HM0 : Hid (mostTo G 0 = -1 ∧ outTo G X 0 = []) := ⟨rfl, rfl⟩
  rw [HRES.out.1]
  obtain ⟨MO, hMO⟩ : ∃ M, M = mostTo G := ⟨_, rfl⟩
  obtain ⟨XO, hXO⟩ : ∃ M, M = outTo G X := ⟨_, rfl⟩
  have HLEN := Lib.hid HRES.out.2
  simp only [← hMO, ← hXO] at HMO HXO HMB HM0 HLEN ⊢
  clear HRES
  have hps : ps.length + 2 = N := by omega
  rw [hps, ← hN]
  have hN1 : ls.length = N - 1 := by omega
  rw [hN1] at HALL
  obtain ⟨R, hR⟩ : ∃ R, R = ls.sum := ⟨_, rfl⟩
  rw [← hR] at HALL hhh hR0
  obtain ⟨pl, hpl⟩ : ∃ x, x = p.l.length := ⟨_, rfl⟩
  rw [← hpl] at HAT HC1
  have N2 : (2 : Int) ≤ (N : Int) := by omega
  have N16 : (N : Int) ≤ 16 := by omega
  have hc0' : N ≤ c0 := by omega
  have hc1' : N ≤ c1 := by omega
  have h01 : (1 : Int) ≤ (c0 : Int) := by omega
  have h11 : (1 : Int) ≤ (c1 : Int) := by omega
  have d1 : ((N : Int) == 1) = false := by rw [beq_eq_false_iff_ne]; omega
  have hh0 : 0 ≤ hh := by omega
  have ht0 : 0 ≤ total := by omega
  have hh1 : hh ≤ 512 := by omega
  have hkl : (k : Int) = hh - l := by omega
  have HHH : Hid (wrap64 (total - R) = hh) := by refine Lib.hid ?_; unfold wrap64; omega
  clear h0 h1 hm ih hll q0 ok hsum hk0 hc HM hU hV hY hG hX hG0 hMO hXO hN hps hN1 hR hpl hc0 hc1 hk hhh
  go_enter Try.func16, Try.ntmps16
  go_wp2_with (go_at_call 24; with_reducible (refine Calls.mono (HALL.out _ (Below.refl _ w)) ?_); rintro e w2 ⟨rfl, rfl⟩)
  go_loopw [9, 10, 11] (fun u m i wr => ∃ (q : Nat) (A : Option Addr) (n' c : Nat), q ≤ k + 1 ∧ i = .int .i64 (hh - (q : Int)) ∧ m = .int .i64 (MO q) ∧ u = .slice A n' c ∧ n' = (XO q).length ∧ Ints wr wr.heap.size .i64 A (XO q) ∧ Below w.heap.size w wr) (fun _ _ i _ => (intOf i + 1).toNat)
  case atStart => exact ⟨0, none, 0, 0, by omega, by rw [HHH.out]; simp, by rw [HM0.out.1], rfl, by rw [HM0.out.2]; rfl, by rw [HM0.out.2]; exact Ints.nil w w.heap.size .i64 none, Below.refl _ _⟩
  case round =>
    obtain ⟨q, A, n', c, hq, rfl, rfl, rfl, hn', hI, hb⟩ := hrel
    have p0 := HC0.out wr hb
    by_cases hqk : q ≤ k
    · have t1 : l ≤ hh - (q : Int) := by omega
      have p1 := HC1.out wr hb
      have HCA := Lib.hid (HIH.out q wr.drew hb.drew hqk)
      have HAQ := Lib.hid (HAT.out q)
      have hbH := Lib.hid hb
      have hIH := Lib.hid hI
      have hb1 := HMB.out q
      have hu := HU.out q
      have hv := HV.out q
      have hm1 := HMO.out q
      have hx1 := HXO.out q
      have hg1 := HG.out q
      have hxq := HX.out q
      clear hI hb hqk
      go_wp2
      go_region_with (go_at_call 16; with_reducible (refine Calls.mono HCA.out ?_); rintro e w2 ⟨A2, c2, rfl, hI2, hb2⟩)
      all_goals
        have hb9 : Below w.heap.size w w2 := chain hbH.out.drew hb2
        have hI9 : Ints w2 w2.heap.size .i64 A (XO q) := (hIH.out.drew.below hb2).more hb2.size
        have p2 := HC1.out w2 hb9
        have HBL := Lib.hid hb9
        have HI9 := Lib.hid hI9
        have HI2 := Lib.hid hI2
        have hn1 := Lib.hid (nil_of_ints (c := c2) hI2 (by rw [HY.out]; omega))
        have HYQ := Lib.hid (HY.out q)
        have HAW := Lib.hid (HAQ.out w2 hb9)
        obtain ⟨u, hu'⟩ : ∃ u, u = U q := ⟨_, rfl⟩
        obtain ⟨v, hv'⟩ : ∃ v, v = V q := ⟨_, rfl⟩
        obtain ⟨M, hM⟩ : ∃ v, v = MO q := ⟨_, rfl⟩
        rw [← hu'] at HAW hu hg1
        rw [← hv'] at hv hg1
        rw [← hM] at hb1 hm1 hx1
        try rw [← hv']
        try rw [← hM]
        have u0 := hu.1
        have u1 := hu.2
        have v0 := hv.1
        have v1 := hv.2
        clear hI2 hb2 hb9 hI9 hbH hIH HCA p0 p1
        by_cases hlt : M < v + u
        · rw [if_pos (by omega)] at hm1 hx1
          rw [hg1] at hm1
          rw [hxq] at hx1
          have HM1 := Lib.hid hm1
          have HX1 := Lib.hid hx1
          clear hm1 hx1 hg1 hxq hu' hv' hM hu hv hb1
          go_wp2_with (first
            | (go_at_call 19; with_reducible (refine Calls.mono HAW.out ?_); rintro e w3 ⟨rfl, rfl⟩)
            | (at_builtin; refine wpList_append_when _ rfl (.tmp 59) (.tmp 60) 22 rfl w2.heap.size 3 i0 (.int .i64 0) 8 Try.underlying22 hi hz0 hz1 hz2 rfl .i64 (.slice (some ⟨w2.heap.size, 0, none⟩) 1 1) [hh - (q : Int)] (Y q) w2.heap.size c2 (N - 1) A2 HYQ.out rfl rfl ⟨rfl, .inr ⟨w2.heap.size, 1, #[.int .i64 (hh - (q : Int))], rfl, Nat.le_refl _, heap_alloc_new w2 _, Nat.le_refl _, by unfold maxLen; omega, rfl, rfl⟩⟩ (HI2.out.alloc (Nat.le_refl _) _) hn1.out ?d1 ?d2 (by simp) ?_))
          case d1 => rw [HYQ.out]; unfold maxLen; simp; omega
          case d2 => rw [HYQ.out]; simp; omega
          intro v4 w4 hown4 hg4 _
          have hb4 : Below w2.heap.size w2 w4 := ((Below.refl w2.heap.size w2).alloc (Nat.le_refl _) _).grown hg4 (by simp) fun q hq => by simp [Value.ownBlock] at hq; omega
          obtain ⟨A4, c4, rfl⟩ := own_slice hown4
          have R4 := Lib.hid (And.intro (Ints.of_own (k := .i64) (zs := (hh - (q : Int)) :: Y q) hown4) (chain HBL.out hb4))
          have HL4 : Hid ((Y q).length + 1 = (XO (q + 1)).length) := by refine Lib.hid ?_; rw [HX1.out]; rfl
          clear hown4 hg4 hb4
          obtain ⟨n4, hn4⟩ : ∃ n4, n4 = (Y q).length + 1 := ⟨_, rfl⟩
          try rw [← hn4]
          rw [← hn4] at HL4
          clear hn4
          go_wp2
          refine ⟨⟨q + 1, A4, _, c4, by omega, by congr 1; omega, by rw [HM1.out]; congr 1; omega, rfl, HL4.out, by rw [HX1.out]; exact R4.out.1, R4.out.2⟩, by simp [intOf]; omega⟩
        · rw [if_neg (by omega)] at hm1 hx1
          have HM1 := Lib.hid hm1
          have HX1 := Lib.hid hx1
          clear hm1 hx1 hg1 hxq hu' hv' hM hu hv hb1
          go_wp2_with (go_at_call 19; with_reducible (refine Calls.mono HAW.out ?_); rintro e w3 ⟨rfl, rfl⟩)
          refine ⟨⟨q + 1, A, _, c, by omega, by congr 1; omega, by rw [HM1.out], rfl, by rw [HX1.out], by rw [HX1.out]; exact HI9.out, HBL.out⟩, by simp [intOf]; omega⟩
    · have hqk : q = k + 1 := by omega
      subst hqk
      have t1 : ¬ l ≤ hh - ((k + 1 : Nat) : Int) := by omega
      rw [HLEN.out] at hn'
      subst hn'
      have HI9 := Lib.hid hI
      have HB9 := Lib.hid hb
      clear hI hb
      go_wp2
      go_ret2
      first | exact ⟨_, _, rfl, HI9.out, HB9.out⟩ | exact ⟨_, _, rfl, rfl, HI9.out, HB9.out⟩ | exact ⟨_, ⟨_, rfl⟩, HI9.out, HB9.out⟩

/-- 'Best', of what may be shared. -/
theorem refBest_any : ∀ (K : Nat) (total : Int) (A0 A1 : Option Addr) (c0 c1 : Nat) (L : List Int) (ps : List Cur) (w : World), ps.length = K + 1 → ps.length ≤ 16 → Ints w w.heap.size .i64 A0 L → Curs w w.heap.size A1 ps → May L (ps.map Cur.l) total → total ≤ 512 → L.length ≤ c0 → ps.length ≤ c1 →
    Calls Try.prog 16 #[.int .i64 total, .slice A0 L.length c0, .slice A1 ps.length c1] w fun e w' => ∃ A c, e = .returned (.tuple #[.slice A ps.length c, .int .i64 (bestR L (ps.map Cur.l) total).2]) ∧ Ints w' w'.heap.size .i64 A (bestR L (ps.map Cur.l) total).1 ∧ Below w.heap.size w w'
  | 0, total, A0, A1, c0, c1, L, ps, w, hk, h16, h0, h1, hm, ht, hc0, hc1 => by
    match ps, hk with
    | [p], _ =>
      match L, hm.len with
      | [l], _ =>
        have hr : bestR [l] ([p].map Cur.l) total = ([total], atN p.l total) := by simp [bestR]
        rw [hr]
        exact refBest_one total A0 A1 c0 c1 p w h1
  | K + 1, total, A0, A1, c0, c1, L, ps, w, hk, h16, h0, h1, hm, ht, hc0, hc1 => by
    match ps, hk with
    | p :: p2 :: rest, hk =>
      match L, hm.len with
      | l :: ls, hl =>
        obtain ⟨b0, o0, rfl, _, _⟩ := h0.at_ (by simp)
        obtain ⟨b1, o1, rfl, _, _, _⟩ := h1 0 (by simp)
        have hll : ls.length = rest.length + 1 := by simpa using hl
        have hkk : rest.length = K := by simpa using hk
        refine refBest_step total b0 o0 b1 o1 c0 c1 l ls p p2 rest w h0 h1 hm ht (by simpa using hc0) (by simpa using hc1) (by simpa using h16) fun t W hb q1 q2 => ?_
        have h := refBest_any K t (some ⟨b0, o0 + 1, none⟩) (some ⟨b1, o1 + 1, none⟩) (c0 - 1) (c1 - 1) ls (p2 :: rest) W (by simp; omega) (by simp at h16 ⊢; omega) ((h0.tail1.below hb).more hb.size) ((h1.tail1.below hb).more hb.size)
          (by have h9 := hm.tail (x := total - t) (by omega); rw [show total - (total - t) = t by omega] at h9; exact h9) (by have := hm.low l (List.mem_cons_self ..); omega) (by simp at hc0; omega) (by simp at hc1 ⊢; omega)
        exact h

end Go.Proofs.Ytnpdffcplgjbnaa
