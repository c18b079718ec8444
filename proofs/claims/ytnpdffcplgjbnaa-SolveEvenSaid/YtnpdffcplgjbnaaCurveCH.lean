/-
  The landed curve's corners: above, Hull.
-/
import Derived.Test.YtnpdffcplgjbnaaCurveC0
import Derived.Test.YtnpdffcplgjbnaaIntRow
import Derived.Test.YtnpdffcplgjbnaaCurveHullN
import Derived.Deep.DeepCutAuto
import Derived.Deep.RegionHeld3
namespace Go.Proofs.Ytnpdffcplgjbnaa
open Go.RowKit

theorem Try.infoI64h : (Try.prog.info? 3).map (fun i => (i.zero, i.size, i.bytes)) = some (some (.int .i64 0), 1, 8) := by kernel_rfl

set_option maxHeartbeats 1600000 in
set_option maxRecDepth 20000 in
/-- 'above'. -/
theorem aboveC_any (b0 o n : Nat) (c : List Int) (a s b : Nat) (w : World) (h : Ints w w.heap.size .i64 (some ⟨b0, o, none⟩) c) (hs : soundL c = true) (has : a < s) (hsb : s < b) (hb : b < c.length) :
    Calls Try.prog 39 #[.slice (some ⟨b0, o, none⟩) c.length n, .int .i64 (a : Nat), .int .i64 (s : Nat), .int .i64 (b : Nat)] w fun e w' => e = .returned (.bool (moreC c s a b)) ∧ ∃ m, w' = w.drewN m := by
  have qa := h.cell (i := a) (by omega)
  have qs := h.cell (i := s) (by omega)
  have qb := h.cell (i := b) hb
  have va := sound_bounds hs (a := a) (by omega)
  have vs := sound_bounds hs (a := s) (by omega)
  have vb := sound_bounds hs (a := b) hb
  have hl := ((soundL_iff c).1 hs).2.1
  have hm := more_line c s a b
  obtain ⟨V, hV⟩ : ∃ V, V = moreC c s a b := ⟨_, rfl⟩
  rw [← hV] at hm ⊢
  obtain ⟨X, hX⟩ : ∃ X, X = c.getD a 0 := ⟨_, rfl⟩
  obtain ⟨Y, hY⟩ : ∃ X, X = c.getD s 0 := ⟨_, rfl⟩
  obtain ⟨Z, hZ⟩ : ∃ X, X = c.getD b 0 := ⟨_, rfl⟩
  rw [← hX] at qa va hm
  rw [← hY] at qs vs hm
  rw [← hZ] at qb vb hm
  obtain ⟨u, hu⟩ : ∃ u : Nat, u = b - a := ⟨_, rfl⟩
  obtain ⟨v, hv⟩ : ∃ u : Nat, u = b - s := ⟨_, rfl⟩
  obtain ⟨t, ht⟩ : ∃ u : Nat, u = s - a := ⟨_, rfl⟩
  have eu : (b : Int) - a = (u : Int) := by omega
  have ev : (b : Int) - s = (v : Int) := by omega
  have et : (s : Int) - a = (t : Int) := by omega
  rw [eu, ev, et] at hm
  have bu := mul_bounds (x := Y) (y := (u : Int)) (X := 4503599627370496) (Y := 4096) vs.1 vs.2 (by omega) (by omega)
  have bv := mul_bounds (x := X) (y := (v : Int)) (X := 4503599627370496) (Y := (v : Int)) va.1 va.2 (by omega) (by omega)
  have bt := mul_bounds (x := Z) (y := (t : Int)) (X := 4503599627370496) (Y := (t : Int)) vb.1 vb.2 (by omega) (by omega)
  obtain ⟨P, hP⟩ : ∃ P, P = Y * (u : Int) := ⟨_, rfl⟩
  obtain ⟨Q, hQ⟩ : ∃ P, P = X * (v : Int) := ⟨_, rfl⟩
  obtain ⟨R, hR⟩ : ∃ P, P = Z * (t : Int) := ⟨_, rfl⟩
  rw [← hP] at hm bu
  rw [← hQ] at hm bv
  rw [← hR] at hm bt
  have hqr : Q + R < 18446744073709551616 := by omega
  have hpl : P < 18446744073709551616 := by
    have : Y * (u : Int) ≤ 4503599627370496 * 4095 := (mul_bounds (x := Y) (y := (u : Int)) (X := 4503599627370496) (Y := 4095) vs.1 vs.2 (by omega) (by omega)).2
    omega
  have n1 : (a : Int) < (c.length : Int) := by omega
  have n2 : (s : Int) < (c.length : Int) := by omega
  have n3 : (b : Int) < (c.length : Int) := by omega
  have a0 : (0 : Int) ≤ (a : Int) := by omega
  have s0 : (0 : Int) ≤ (s : Int) := by omega
  have b0' : (0 : Int) ≤ (b : Int) := by omega
  obtain ⟨N, hN⟩ : ∃ N, N = c.length := ⟨_, rfl⟩
  rw [← hN] at n1 n2 n3 hl ⊢
  have i1 : IntKind.i64.wrap ((b : Int) - a) = (u : Int) := by rw [eu]; exact IntWalk.i64_in _ (by omega)
  have i2 : IntKind.i64.wrap ((b : Int) - s) = (v : Int) := by rw [ev]; exact IntWalk.i64_in _ (by omega)
  have i3 : IntKind.i64.wrap ((s : Int) - a) = (t : Int) := by rw [et]; exact IntWalk.i64_in _ (by omega)
  have ua : IntKind.u64.wrap X = X := IntWalk.u64_in _ (by omega)
  have us : IntKind.u64.wrap Y = Y := IntWalk.u64_in _ (by omega)
  have ub : IntKind.u64.wrap Z = Z := IntWalk.u64_in _ (by omega)
  have uu : IntKind.u64.wrap (u : Int) = (u : Int) := IntWalk.u64_in _ (by omega)
  have uv : IntKind.u64.wrap (v : Int) = (v : Int) := IntWalk.u64_in _ (by omega)
  have ut : IntKind.u64.wrap (t : Int) = (t : Int) := IntWalk.u64_in _ (by omega)
  have up : IntKind.u64.wrap (Y * (u : Int)) = P := by rw [← hP]; exact IntWalk.u64_in _ (by omega)
  have uq : IntKind.u64.wrap (X * (v : Int)) = Q := by rw [← hQ]; exact IntWalk.u64_in _ (by omega)
  have ur : IntKind.u64.wrap (Z * (t : Int)) = R := by rw [← hR]; exact IntWalk.u64_in _ (by omega)
  have usum : IntKind.u64.wrap (Q + R) = Q + R := IntWalk.u64_in _ (by omega)
  have HM := Lib.hid hm
  clear h hs hm hV hX hY hZ hu hv ht eu ev et bu bv bt hP hQ hR hN va vs vb hl
  go_enter Try.func39, Try.ntmps39
  go_wp2
  go_quiet (fail)
  go_wp2
  go_ret
  exact ⟨by rw [HM.out]; first | rfl | simp, nq, rfl⟩

/-- The corners of the first k sizes, as integers. -/
def cornersI (c : List Int) (k : Nat) : List Int := (cornersTo c k).map fun s : Nat => (s : Int)
theorem cornersI_len (c : List Int) (k : Nat) : (cornersI c k).length = (cornersTo c k).length := by simp [cornersI]
theorem cornersI_at (c : List Int) (k : Nat) {i n : Nat} (hi : i < (cornersTo c k).length) (hn : i < n) : ((cornersI c k).take n).getD i 0 = (((cornersTo c k).getD i 0 : Nat) : Int) := by
  simp [cornersI, List.getD, hi, hn]

set_option maxHeartbeats 3200000 in
set_option maxRecDepth 20000 in
/-- 'Hull'. -/
theorem hullC_any (A : Option Addr) (n0 : Nat) (c : List Int) (w : World) (h : Ints w w.heap.size .i64 A c) (hs : soundL c = true) :
    Calls Try.prog 36 #[.slice A c.length n0] w fun e w' => ∃ A' c', e = .returned (.tuple #[.slice A' (hullL c).length c', .int .i64 0]) ∧ (hullL c).length ≤ c' ∧ Ints w' w'.heap.size .i64 A' (hullL c) ∧ Below w.heap.size w w' := by
  obtain ⟨i0, hif, hz0, hz1, hz2⟩ := info_parts Try.infoI64h
  obtain ⟨h1, h2, _, _⟩ := (soundL_iff c).1 hs
  have HSO := Lib.hid (soundC_any A n0 c w h (by omega))
  rw [hs] at HSO
  obtain ⟨bA, oA, rfl, hbA, hcA⟩ := h.at_ h1
  have HAB : Hid (∀ (W : World) (a s b : Nat), Below w.heap.size w W → a < s → s < b → b < c.length → Calls Try.prog 39 #[.slice (some ⟨bA, oA, none⟩) c.length n0, .int .i64 (a : Nat), .int .i64 (s : Nat), .int .i64 (b : Nat)] W fun e w' => e = .returned (.bool (moreC c s a b)) ∧ ∃ m, w' = W.drewN m) :=
    fun W a s b hb q1 q2 q3 => aboveC_any bA oA n0 c a s b W ((h.below hb).more hb.size) hs q1 q2 q3
  have HLT : Hid (∀ k i j, k ≤ c.length → i < j → j < (cornersTo c k).length → (cornersTo c k).getD i 0 < (cornersTo c k).getD j 0) := fun k i j a b d => cornersTo_lt a b d
  have HAT : Hid (∀ k i, k ≤ c.length → i < (cornersTo c k).length → (cornersTo c k).getD i 0 < k) := fun k i a b => (cornersTo_at a b).2
  have HPOP : Hid (∀ k n, k < c.length → 1 < n → n ≤ (cornersTo c k).length → moreC c ((cornersTo c k).getD (n - 1) 0) ((cornersTo c k).getD (n - 2) 0) k = false → cornerB (c.take (k + 1)) ((cornersTo c k).getD (n - 1) 0) = false) := fun k n a b d e => corner_pop a b d e
  have HSUC : Hid (∀ k n, k < c.length → n ≤ (cornersTo c k).length → (1 < n → moreC c ((cornersTo c k).getD (n - 1) 0) ((cornersTo c k).getD (n - 2) 0) k = true) → (∀ j, n ≤ j → j < (cornersTo c k).length → cornerB (c.take (k + 1)) ((cornersTo c k).getD j 0) = false) → cornersI c (k + 1) = (cornersI c k).take n ++ [(k : Int)]) := fun k n a b d e => by
    unfold cornersI; rw [cornersTo_succ a b d e, List.map_append, List.map_take]; rfl
  have HPOS : Hid (∀ k, k ≤ c.length → 1 ≤ k → 1 ≤ (cornersTo c k).length) := fun k a b => cornersTo_pos c a b
  have HLE : Hid (∀ k, k ≤ c.length → (cornersTo c k).length ≤ k) := fun k a => by
    rw [cornersTo_range c a]
    exact Nat.le_trans (List.length_filter_le _ _) (by rw [List.length_range]; exact Nat.le_refl _)
  have HH0 : Hid (cornersI c 0 = []) := rfl
  have HHE : Hid (hullL c = cornersI c c.length) := by unfold Hid cornersI; rw [cornersTo_all]; exact hull_corner c
  obtain ⟨N, hN⟩ : ∃ N, N = c.length := ⟨_, rfl⟩
  simp only [← hN] at HSO HAB HLT HAT HPOP HSUC HPOS HHE HLE h2
  rw [← hN, HHE.out]
  have n1 : (N : Int) ≤ 4096 := by omega
  clear h hs h1 h2 hbA hcA hN HHE
  go_enter Try.func36, Try.ntmps36
  go_wp2_with (go_at_call 38; with_reducible (refine Calls.mono HSO.out ?_); rintro e w1 ⟨rfl, rfl⟩)
  go_loopw [4, 12] (fun v i wr => ∃ s : Nat, s ≤ N ∧ i = .int .i64 s ∧ (∃ A c', v = .slice A (cornersI c s).length c') ∧ Hid (wr.ownsRow w.heap.size 3 1 v (cornersI c s).length ((cornersI c s).map (Value.int .i64)) ∧ Below w.heap.size w wr)) (fun _ i _ => N - (intOf i).toNat)
  case atStart =>
    refine ⟨0, Nat.zero_le _, rfl, ?_, ?_⟩
    · rw [HH0.out]; exact ⟨_, _, rfl⟩
    · rw [HH0.out]; exact ⟨⟨rfl, Or.inl ⟨rfl, rfl⟩⟩, Below.refl _ _⟩
  case round =>
    obtain ⟨s, hsN, rfl, ⟨A1, c1, rfl⟩, hS⟩ := hrel
    clear HSO
    by_cases hlt : s < N
    · have s1 : (s : Int) < (N : Int) := by omega
      have s0 : (0 : Int) ≤ (s : Int) := by omega
      have hll := cornersI_len c s
      obtain ⟨L, hL⟩ : ∃ L, L = (cornersI c s).length := ⟨_, rfl⟩
      have HSU := Lib.hid (HSUC.out s)
      have HPO := Lib.hid (HPOP.out s)
      have HPS := Lib.hid (HPOS.out s hsN)
      have HLS := Lib.hid (fun i j => HLT.out s i j hsN)
      have HAS := Lib.hid (fun i => HAT.out s i hsN)
      rw [← hL] at hll
      simp only [← hll] at HSU HPO HPS HLS HAS
      have HTK : Hid (∀ i n, i < L → i < n → ((cornersI c s).take n).getD i 0 = (((cornersTo c s).getD i 0 : Nat) : Int)) := fun i n a b => cornersI_at c s (by omega) b
      have hLs : L ≤ s := by rw [hll]; exact HLE.out s hsN
      have hst : (L : Int) ≤ 4096 := by omega
      have HSown : Hid (wr.ownsRow w.heap.size 3 1 (.slice A1 L c1) L (((cornersI c s).take L).map (Value.int .i64)) ∧ Below w.heap.size w wr) := by
        rw [hL]; rw [List.take_length]; exact hS.out
      rw [← hL]
      clear hS HSUC HPOP HPOS HLT HAT HLE HH0 hL
      obtain ⟨T, hT⟩ : ∃ T : Nat → Nat, T = fun i => (cornersTo c s).getD i 0 := ⟨_, rfl⟩
      have hTT : ∀ i, (cornersTo c s).getD i 0 = T i := fun i => by rw [hT]
      simp only [hTT] at HSU HPO HLS HAS HTK
      obtain ⟨Z, hZ⟩ : ∃ Z, Z = cornersI c s := ⟨_, rfl⟩
      have hZl : L = Z.length := by rw [hZ, cornersI_len]; exact hll
      have HZl := Lib.hid hZl
      simp only [← hZ] at HSU HTK HSown
      obtain ⟨G, hG⟩ : ∃ G : Nat → Bool, G = fun j => cornerB (c.take (s + 1)) (T j) := ⟨_, rfl⟩
      have hGG : ∀ i, cornerB (c.take (s + 1)) (T i) = G i := fun i => by rw [hG]
      simp only [hGG] at HSU HPO
      clear hll hT hTT hZ hZl hG hGG
      go_wp2
      go_loopw [4, 6] (fun v i wi => ∃ (n : Nat) (A : Option Addr) (c' : Nat), v = .slice A n c' ∧ i = .int .i64 n ∧ n ≤ L ∧ Hid (1 ≤ L → 1 ≤ n) ∧ Hid (∀ j, n ≤ j → j < L → G j = false) ∧ Hid (wi.ownsRow w.heap.size 3 1 (.slice A n c') n ((Z.take n).map (Value.int .i64)) ∧ Below w.heap.size w wi)) (fun _ i _ => (intOf i).toNat)
      case atStart => exact ⟨L, A1, c1, rfl, rfl, Nat.le_refl _, fun h => h, fun j a b => by omega, HSown.out⟩
      case round =>
        obtain ⟨n, A2, c2, rfl, rfl, hnL, hpos, hpop, hown⟩ := hrel
        clear HSown
        by_cases h2n : 2 ≤ n
        · obtain ⟨q, rfl⟩ : ∃ q, n = q + 2 := ⟨n - 2, by omega⟩
          have hlq := HLS.out q (q + 1) (by omega) (by omega)
          have has := HAS.out (q + 1) (by omega)
          obtain ⟨hown1, hbel1⟩ := hown.out
          have hABq := HAB.out wr (T q) (T (q + 1)) s hbel1 hlq has hlt
          have HABN : Hid (∀ m, Calls Try.prog 39 #[.slice (some ⟨bA, oA, none⟩) N n0, .int .i64 (T q : Nat), .int .i64 (T (q + 1) : Nat), .int .i64 (s : Nat)] (wr.drewN m) fun e w' => e = .returned (.bool (moreC c (T (q + 1)) (T q) s)) ∧ ∃ k, w' = (wr.drewN m).drewN k) :=
            fun m => HAB.out (wr.drewN m) (T q) (T (q + 1)) s (below_drewN hbel1 m) hlq has hlt
          have hTl : (Z.take (q + 2)).length = q + 2 := by rw [List.length_take]; have := HZl.out; omega
          have hI : Ints wr wr.heap.size .i64 A2 (Z.take (q + 2)) := Ints.of_own (n := q + 2) (c := c2) (by rw [hTl]; exact hown1)
          obtain ⟨g, o, rfl, _, hcl⟩ := hI.at_ (by omega)
          have e0 := hcl q (by omega)
          have e1 := hcl (q + 1) (by omega)
          rw [HTK.out q (q + 2) (by omega) (by omega)] at e0
          rw [HTK.out (q + 1) (q + 2) (by omega) (by omega)] at e1
          have hc2 := own_le hown1
          have HPQ := HPO.out (q + 2) hlt (by omega) hnL
          rw [show q + 2 - 1 = q + 1 by omega, show q + 2 - 2 = q by omega] at HPQ
          obtain ⟨V, hV⟩ : ∃ V, V = moreC c (T (q + 1)) (T q) s := ⟨_, rfl⟩
          rw [← hV] at HABN HPQ
          have HV := Lib.hid hV
          obtain ⟨x0, hx0⟩ : ∃ x, x = T q := ⟨_, rfl⟩
          obtain ⟨x1, hx1⟩ : ∃ x, x = T (q + 1) := ⟨_, rfl⟩
          rw [← hx0, ← hx1] at HABN
          rw [← hx0] at e0
          rw [← hx1] at e1
          have m1 : (1 : Int) < (q : Int) + 2 := by omega
          have m2 : (q : Int) < (q : Int) + 2 := by omega
          have m3 : (q : Int) + 1 < (q : Int) + 2 := by omega
          have m4 : (q : Int) + 2 ≤ 4096 := by omega
          have m5 : (0 : Int) ≤ (q : Int) := by omega
          have w2 : IntKind.i64.wrap ((q : Int) + 2 - 2) = (q : Int) := by rw [show (q : Int) + 2 - 2 = (q : Int) by omega]; exact IntWalk.i64_in _ (by omega)
          have w1 : IntKind.i64.wrap ((q : Int) + 2 - 1) = (q : Int) + 1 := by rw [show (q : Int) + 2 - 1 = (q : Int) + 1 by omega]; exact IntWalk.i64_in _ (by omega)
          cases V
          · have hp := HPQ rfl
            have R : Hid ((1 ≤ L → 1 ≤ q + 1) ∧ (∀ j, q + 1 ≤ j → j < L → G j = false) ∧ ∀ m, (wr.drewN m).ownsRow w.heap.size 3 1 (.slice (some ⟨g, o, none⟩) (q + 1) c2) (q + 1) ((Z.take (q + 1)).map (Value.int .i64)) ∧ Below w.heap.size w (wr.drewN m)) := by
              refine ⟨fun _ => by omega, fun j a b => ?_, fun m => ⟨?_, below_drewN hbel1 m⟩⟩
              · by_cases e : j = q + 1
                · rw [e]; exact hp
                · exact hpop.out j (by omega) b
              · have := own_head hown1 (show q + 1 ≤ q + 2 by omega)
                rw [← List.map_take, List.take_take, show min (q + 1) (q + 2) = q + 1 by omega] at this
                exact this
            have hc3 : q + 1 ≤ c2 := by omega
            have hc4 : (q : Int) + 1 ≤ (c2 : Int) := by omega
            clear hpop hpos hown hown1 hbel1 hABq hI hTl hcl HPQ hV hx0 hx1 hlq has hp hc2
            go_wp2
            go_quiet ((go_at_call 39; with_reducible (refine Calls.quiet_of (HABN.out _))))
            go_wp2
            go_roundw
            case rel => first | exact ⟨q + 1, some ⟨g, o, none⟩, c2, by go_num, by go_num, by omega, R.out.1, R.out.2.1, R.out.2.2 nq⟩ | ((repeat apply Exists.intro); exact ⟨⟨q + 1, some ⟨g, o, none⟩, c2, by go_num, by go_num, by omega, R.out.1, R.out.2.1, R.out.2.2 nq⟩, rfl⟩)
            case measure => first | (simp [intOf]; done) | (simp [intOf]; omega)
          · have HNX := Lib.hid (HSU.out (q + 2) hlt hnL (fun _ => by rw [show q + 2 - 1 = q + 1 by omega, show q + 2 - 2 = q by omega]; exact HV.out.symm) hpop.out)
            have HTL := Lib.hid hTl
            have hn4 : q + 2 ≤ 4096 := by omega
            have HO := Lib.hid (fun m => (⟨hown1, below_drewN hbel1 m⟩ : (wr.drewN m).ownsRow w.heap.size 3 1 (.slice (some ⟨g, o, none⟩) (q + 2) c2) (q + 2) ((Z.take (q + 2)).map (Value.int .i64)) ∧ Below w.heap.size w (wr.drewN m)))
            clear hown1 hbel1 hABq hI hTl hcl HPQ hV hx0 hx1 hlq has hc2
            go_wp2
            go_quiet ((go_at_call 39; with_reducible (refine Calls.quiet_of (HABN.out _))))
            obtain ⟨hown2, hbel2⟩ := HO.out nq
            obtain ⟨W2, hW2⟩ : ∃ x, x = wr.drewN nq := ⟨_, rfl⟩
            rw [← hW2] at hown2 hbel2 ⊢
            clear hW2 HO HABN e0 e1
            clear hown hpop hpos HPO HPS HLS HAS HTK HAB HSU
            go_wp2_with (at_builtin; refine wpList_append_own_at _ rfl _ _ 22 rfl w.heap.size 3 i0 (.int .i64 0) 1 8 Try.underlying22 hif hz0 hz1 hz2 rfl (by decide) _ _ _ rfl (hown2.alloc _) ⟨W2.heap.size, 0, none⟩ 1 1 [.int .i64 (s : Int)] rfl rfl (cell_one_new _ _ _) ?d1 ?d2 ?d3 ?d4 ?_)
            case d1 => first | rfl | (intro u hu; simp at hu; subst hu; rfl)
            case d2 => unfold maxLen; omega
            case d3 => omega
            case d4 => have := hbel2.size; simp; omega
            intro v3 w3 hown3 hg3 _ _
            have R9 : Hid (w3.ownsRow w.heap.size 3 1 v3 (cornersI c (s + 1)).length ((cornersI c (s + 1)).map (Value.int .i64)) ∧ Below w.heap.size w w3 ∧ (cornersI c (s + 1)).length = (q + 2) + 1) := by
              refine ⟨?_, (hbel2.alloc hbel2.size _).grown hg3 (by have := hbel2.size; simp; omega) fun q hq => (hown2.lt q hq).1, ?_⟩
              · rw [HNX.out, List.map_append, List.length_append, HTL.out, List.map_take]; exact hown3
              · rw [HNX.out, List.length_append, HTL.out]; rfl
            obtain ⟨A3, c3, rfl⟩ := own_slice R9.out.1
            clear hown2 hbel2 hown3 hg3
            go_wp2
            go_roundw
            case rel => first | exact ⟨s + 1, by omega, by go_num, ⟨A3, c3, rfl⟩, R9.out.1, R9.out.2.1⟩ | ((repeat apply Exists.intro); exact ⟨⟨s + 1, by omega, by go_num, ⟨A3, c3, rfl⟩, R9.out.1, R9.out.2.1⟩, rfl⟩) | ((repeat apply Exists.intro); exact ⟨⟨s + 1, by omega, by go_num, ⟨A3, c3, by rw [R9.out.2.2]⟩, R9.out.1, R9.out.2.1⟩, rfl⟩)
            case measure => first | (simp [intOf]; done) | (simp [intOf]; omega)
        · have HNX := Lib.hid (HSU.out n hlt hnL (fun h => absurd h (by omega)) hpop.out)
          obtain ⟨hown2, hbel2⟩ := hown.out
          have HTL : Hid ((Z.take n).length = n) := by unfold Hid; rw [List.length_take]; have := HZl.out; omega
          have hn4 : n ≤ 4096 := by omega
          have d1 : decide ((1 : Int) < (n : Int)) = false := decide_eq_false (by omega)
          go_wp2
          go_quiet (fail)
          obtain ⟨W2, hW2⟩ : ∃ x, x = wr.drewN nq := ⟨_, rfl⟩
          have hown4 : W2.ownsRow w.heap.size 3 1 (.slice A2 n c2) n ((Z.take n).map (Value.int .i64)) := by rw [hW2]; exact hown2
          have hbel4 : Below w.heap.size w W2 := by rw [hW2]; exact below_drewN hbel2 nq
          rw [← hW2]
          replace hown2 := hown4
          replace hbel2 := hbel4
          clear hW2 hown4 hbel4
          clear hown hpop hpos HPO HPS HLS HAS HTK HAB HSU
          go_wp2_with (at_builtin; refine wpList_append_own_at _ rfl _ _ 22 rfl w.heap.size 3 i0 (.int .i64 0) 1 8 Try.underlying22 hif hz0 hz1 hz2 rfl (by decide) _ _ _ rfl (hown2.alloc _) ⟨W2.heap.size, 0, none⟩ 1 1 [.int .i64 (s : Int)] rfl rfl (cell_one_new _ _ _) ?d1 ?d2 ?d3 ?d4 ?_)
          case d1 => first | rfl | (intro u hu; simp at hu; subst hu; rfl)
          case d2 => unfold maxLen; omega
          case d3 => omega
          case d4 => have := hbel2.size; simp; omega
          intro v3 w3 hown3 hg3 _ _
          have R9 : Hid (w3.ownsRow w.heap.size 3 1 v3 (cornersI c (s + 1)).length ((cornersI c (s + 1)).map (Value.int .i64)) ∧ Below w.heap.size w w3 ∧ (cornersI c (s + 1)).length = n + 1) := by
            refine ⟨?_, (hbel2.alloc hbel2.size _).grown hg3 (by have := hbel2.size; simp; omega) fun q hq => (hown2.lt q hq).1, ?_⟩
            · rw [HNX.out, List.map_append, List.length_append, HTL.out, List.map_take]; exact hown3
            · rw [HNX.out, List.length_append, HTL.out]; rfl
          obtain ⟨A3, c3, rfl⟩ := own_slice R9.out.1
          clear hown2 hbel2 hown3 hg3
          go_wp2
          go_roundw
          case rel => first | exact ⟨s + 1, by omega, by go_num, ⟨A3, c3, rfl⟩, R9.out.1, R9.out.2.1⟩ | ((repeat apply Exists.intro); exact ⟨⟨s + 1, by omega, by go_num, ⟨A3, c3, rfl⟩, R9.out.1, R9.out.2.1⟩, rfl⟩) | ((repeat apply Exists.intro); exact ⟨⟨s + 1, by omega, by go_num, ⟨A3, c3, by rw [R9.out.2.2]⟩, R9.out.1, R9.out.2.1⟩, rfl⟩)
          case measure => first | (simp [intOf]; done) | (simp [intOf]; omega)
    · have hk8 : s = N := by omega
      have k1 : ¬ (s : Int) < (N : Int) := by omega
      have R9 : Hid ((cornersI c s).length ≤ c1 ∧ Ints wr wr.heap.size .i64 A1 (cornersI c s) ∧ Below w.heap.size w wr) := ⟨own_le hS.out.1, Ints.of_own (n := (cornersI c s).length) (c := c1) hS.out.1, hS.out.2⟩
      have HS := Lib.hid hk8
      clear hS HSUC HPOP HPOS HLT HAT HLE HH0 HAB hk8
      go_wp2
      go_ret2
      rw [← HS.out]
      exact ⟨A1, c1, rfl, R9.out.1, R9.out.2.1, R9.out.2.2⟩

set_option maxHeartbeats 800000 in
theorem hullC_bad (A : Option Addr) (n0 : Nat) (c : List Int) (w : World) (h : Ints w w.heap.size .i64 A c) (hm : c.length ≤ 9223372036854775807) (hs : soundL c = false) :
    Calls Try.prog 36 #[.slice A c.length n0] w fun e w' => e = .returned (.tuple #[.slice none 0 0, .int .i64 2]) ∧ w = w' := by
  have HSO := Lib.hid (soundC_any A n0 c w h hm)
  rw [hs] at HSO
  clear h hm hs
  go_enter Try.func36, Try.ntmps36
  go_wp2_with (go_at_call 38; with_reducible (refine Calls.mono HSO.out ?_); rintro e w1 ⟨rfl, rfl⟩)
  go_ret2
  exact ⟨rfl, rfl⟩

end Go.Proofs.Ytnpdffcplgjbnaa
