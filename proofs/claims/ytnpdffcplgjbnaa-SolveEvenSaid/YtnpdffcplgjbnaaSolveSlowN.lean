/-
  Curves whose gains never grow; curves built one behind another; the document's own 'Slower'.
-/
import Derived.Test.YtnpdffcplgjbnaaSolveCurvN
import Derived.Deep.AppendLies
namespace Go.Proofs.Ytnpdffcplgjbnaa
open Go.RowKit

/-! ### Plain -/
def lastM (r : List Int) : Nat → Int
  | 0 => 65535
  | k + 1 => min (lastM r k) (r.getD k 0)
def slowV (r : List Int) : Nat → Int
  | 0 => 0
  | k + 1 => slowV r k + lastM r (k + 1)
def slowTo (r : List Int) (k : Nat) : List Int := (List.range (k + 1)).map (slowV r)
def slowC (r : List Int) : List Int := slowTo r (min r.length 100)
theorem slowTo_succ (r : List Int) (k : Nat) : slowTo r (k + 1) = slowTo r k ++ [slowV r (k + 1)] := by unfold slowTo; rw [List.range_succ, List.map_append]; rfl
theorem slowTo_len (r : List Int) (k : Nat) : (slowTo r k).length = k + 1 := by simp [slowTo]
theorem slowTo_at {r : List Int} {n i : Nat} (h : i ≤ n) : (slowTo r n).getD i 0 = slowV r i := by
  unfold slowTo
  rw [List.getD_eq_getElem?_getD, List.getElem?_map, List.getElem?_range (by omega)]; rfl
theorem getD_u16 {r : List Int} (h : ∀ z ∈ r, 0 ≤ z ∧ z ≤ 65535) (k : Nat) : 0 ≤ r.getD k 0 ∧ r.getD k 0 ≤ 65535 := by
  rw [List.getD_eq_getElem?_getD]
  by_cases hk : k < r.length
  · rw [List.getElem?_eq_getElem hk]; exact h _ (List.getElem_mem hk)
  · rw [List.getElem?_eq_none (by omega)]; exact ⟨Int.le_refl _, by decide⟩
theorem lastM_bounds {r : List Int} (h : ∀ z ∈ r, 0 ≤ z ∧ z ≤ 65535) : ∀ k : Nat, 0 ≤ lastM r k ∧ lastM r k ≤ 65535
  | 0 => by simp [lastM]
  | k + 1 => by
    have := lastM_bounds h k
    have := getD_u16 h k
    unfold lastM
    omega
theorem slowV_bounds {r : List Int} (h : ∀ z ∈ r, 0 ≤ z ∧ z ≤ 65535) : ∀ k : Nat, 0 ≤ slowV r k ∧ slowV r k ≤ 65535 * (k : Int)
  | 0 => by simp [slowV]
  | k + 1 => by
    have := slowV_bounds h k
    have := lastM_bounds h (k + 1)
    unfold slowV
    omega
theorem slow_sound {r : List Int} (h : ∀ z ∈ r, 0 ≤ z ∧ z ≤ 65535) : soundL (slowC r) = true := by
  unfold slowC
  obtain ⟨m, hm⟩ : ∃ m, m = min r.length 100 := ⟨_, rfl⟩
  rw [← hm]
  have hm1 : m ≤ 100 := by omega
  rw [soundL_iff]
  refine ⟨by rw [slowTo_len]; omega, by rw [slowTo_len]; omega, by rw [slowTo_at (by omega)]; exact Int.le_refl _, fun i hi => ?_⟩
  rw [slowTo_len] at hi
  have := slowV_bounds h i
  unfold soundAt
  rw [Bool.and_eq_true, Bool.or_eq_true, decide_eq_true_eq, decide_eq_true_eq, decide_eq_true_eq, slowTo_at (by omega)]
  refine ⟨by omega, ?_⟩
  by_cases h0 : i = 0
  · exact .inl h0
  · obtain ⟨k, rfl⟩ : ∃ k, i = k + 1 := ⟨i - 1, by omega⟩
    rw [Nat.add_sub_cancel, slowTo_at (by omega)]
    right
    have := lastM_bounds h (k + 1)
    show slowV r k ≤ slowV r k + lastM r (k + 1)
    omega
theorem slow_atN (r : List Int) (n : Nat) : atN (slowC r) (n : Int) = slowV r (min n (min r.length 100)) := by
  unfold slowC
  obtain ⟨m, hm⟩ : ∃ m, m = min r.length 100 := ⟨_, rfl⟩
  rw [← hm]
  unfold atN
  rw [slowTo_len]
  by_cases h1 : n < m + 1
  · rw [if_neg (by omega), if_neg (by omega), Int.toNat_natCast, slowTo_at (by omega), Nat.min_eq_left (by omega)]
  · rw [if_neg (by omega), if_pos (by omega)]
    rw [slowTo_at (by omega), Nat.min_eq_right (by omega)]
    congr 1
/-- No gain ever grows. -/
theorem slow_gain {r : List Int} (h : ∀ z ∈ r, 0 ≤ z ∧ z ≤ 65535) (n : Nat) : gainF (fun n => atN (slowC r) (n : Int)) (n + 1) ≤ gainF (fun n => atN (slowC r) (n : Int)) n := by
  unfold gainF
  simp only []
  rw [slow_atN, slow_atN, slow_atN]
  obtain ⟨m, hm⟩ : ∃ m, m = min r.length 100 := ⟨_, rfl⟩
  rw [← hm]
  have b1 := lastM_bounds h (n + 1)
  have b2 := lastM_bounds h (n + 2)
  have hle : lastM r (n + 2) ≤ lastM r (n + 1) := by
    show min (lastM r (n + 1)) (r.getD (n + 1) 0) ≤ _
    omega
  have e1 : slowV r (n + 1) = slowV r n + lastM r (n + 1) := rfl
  have e2 : slowV r (n + 2) = slowV r (n + 1) + lastM r (n + 2) := rfl
  rcases Nat.lt_trichotomy (n + 1) m with g | g | g
  · rw [show min (n + 1 + 1) m = n + 2 by omega, show min (n + 1) m = n + 1 by omega, show min n m = n by omega]
    omega
  · rw [show min (n + 1 + 1) m = n + 1 by omega, show min (n + 1) m = n + 1 by omega, show min n m = n by omega]
    omega
  · rw [show min (n + 1 + 1) m = m by omega, show min (n + 1) m = m by omega, show min n m = m by omega]
    omega
/-- Slot by slot they are as good as the best. -/
theorem slow_best {cs : List (List Int)} {k : Int} {K : Nat} (h0 : 0 ≤ k) (hK : cs.length = K) (h1 : 1 ≤ K) (hs : ∀ c ∈ cs, soundL c = true) (hg : ∀ c ∈ cs, ∀ n : Nat, gainF (fun n => atN c (n : Int)) (n + 1) ≤ gainF (fun n => atN c (n : Int)) n) :
    bringL cs (giveL cs (List.replicate K 0) k.toNat) = (bestR (List.replicate K 0) cs k).2 := by
  have hm : May (List.replicate K 0) cs k := ⟨by simp [hK], by omega, fun z hz => by rw [(List.mem_replicate.1 hz).2]; exact Int.le_refl _, by rw [rep_sum]; exact h0, hs⟩
  obtain ⟨s1, s2, _, s4⟩ := bestR_spec cs (List.replicate K 0) k hm
  obtain ⟨B, hB⟩ : ∃ B, B = (bestR (List.replicate K 0) cs k).1 := ⟨_, rfl⟩
  rw [← hB] at s1 s2
  obtain ⟨G, hG⟩ : ∃ G, G = giveL cs (List.replicate K 0) k.toNat := ⟨_, rfl⟩
  have hGl : G.length = K := by rw [hG, giveL_len, List.length_replicate]
  have hGs : Shares (List.replicate K 0) k G := ⟨by rw [hGl, List.length_replicate], by rw [hG, giveL_sum _ _ (by simp [hK]) (by omega), rep_sum]; omega, fun i hi => by
    rw [hG]; exact giveL_ge cs _ _ i hi⟩
  have hle := s4 G hGs
  rw [← hG]
  refine Int.le_antisymm hle ?_
  rw [s2, bringL_sum cs B (s1.len.trans (by simp [hK])), bringL_sum cs G (hGl.trans hK.symm), hK]
  have hf := giveL_fun cs (List.replicate K 0) (by simp [hK]) (by omega) (fun i _ => by rw [rep_zero]; exact Int.le_refl _) k.toNat
  have hz : (fun i => ((List.replicate K (0 : Int)).getD i 0).toNat) = fun _ => 0 := by funext i; rw [rep_zero]; rfl
  rw [hz, ← hG, hK] at hf
  have hmem : ∀ i, i < K → cs.getD i [] ∈ cs := fun i hi => by rw [List.getD_eq_getElem?_getD, List.getElem?_eq_getElem (by rw [hK]; exact hi)]; exact List.getElem_mem _
  have hB0 : ∀ i, i < K → 0 ≤ B.getD i 0 := fun i hi => by
    have := s1.low i (by rw [List.length_replicate]; exact hi)
    rwa [rep_zero] at this
  have hBs : sumZ (fun i => ((B.getD i 0).toNat : Int)) K = k := by
    have e : ∀ (l : List Int) (n : Nat), n ≤ l.length → sumZ (fun i => l.getD i 0) n = sumK l n := fun l n => by
      induction n with
      | zero => intro _; rfl
      | succ n ih =>
        intro hn
        rw [sumK_succ l (by omega)]
        unfold sumZ
        rw [ih (by omega)]
    rw [sumZ_same (g := fun i => B.getD i 0) K (fun i hi => by have := hB0 i hi; omega), e B K (by have := s1.len; rw [List.length_replicate] at this; omega), ← s1.sum]
    unfold sumK
    rw [List.take_of_length_le (by have := s1.len; rw [List.length_replicate] at this; omega)]
  have hb := greedy_best (K := K - 1) (F := fun i n => atN (cs.getD i []) (n : Int)) (fun i hi n => hg _ (hmem i (by omega)) n) (fun _ => 0) (fun i => (B.getD i 0).toNat) k.toNat (fun i _ => Nat.zero_le _) (by
    rw [show K - 1 + 1 = K by omega, hBs]
    have h9 : ∀ n : Nat, sumZ (fun _ : Nat => ((0 : Nat) : Int)) n = 0 := fun n => by
      induction n with
      | zero => rfl
      | succ n ih => unfold sumZ; rw [ih]; rfl
    rw [h9]; omega)
  rw [show K - 1 + 1 = K by omega] at hb
  rw [sumZ_same (f := bring cs B) (g := fun i => atN (cs.getD i []) ((B.getD i 0).toNat : Int)) K (fun i hi => by
      unfold bring
      rw [Int.toNat_of_nonneg (hB0 i hi)]),
    sumZ_same (f := bring cs G) (g := fun i => atN (cs.getD i []) ((greedyS (fun i n => atN (cs.getD i []) (n : Int)) (K - 1) k.toNat (fun _ => 0) i : Nat) : Int)) K (fun i hi => by
      unfold bring
      rw [hf i (by rw [List.length_replicate]; exact hi)])]
  exact hb

theorem solveE_zeros {k : Int} {K : Nat} {cs : List (List Int)} (h0 : 0 ≤ k) (h1 : k ≤ 512) (hl : cs.length = K) (hK : 1 ≤ K ∧ K ≤ 16) (hc : ∀ c ∈ cs, soundL c = true) : solveE k (List.replicate K 0) cs = 0 := by
  unfold solveE
  have h3 : cs.any (fun c => !soundL c) = false := by
    rw [List.any_eq_false]
    intro c hcc
    rw [hc c hcc]; decide
  have h4 : (List.replicate K (0 : Int)).any (fun z => decide (z < 0) || decide (k < z)) = false := by
    rw [List.any_eq_false]
    intro z hz
    rw [(List.mem_replicate.1 hz).2]
    simp
    omega
  rw [if_neg (by rw [hl, List.length_replicate]; omega), if_neg (by rw [h4]; decide), if_neg (by rw [h3]; decide), if_neg (by rw [rep_sum]; omega)]
/-- The curves of the first rows. -/
def rowsC (rs : List (Option Addr × Nat × List Int)) (j : Nat) : List (List Int) := (rs.take j).map fun r => slowC r.2.2
theorem rowsC_succ (rs : List (Option Addr × Nat × List Int)) {j : Nat} (h : j < rs.length) : rowsC rs (j + 1) = rowsC rs j ++ [slowC rs[j].2.2] := by
  unfold rowsC
  rw [List.take_add_one, List.getElem?_eq_getElem h, List.map_append]; rfl
theorem rowsC_mem {rs : List (Option Addr × Nat × List Int)} {j : Nat} {c : List Int} (h : c ∈ rowsC rs j) : ∃ r ∈ rs, c = slowC r.2.2 := by
  unfold rowsC at h
  obtain ⟨r, hr, e⟩ := List.mem_map.1 h
  exact ⟨r, List.mem_of_mem_take hr, e.symm⟩

/-! ### Rows that were built one behind another -/
theorem Ints.grownI {w w' : World} {B : Nat} {k : IntKind} {g o : Nat} {l : List Int} {row : Option Nat} (h : Ints w B k (some ⟨g, o, none⟩) l) (hg : w.grownBy w' row) (hne : some g ≠ row) : Ints w' B k (some ⟨g, o, none⟩) l := fun i hi => by
  obtain ⟨b, off, e, hb, hc⟩ := h i hi
  injection e with e1
  injection e1 with e2 e3
  subst e2 e3
  exact ⟨g, o, rfl, hb, hg.cell hc hne⟩
/-- Each curve lies in a block that is not the row's. -/
def Built (w : World) (v : Value) (ps : List Cur) : Prop := ∀ p ∈ ps, p.ok w w.heap.size ∧ ∃ g o, p.A = some ⟨g, o, none⟩ ∧ g < w.heap.size ∧ v.ownBlock ≠ some g
theorem Built.below {w w' : World} {v : Value} {ps : List Cur} (h : Built w v ps) (hb : Below w.heap.size w w') : Built w' v ps := fun p hp => by
  obtain ⟨h1, g, o, h2, h3, h4⟩ := h p hp
  exact ⟨(h1.below hb).more hb.size, g, o, h2, Nat.lt_of_lt_of_le h3 hb.size, h4⟩
theorem Built.grown {w w' : World} {v v' : Value} {ps : List Cur} (h : Built w v ps) (hg : w.grownBy w' v.ownBlock) (hv : v'.ownBlock = v.ownBlock ∨ v'.ownBlock = some w.heap.size) : Built w' v' ps := fun p hp => by
  obtain ⟨h1, g, o, h2, h3, h4⟩ := h p hp
  refine ⟨⟨?_, h1.val, h1.le, h1.cap⟩, g, o, h2, Nat.lt_of_lt_of_le h3 hg.size, fun e => ?_⟩
  · have h5 := h1.ints
    rw [h2] at h5 ⊢
    exact (h5.grownI hg (fun e => h4 e.symm)).more hg.size
  · rcases hv with q | q
    · rw [q] at e; exact h4 e
    · rw [q] at e; injection e with e; omega
theorem own_belowS {w w' : World} {base e n : Nat} {v : Value} {xs : List Value} (h : w.ownsRow base e 1 v n xs) (hb : Below w.heap.size w w') : w'.ownsRow base e 1 v n xs := by
  refine ⟨h.1, ?_⟩
  rcases h.2 with hn | ⟨g, cap, cur, hv, hbg, hg, rest⟩
  · exact .inl hn
  · exact .inr ⟨g, cap, cur, hv, hbg, (hb.block g (Array.getElem?_eq_some_iff.1 hg).1).trans hg, rest⟩

set_option maxHeartbeats 800000 in
/-- 'Slower'. -/
theorem refSlower_yes (A : Option Addr) (n : Nat) (c : List Int) (w : World) (h : Ints w w.heap.size .i64 A c) (hs : soundL c = true) (hg : ∀ n : Nat, gainF (fun n => atN c (n : Int)) (n + 1) ≤ gainF (fun n => atN c (n : Int)) n) :
    Calls Try.prog 17 #[.slice A c.length n] w fun e w' => e = .returned (.bool true) ∧ w' = w := by
  have hl := ((soundL_iff c).mp hs).2.1
  have HA0 : Hid (∀ y : Int, 0 ≤ y → y ≤ 1048576 → Calls Try.prog 25 #[.slice A c.length n, .int .i64 y] w fun e w' => e = .returned (.int .i64 (gainC c y)) ∧ w = w') := fun y h0 h1 => refGain_any A n c y w h hs h0 h1
  have HG : Hid (∀ k : Nat, gainC c ((k : Int) + 1) ≤ gainC c (k : Int)) := fun k => by
    have := hg k
    exact this
  obtain ⟨G, hG⟩ : ∃ G, G = gainC c := ⟨_, rfl⟩
  rw [← hG] at HA0 HG
  obtain ⟨N, hN⟩ : ∃ N, N = c.length := ⟨_, rfl⟩
  rw [← hN] at HA0 hl ⊢
  have n1 : (N : Int) ≤ 4096 := by omega
  clear h hs hg hG hN
  go_enter Try.func17, Try.ntmps17
  go_wp2
  go_loopw [3] (fun i wr => ∃ k : Nat, k ≤ N ∧ i = .int .i64 k ∧ wr = w) (fun i _ => N - (intOf i).toNat)
  case atStart => exact ⟨0, Nat.zero_le _, rfl, rfl⟩
  case round =>
    obtain ⟨k, hk, rfl, rfl⟩ := hrel
    by_cases hlt : k < N
    · have k1 : (k : Int) < (N : Int) := by omega
      have k0 : (0 : Int) ≤ (k : Int) := by omega
      have H1 := Lib.hid (HA0.out ((k : Int) + 1) (by omega) (by omega))
      have H2 := Lib.hid (HA0.out (k : Int) (by omega) (by omega))
      have hgk := HG.out k
      obtain ⟨x, hx⟩ : ∃ x, x = G ((k : Int) + 1) := ⟨_, rfl⟩
      obtain ⟨y, hy⟩ : ∃ x, x = G (k : Int) := ⟨_, rfl⟩
      rw [← hx] at H1 hgk
      rw [← hy] at H2 hgk
      have d1 : decide (y < x) = false := decide_eq_false (by omega)
      have d2 : ¬ y < x := by omega
      clear hx hy hgk
      go_wp2_with (first
        | (go_at_call 25; with_reducible (refine Calls.mono H1.out ?_); rintro e w2 ⟨rfl, rfl⟩)
        | (go_at_call 25; with_reducible (refine Calls.mono H2.out ?_); rintro e w2 ⟨rfl, rfl⟩))
      go_roundw
      case rel => first | exact ⟨k + 1, by omega, by go_num, by first | rfl | trivial⟩ | ((repeat apply Exists.intro); exact ⟨⟨k + 1, by omega, by go_num, by first | rfl | trivial⟩, rfl⟩)
      case measure => simp [intOf]; omega
    · have hk8 : k = N := by omega
      subst hk8
      go_wp2
      go_ret
      exact ⟨rfl, rfl⟩

end Go.Proofs.Ytnpdffcplgjbnaa
