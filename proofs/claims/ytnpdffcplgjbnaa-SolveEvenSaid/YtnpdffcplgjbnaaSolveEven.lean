/-
  SolveEven: the same curve several times, with gains that fall.
-/
import Derived.Test.YtnpdffcplgjbnaaSolveCurvN
namespace Go.Proofs.Ytnpdffcplgjbnaa
open Go.RowKit

theorem Try.infoCurveE : (Try.prog.info? 40).map (fun i => (i.zero, i.size, i.bytes)) = some (some (.slice none 0 0), 1, 24) := by kernel_rfl

theorem own_capS {w : World} {base t n c : Nat} {A : Option Addr} {xs : List Value} (h : w.ownsRow base t 1 (.slice A n c) n xs) : n ≤ c ∧ c ≤ maxLen := by
  rcases h.2 with ⟨h, _⟩ | ⟨_, _, _, h, _, _, h2, h4, _⟩
  · injection h with _ h2 h3
    exact ⟨by omega, by rw [h3]; exact Nat.zero_le _⟩
  · injection h with _ _ h3
    exact ⟨by omega, by rw [h3]; exact h4⟩

set_option maxHeartbeats 3200000 in
set_option maxRecDepth 20000 in
/-- SolveEven. -/
theorem solveEven_go (t n : Nat) (w : World) (HS : SolveSpec w) (ht : t < 65536) (hn : n < 256) :
    Calls Try.prog 8 #[.int .u16 (t : Int), .int .u8 (n : Int)] w fun e w' => e = .returned (.bool true) ∧ Below w.heap.size w w' := by
  obtain ⟨i0, hif, hz0, hz1, hz2⟩ := info_parts Try.infoI64v
  obtain ⟨j0, jif, jz0, jz1, jz2⟩ := info_parts Try.infoCurveE
  have HA := Lib.hid (fun (W : World) (hb : Below w.heap.size w W) => solveAwake HS W hb)
  have HSS := Lib.hid HS
  obtain ⟨T, hT⟩ : ∃ K : Int, K = (t : Int) % 513 := ⟨_, rfl⟩
  have T0 : 0 ≤ T := by omega
  have T1 : T ≤ 512 := by omega
  have e1 : IntKind.u16.wrap ((t : Int) % 513) = T := by show ((t : Int) % 513) % 65536 = _; omega
  have e2 : ((t : Int)).tmod 513 = T := by rw [Int.tmod_eq_emod_of_nonneg (by omega)]; exact hT.symm
  obtain ⟨M, hM⟩ : ∃ M, M = n % 16 := ⟨_, rfl⟩
  have f1 : IntKind.u8.wrap ((n : Int) % 16) = (M : Int) := by show ((n : Int) % 16) % 256 = _; omega
  have f2 : ((n : Int)).tmod 16 = (M : Int) := by rw [Int.tmod_eq_emod_of_nonneg (by omega)]; omega
  have M15 : M ≤ 15 := by omega
  have M15i : (M : Int) ≤ 15 := by omega
  have HEC := Lib.hid evenC_succ
  have HE0 : Hid (evenC 0 = [0]) := rfl
  have HEV := Lib.hid evenV_bounds
  have HES : Hid (∀ k : Nat, evenV (k + 1) = evenV k + 700 - (k : Int)) := fun _ => rfl
  have HEA : Hid (∀ k, (evenC k).getD k 0 = evenV k) := fun k => evenC_at (Nat.le_refl k)
  have HEL := Lib.hid evenC_len
  clear hT hM ht hn HS
  go_enter Try.func8, Try.ntmps8
  go_wp2
  go_loopw [5, 6] (fun v i wr => ∃ k : Nat, k ≤ 600 ∧ i = .int .i64 k ∧ (∃ A c, v = .slice A (k + 1) c) ∧ Hid (wr.ownsRow w.heap.size 3 1 v (k + 1) ((evenC k).map (Value.int .i64)) ∧ Below w.heap.size w wr)) (fun _ i _ => 600 - (intOf i).toNat)
  case atStart =>
    refine ⟨0, Nat.zero_le _, rfl, ⟨_, _, rfl⟩, ?_⟩
    rw [HE0.out]
    exact ⟨World.ownsRow_lit (base := w.heap.size) (e := 3) (size := 1) w #[.int .i64 0] 1 (Nat.le_refl _) (by decide) rfl, (Below.refl _ _).alloc (Nat.le_refl _) _⟩
  case round =>
    obtain ⟨k, hk, rfl, ⟨A3, c3, rfl⟩, hR⟩ := hrel
    by_cases hk6 : k < 600
    · obtain ⟨hown, hbel⟩ := hR.out
      obtain ⟨g, cap, hv, hbg, hgl⟩ := hown.form (by omega)
      injection hv with q1 _ q3
      subst q1 q3
      have cx := own_atG hown (i := k) (by rw [HEL.out]; omega)
      rw [HEA.out] at cx
      have hes := HES.out k
      have hev := HEV.out k (by omega)
      obtain ⟨x, hx⟩ : ∃ x, x = evenV k := ⟨_, rfl⟩
      rw [← hx] at cx hes hev
      obtain ⟨P, hP⟩ : ∃ P, P = evenV (k + 1) := ⟨_, rfl⟩
      rw [← hP] at hes
      have HTSS := Lib.hid (show (evenC (k + 1)).map (Value.int .i64) = (evenC k).map (Value.int .i64) ++ [Value.int .i64 P] by rw [HEC.out, List.map_append, ← hP]; rfl)
      have v1 : IntKind.i64.wrap (x + 700) = x + 700 := IntWalk.i64_in _ (by omega)
      have v2 : IntKind.i64.wrap (x + 700 - (k : Int)) = P := by rw [IntWalk.i64_in _ (by omega)]; exact hes.symm
      have k1 : (k : Int) < 600 := by omega
      have k0 : (0 : Int) ≤ (k : Int) := by omega
      clear hx hP hes hev hR
      go_wp2_with (at_builtin; refine wpList_append_own_at _ rfl _ _ 40 rfl w.heap.size 3 i0 (.int .i64 0) 1 8 Try.underlying40 hif hz0 hz1 hz2 rfl (by decide) _ _ _ rfl (hown.alloc _) ⟨wr.heap.size, 0, none⟩ 1 1 [.int .i64 P] rfl rfl (cell_one_new _ _ _) ?d1 ?d2 ?d3 ?d4 ?_)
      case d1 => first | rfl | (intro u hu; simp at hu; subst hu; rfl)
      case d2 => unfold maxLen; omega
      case d3 => omega
      case d4 => have := hbel.size; simp; omega
      intro v3 w3 hown3 hg3 _ _
      have R : Hid (w3.ownsRow w.heap.size 3 1 v3 (k + 1 + 1) ((evenC (k + 1)).map (Value.int .i64)) ∧ Below w.heap.size w w3) := by
        refine ⟨?_, (hbel.alloc hbel.size _).grown hg3 (by have := hbel.size; simp; omega) fun q hq => (hown.lt q hq).1⟩
        rw [HTSS.out]; exact hown3
      obtain ⟨A4, c4, rfl⟩ := own_slice R.out.1
      clear hown hbel hown3 hg3 cx hbg hgl
      go_wp2
      go_roundw
      case rel => first | exact ⟨k + 1, by omega, by go_num, ⟨A4, c4, rfl⟩, R.out⟩ | ((repeat apply Exists.intro); exact ⟨⟨k + 1, by omega, by go_num, ⟨A4, c4, rfl⟩, R.out⟩, rfl⟩)
      case measure => simp [intOf]; omega
    · have hk8 : k = 600 := by omega
      subst hk8
      obtain ⟨wo, hwo⟩ : ∃ x, x = wr := ⟨_, rfl⟩
      subst hwo
      obtain ⟨hown, hbel⟩ := hR.out
      obtain ⟨hr1, hr2⟩ := own_capS hown
      have hCI : Ints wo wo.heap.size .i64 A3 (evenC 600) := Ints.of_own (n := 601) (c := c3) (by rw [evenC_len]; exact hown)
      have hCB : ∀ i : Nat, i ≤ 600 → -9223372036854775808 ≤ evenV i ∧ evenV i ≤ 9223372036854775807 := fun i hi => by have := evenV_bounds i hi; omega
      have hok : Cur.ok wo wo.heap.size ⟨A3, c3, evenC 600⟩ := ⟨hCI, fun z hz => by
        obtain ⟨i, hi, e⟩ := List.mem_map.1 hz
        rw [List.mem_range] at hi
        rw [← e]; exact hCB i (by omega), by show (evenC 600).length ≤ c3; rw [evenC_len]; omega, by show c3 ≤ _; unfold maxLen at hr2; omega⟩
      have HP : Hid (Cur.V ⟨A3, c3, evenC 600⟩ = .slice A3 601 c3) := by unfold Hid Cur.V; simp only [evenC_len]
      obtain ⟨p, hp⟩ : ∃ p : Cur, p = ⟨A3, c3, evenC 600⟩ := ⟨_, rfl⟩
      rw [← hp] at hok HP
      have HPL : Hid (p.l = evenC 600) := by unfold Hid; rw [hp]
      have HOK := Lib.hid hok
      have HBW := Lib.hid hbel
      have HS1 : Hid (∀ k : Nat, (List.replicate (k + 1) p).map Cur.V = (List.replicate k p).map Cur.V ++ [.slice A3 601 c3]) := fun k => by rw [List.replicate_succ', List.map_append, List.map_cons, HP.out]; rfl
      have HS2 : Hid (∀ k : Nat, (List.replicate (k + 1) (0 : Int)).map (Value.int .i64) = (List.replicate k (0 : Int)).map (Value.int .i64) ++ [.int .i64 0]) := fun k => by rw [List.replicate_succ', List.map_append]; rfl
      clear hown hbel hr1 hr2 hCI hCB hok hp hR HEC HE0 HEV HES HEA HEL
      go_wp2
      go_loopw [7, 8, 9] (fun v u i wr => ∃ k : Nat, k ≤ M + 1 ∧ i = .int .i64 k ∧ (∃ A c, v = .slice A k c) ∧ (∃ A c, u = .slice A k c) ∧ Hid (wr.ownsRow wo.heap.size 40 1 v k ((List.replicate k p).map Cur.V) ∧ wr.ownsRow wo.heap.size 3 1 u k ((List.replicate k (0 : Int)).map (Value.int .i64)) ∧ Apart v u ∧ Below wo.heap.size wo wr)) (fun _ _ i _ => M + 1 - (intOf i).toNat)
      case atStart =>
        refine ⟨0, Nat.zero_le _, rfl, ⟨_, _, rfl⟩, ⟨_, _, rfl⟩, ?_⟩
        have h1 := (World.ownsRow_made (base := wo.heap.size) (e := 40) (size := 1) wo #[] 0 (Nat.le_refl _) (Nat.zero_le _) rfl).alloc (.cells #[] 3)
        have h2 := World.ownsRow_made (base := wo.heap.size) (e := 3) (size := 1) (wo.alloc (.cells #[] 40)) #[] 0 (by simp) (Nat.zero_le _) rfl
        rw [World.size_alloc] at h2
        exact ⟨h1, h2, fun q hq hq2 => by simp [Value.ownBlock] at hq hq2; omega, ((Below.refl _ _).alloc (Nat.le_refl _) _).alloc (by simp) _⟩
      case round =>
        obtain ⟨k, hk, rfl, ⟨A1, c1, rfl⟩, ⟨A2, c2, rfl⟩, hS⟩ := hrel
        by_cases hkM : k < M + 1
        · have k1 : (k : Int) < (M : Int) + 1 := by omega
          have k0 : (0 : Int) ≤ (k : Int) := by omega
          obtain ⟨hown, hown2, hap, hbel⟩ := hS.out
          have HT1 := Lib.hid (HS1.out k)
          have HT2 := Lib.hid (HS2.out k)
          obtain ⟨P1, hP1⟩ : ∃ P, P = (List.replicate k p).map Cur.V := ⟨_, rfl⟩
          obtain ⟨P2, hP2⟩ : ∃ P, P = (List.replicate k (0 : Int)).map (Value.int .i64) := ⟨_, rfl⟩
          rw [← hP1] at hown HT1
          rw [← hP2] at hown2 HT2
          clear hP1 hP2 hS
          go_wp2_with (at_builtin; refine wpList_append_own_at _ rfl _ _ 23 rfl wo.heap.size 40 j0 (.slice none 0 0) 1 24 Try.underlying23 jif jz0 jz1 jz2 rfl (by decide) _ _ _ rfl (hown.alloc _) ⟨wr.heap.size, 0, none⟩ 1 1 [.slice A3 601 c3] rfl rfl (cell_one_new _ _ _) ?d1 ?d2 ?d3 ?d4 ?_)
          case d1 => first | rfl | (intro u hu; simp at hu; subst hu; rfl)
          case d2 => unfold maxLen; omega
          case d3 => omega
          case d4 => have := hbel.size; simp; omega
          intro v3 w3 hown3 hg3 _ hv3
          have hb3 : Below wo.heap.size wo w3 := (hbel.alloc hbel.size _).grown hg3 (by have := hbel.size; simp; omega) fun q hq => (hown.lt q hq).1
          have ho2 := own_kept (hown2.alloc (.cells #[.slice A3 601 c3] 40)) hg3 (fun q hq => hap q hq)
          have hap3 : Apart v3 (.slice A2 k c2) := hap.grown (N := wr.heap.size + 1) (fun q hq => by have := (hown2.lt q hq).2; omega) hv3
          obtain ⟨A4, c4, rfl⟩ := own_slice hown3
          clear hown hown2 hap hbel hg3 hv3
          go_wp2_with (at_builtin; refine wpList_append_own_at _ rfl _ _ 22 rfl wo.heap.size 3 i0 (.int .i64 0) 1 8 Try.underlying22 hif hz0 hz1 hz2 rfl (by decide) _ _ _ rfl (ho2.alloc _) ⟨w3.heap.size, 0, none⟩ 1 1 [.int .i64 0] rfl rfl (cell_one_new _ _ _) ?d1 ?d2 ?d3 ?d4 ?_)
          case d1 => first | rfl | (intro u hu; simp at hu; subst hu; rfl)
          case d2 => unfold maxLen; omega
          case d3 => omega
          case d4 => have := hb3.size; simp; omega
          intro v4 w4 hown4 hg4 _ hv4
          have R : Hid (w4.ownsRow wo.heap.size 40 1 (.slice A4 (k + 1) c4) (k + 1) ((List.replicate (k + 1) p).map Cur.V) ∧ w4.ownsRow wo.heap.size 3 1 v4 (k + 1) ((List.replicate (k + 1) (0 : Int)).map (Value.int .i64)) ∧ Apart (.slice A4 (k + 1) c4) v4 ∧ Below wo.heap.size wo w4) := by
            refine ⟨?_, ?_, ?_, (hb3.alloc hb3.size _).grown hg4 (by have := hb3.size; simp; omega) fun q hq => (ho2.lt q hq).1⟩
            · rw [HT1.out]
              exact own_kept (hown3.alloc (.cells #[.int .i64 0] 3)) hg4 (fun q hq => hap3.symm q hq)
            · rw [HT2.out]
              exact hown4
            · exact (hap3.symm.grown (N := w3.heap.size + 1) (fun q hq => by have := (hown3.lt q hq).2; omega) hv4).symm
          obtain ⟨A5, c5, rfl⟩ := own_slice R.out.2.1
          clear hown3 ho2 hap3 hb3 hown4 hg4 hv4
          go_wp2
          go_roundw
          case rel => first | exact ⟨k + 1, by omega, by go_num, ⟨A4, c4, rfl⟩, ⟨A5, c5, rfl⟩, R.out⟩ | ((repeat apply Exists.intro); exact ⟨⟨k + 1, by omega, by go_num, ⟨A4, c4, rfl⟩, ⟨A5, c5, rfl⟩, R.out⟩, rfl⟩)
          case measure => simp [intOf]; omega
        · have hkn : k = M + 1 := by omega
          subst hkn
          obtain ⟨wv, hwv⟩ : ∃ x, x = wr := ⟨_, rfl⟩
          subst hwv
          obtain ⟨hown, hown2, _, hbel⟩ := hS.out
          obtain ⟨K, hK⟩ : ∃ K, K = M + 1 := ⟨_, rfl⟩
          rw [← hK] at hown hown2
          have hKi : (M : Int) + 1 = (K : Int) := by omega
          have hK1 : 1 ≤ K := by omega
          have hK16 : K ≤ 16 := by omega
          obtain ⟨ps, hps⟩ : ∃ ps, ps = List.replicate K p := ⟨_, rfl⟩
          obtain ⟨lw, hlw⟩ : ∃ l, l = List.replicate K (0 : Int) := ⟨_, rfl⟩
          rw [← hps] at hown
          rw [← hlw] at hown2
          have lps : ps.length = K := by rw [hps, List.length_replicate]
          have llw : lw.length = K := by rw [hlw, List.length_replicate]
          have hCU : Curs wv wv.heap.size A1 ps := Curs.of_own (n := K) (c := c1) (by rw [lps]; exact hown) (fun q hq => by
            rw [hps] at hq
            rw [(List.mem_replicate.1 hq).2]
            exact (HOK.out.below hbel).more hbel.size)
          have hLI : Ints wv wv.heap.size .i64 A2 lw := Ints.of_own (n := K) (c := c2) (by rw [llw]; exact hown2)
          have hAsk : Asked wv T A2 A1 c2 c1 lw ps := ⟨hLI, hCU, fun z hz => by rw [hlw] at hz; rw [(List.mem_replicate.1 hz).2]; omega, by omega, by rw [llw]; exact (own_capS hown2).1, by rw [lps]; exact (own_capS hown).1, by rw [llw]; omega, by rw [lps]; omega⟩
          have hmap : ps.map Cur.l = List.replicate K (evenC 600) := by rw [hps, List.map_replicate, HPL.out]
          have hgr : greedyR T lw (ps.map Cur.l) = (0, giveL (List.replicate K (evenC 600)) (List.replicate K 0) T.toNat) := by
            unfold greedyR
            rw [hmap, hlw, if_pos (solveE_rep T0 T1 ⟨hK1, hK16⟩ even_sound), rep_sum, Int.sub_zero]
          have hG := HSS.out.greedy T A2 A1 c2 c1 lw ps wv (chain HBW.out hbel) hAsk
          rw [hgr, llw, lps] at hG
          have hsh : ∀ i, i < K → _ ∧ _ := fun i hi => even_shares (k := T) (K := K) T0 T1 hK1 hi
          obtain ⟨GL, hGL⟩ : ∃ G, G = giveL (List.replicate K (evenC 600)) (List.replicate K 0) T.toNat := ⟨_, rfl⟩
          have lG : GL.length = K := by rw [hGL, giveL_len, List.length_replicate]
          have hGB : ∀ i, i < K → 0 ≤ GL.getD i 0 ∧ GL.getD i 0 ≤ 1024 := fun i hi => by
            have h := giveL_bound (List.replicate K (evenC 600)) (X := List.replicate K 0) (B := 0) (fun i _ => by rw [rep_zero]; omega) T.toNat i (by rw [List.length_replicate]; exact hi)
            rw [← hGL] at h
            omega
          rw [← hGL] at hG
          simp only [← hGL] at hsh
          simp only [lG] at hG
          have HG := Lib.hid hG
          have HSH : Hid (∀ i, i < K → GL.getD (K - 1) 0 ≤ GL.getD i 0 ∧ GL.getD i 0 ≤ GL.getD (K - 1) 0 + 1) := hsh
          have HGB := Lib.hid hGB
          have HBV := Lib.hid (chain HBW.out hbel)
          have HLG := Lib.hid lG
          have HK1 := Lib.hid hK1
          have K1i : (1 : Int) ≤ (K : Int) := by omega
          have K16i : (K : Int) ≤ 16 := by omega
          have kk : ((K : Int) - 1).toNat = K - 1 := by omega
          have kw : IntKind.i64.wrap ((K : Int) - 1) = (K : Int) - 1 := IntWalk.i64_in _ (by omega)
          have HKI := Lib.hid hKi
          rw [← hK]
          have hnK : ¬ ((K : Nat) : Int) < (M : Int) + 1 := by omega
          clear hG hsh hGB hown hown2 hbel hS hps hlw lps llw hCU hLI hAsk hmap hgr hGL lG hK hKi hK1 hK16 HS1 HS2 HOK
          go_wp2_with (first
            | (go_at_call 9; with_reducible (refine Calls.mono HG.out ?_); rintro e w1 ⟨A5, c5, rfl, _, hi5, hb5⟩; have hx5 := chain HBV.out hb5)
            | (go_at_call 11; with_reducible (refine Calls.mono (HA.out _ hx5) ?_); rintro e w2 ⟨rfl, hb6⟩; have hx6 := chain hx5 hb6; have hi6 := (hi5.below hb6).more hb6.size))
          have HX6 := Lib.hid hx6
          have HI6 := Lib.hid hi6
          clear hx5 hx6 hi5 hi6 hb5 hb6
          go_loopw [13] (fun i wx => ∃ k m : Nat, k ≤ K ∧ i = .int .i64 k ∧ wx = w2.drewN m) (fun i _ => K - (intOf i).toNat)
          case atStart => exact ⟨0, 0, Nat.zero_le _, rfl, rfl⟩
          case round =>
            obtain ⟨k, m, hk, rfl, hwr⟩ := hrel
            by_cases hkK : k < K
            · obtain ⟨bg, og, rfl, _, cg⟩ := HI6.out k (by have := HLG.out; omega)
              obtain ⟨bh, oh, he, _, ch⟩ := HI6.out (K - 1) (by have := HLG.out; have := HK1.out; omega)
              injection he with he2
              injection he2 with he3 he4
              subst he3 he4
              replace cg : wr.cell? ⟨bg, og + k, none⟩ = some (.int .i64 (GL.getD k 0)) := by rw [hwr]; exact cg
              replace ch : wr.cell? ⟨bg, og + (K - 1), none⟩ = some (.int .i64 (GL.getD (K - 1) 0)) := by rw [hwr]; exact ch
              have hsh := HSH.out k hkK
              have hgb := HGB.out (K - 1) (by have := HK1.out; omega)
              obtain ⟨x, hx⟩ : ∃ x, x = GL.getD k 0 := ⟨_, rfl⟩
              obtain ⟨y, hy⟩ : ∃ x, x = GL.getD (K - 1) 0 := ⟨_, rfl⟩
              rw [← hx] at cg hsh
              rw [← hy] at ch hsh hgb
              have d1 : decide (x < y) = false := decide_eq_false (by omega)
              have d2 : decide (y + 1 < x) = false := decide_eq_false (by omega)
              have v1 : IntKind.i64.wrap (y + 1) = y + 1 := IntWalk.i64_in _ (by omega)
              have k1 : (k : Int) < (K : Int) := by omega
              have k0 : (0 : Int) ≤ (k : Int) := by omega
              have HWR := Lib.hid hwr
              clear hx hy hsh hgb hwr
              go_wp2
              go_quiet (fail)
              go_wp2
              go_roundw
              case rel => first | exact ⟨k + 1, m + nq, by omega, by go_num, by rw [HWR.out, World.drewN_drewN]⟩ | ((repeat apply Exists.intro); exact ⟨⟨k + 1, m + nq, by omega, by go_num, by rw [HWR.out, World.drewN_drewN]⟩, rfl⟩)
              case measure => simp [intOf]; omega
            · have hkk : k = K := by omega
              subst hkk
              have HB9 : Hid (Below w.heap.size w wr) := by unfold Hid; rw [hwr]; exact below_drewN HX6.out m
              clear hwr
              go_wp2
              go_ret
              exact ⟨rfl, HB9.out⟩

end Go.Proofs.Ytnpdffcplgjbnaa
