/-
  The landed solve: what a curve and those behind it bring of each number (ahead).
-/
import Derived.Test.YtnpdffcplgjbnaaSolveC5
import Derived.Test.YtnpdffcplgjbnaaSolvePlanN
namespace Go.Proofs.Ytnpdffcplgjbnaa
open Go.RowKit

theorem makeP (n : Nat) (hn : n ≤ 100000) (w : World) : (Instr.makeSlice 22 (.int .i64 (n : Int)) (.int .i64 (n : Int))).run Try.prog w = .ok (.slice (some ⟨w.heap.size, 0, none⟩) n n) (w.alloc (.cells (ICs (List.replicate n 0)) 3)) := by
  have h := run_make_row' (P := Try.prog) 22 3 (.int .i64 0) 8 Try.underlying22 Try.infoI64v rfl .i64 .i64 n (by omega) (by omega) w
  rw [ICs_zero] at h
  exact h
theorem two_rows (w : World) (l : List Int) (t : TypeId) : IRow t w.heap.size l ((w.alloc (.cells (ICs l) t)).alloc (.cells (ICs l) t)) ∧ IRow t (w.heap.size + 1) l ((w.alloc (.cells (ICs l) t)).alloc (.cells (ICs l) t)) := by
  have e : (w.alloc (.cells (ICs l) t)).heap.size = w.heap.size + 1 := by simp
  refine ⟨?_, ?_⟩
  · show _ = _
    rw [Below.heap_alloc _ _ _ (by rw [e]; exact Nat.lt_succ_self _)]
    exact IRow.new w t l
  · have := IRow.new (w.alloc (.cells (ICs l) t)) t l
    rw [e] at this
    exact this

set_option maxHeartbeats 3200000 in
set_option maxRecDepth 20000 in
theorem ahead_go (A : Option Addr) (n0 : Nat) (c : List Int) (l : Int) (Ab : Option Addr) (cb : Nat) (b : List Int) (w : World) (h : Ints w w.heap.size .i64 A c) (hs : soundL c = true) (hl : 0 ≤ l ∧ l ≤ 512) (hb : Ints w w.heap.size .i64 Ab b) (hbl : b.length ≤ 513) (hbb : ∀ i, i < b.length → 0 ≤ b.getD i 0 ∧ b.getD i 0 ≤ 72057594037927936) :
    Calls Try.prog 33 #[.slice A c.length n0, .int .i64 l, .slice Ab b.length cb] w fun e w' => ∃ g1 g2, e = .returned (.tuple #[.slice (some ⟨g1, 0, none⟩) b.length b.length, .slice (some ⟨g2, 0, none⟩) b.length b.length]) ∧ w.heap.size ≤ g1 ∧ w.heap.size ≤ g2 ∧ IRow 3 g1 (aheadB c l b) w' ∧ IRow 3 g2 (aheadT c l b) w' ∧ Below w.heap.size w w' := by
  have hm : c.length ≤ 9223372036854775807 := by have := ((soundL_iff c).mp hs).2.1; omega
  have HA0 : Hid (∀ W y n, Below w.heap.size w W → Calls Try.prog 37 #[.slice A c.length n0, .int .i64 y] (W.drewN n) fun e w' => e = .returned (.int .i64 (atN c y)) ∧ w' = W.drewN n) := fun W y n hW => (atC_any A n0 c y (W.drewN n) ((h.below hW).more hW.size) hm).mono fun e w' ⟨p1, p2⟩ => ⟨p1, p2.symm⟩
  have HFB : Hid (∀ k n, k < b.length → 0 ≤ aheadF c l b k n ∧ aheadF c l b k n ≤ 76561193665298432) := fun k n hk => by have := aheadF_bounds hs l hbb (left := k) (n := n) hk; omega
  have HFE : Hid (∀ k n, aheadF c l b k n = atN c (l + n) + b.getD (k - n) 0) := fun k n => rfl
  have HAB := Lib.hid (fun z => atN_bounds hs z)
  have HBB := Lib.hid hbb
  have HB : Hid (∀ W, Below w.heap.size w W → ∀ i, i < b.length → ∃ g o, Ab = some ⟨g, o, none⟩ ∧ W.cell? ⟨g, o + i, none⟩ = some (.int .i64 (b.getD i 0))) := fun W hW i hi => by
    obtain ⟨g, o, e, _, q⟩ := (hb.below hW) i hi
    exact ⟨g, o, e, q⟩
  have HE1 : Hid (aheadB c l b = PB VB (aheadF c l b) b.length b.length 0) := rfl
  have HE2 : Hid (aheadT c l b = PB VT (aheadF c l b) b.length b.length 0) := rfl
  obtain ⟨F, hF⟩ : ∃ F, F = aheadF c l b := ⟨_, rfl⟩
  simp only [← hF] at HFB HFE HE1 HE2
  obtain ⟨G, hG⟩ : ∃ G, G = atN c := ⟨_, rfl⟩
  simp only [← hG] at HA0 HFE HAB
  obtain ⟨X, hX⟩ : ∃ X : Nat → Int, X = fun i => b.getD i 0 := ⟨_, rfl⟩
  have hXX : ∀ i, b.getD i 0 = X i := fun i => by rw [hX]
  simp only [hXX] at HFE HB HBB
  obtain ⟨N, hN⟩ : ∃ N, N = b.length := ⟨_, rfl⟩
  rw [HE1.out, HE2.out]
  simp only [← hN] at HFB HB HBB hbl ⊢
  obtain ⟨C, hC⟩ : ∃ N, N = c.length := ⟨_, rfl⟩
  simp only [← hC] at HA0 ⊢
  have HZ1 : Hid (ICs (List.replicate N 0) = ICs (PB VB F N 0 0)) := by unfold Hid; rw [PB_none F N VB_zero]
  have HZ2 : Hid (ICs (List.replicate N 0) = ICs (PB VT F N 0 0)) := by unfold Hid; rw [PB_none F N VT_zero]
  have HN1 : Hid (∀ k, PB VB F N k (k + 1) = PB VB F N (k + 1) 0) := fun k => PB_next F N k VB_zero
  have HN2 : Hid (∀ k, PB VT F N k (k + 1) = PB VT F N (k + 1) 0) := fun k => PB_next F N k VT_zero
  have hmk := makeP N (by omega)
  have htwo := two_rows w (List.replicate N 0) 3
  obtain ⟨Z, hZ⟩ : ∃ Z, Z = ICs (List.replicate N 0) := ⟨_, rfl⟩
  rw [← hZ] at hmk HZ1 HZ2 htwo
  have HT2 : Hid (IRow 3 w.heap.size (PB VB F N 0 0) ((w.alloc (.cells Z 3)).alloc (.cells Z 3)) ∧ IRow 3 (w.heap.size + 1) (PB VB F N 0 0) ((w.alloc (.cells Z 3)).alloc (.cells Z 3)) ∧ IRow 3 w.heap.size (PB VT F N 0 0) ((w.alloc (.cells Z 3)).alloc (.cells Z 3)) ∧ IRow 3 (w.heap.size + 1) (PB VT F N 0 0) ((w.alloc (.cells Z 3)).alloc (.cells Z 3)) ∧ Below w.heap.size w ((w.alloc (.cells Z 3)).alloc (.cells Z 3))) := by
    unfold IRow at htwo ⊢
    rw [← hZ] at htwo
    rw [← HZ1.out, ← HZ2.out]
    exact ⟨htwo.1, htwo.2, htwo.1, htwo.2, ((Below.refl _ _).alloc (Nat.le_refl _) _).alloc (by simp) _⟩
  have n1 : (N : Int) ≤ 513 := by omega
  have hl0 := hl.1
  have hl1 := hl.2
  have mixed : Try.prog.follows .mixedOrders = true := by kernel_rfl
  clear h hs hl hb hbb hF hG hX hXX hN hC hZ htwo HE1 HE2 HZ1 HZ2 hm
  go_enter Try.func33, Try.ntmps33
  go_upto_region 1 with fail
  go_cut [6, 7] from 11 to 16 (fun a b wx => ∃ g1 g2, a = .slice (some ⟨g1, 0, none⟩) N N ∧ b = .slice (some ⟨g2, 0, none⟩) N N ∧ Hid (g1 ≠ g2 ∧ w.heap.size ≤ g1 ∧ w.heap.size ≤ g2 ∧ IRow 3 g1 (PB VB F N 0 0) wx ∧ IRow 3 g2 (PB VT F N 0 0) wx ∧ Below w.heap.size w wx))
  case first =>
    have R1 : Hid (w.heap.size ≠ w.heap.size + 1 ∧ w.heap.size ≤ w.heap.size ∧ w.heap.size ≤ w.heap.size + 1 ∧ IRow 3 w.heap.size (PB VB F N 0 0) ((w.alloc (.cells Z 3)).alloc (.cells Z 3)) ∧ IRow 3 (w.heap.size + 1) (PB VT F N 0 0) ((w.alloc (.cells Z 3)).alloc (.cells Z 3)) ∧ Below w.heap.size w ((w.alloc (.cells Z 3)).alloc (.cells Z 3))) :=
      ⟨by omega, by omega, by omega, HT2.out.1, HT2.out.2.2.2.1, HT2.out.2.2.2.2⟩
    have R2 : Hid (w.heap.size + 1 ≠ w.heap.size ∧ w.heap.size ≤ w.heap.size + 1 ∧ w.heap.size ≤ w.heap.size ∧ IRow 3 (w.heap.size + 1) (PB VB F N 0 0) ((w.alloc (.cells Z 3)).alloc (.cells Z 3)) ∧ IRow 3 w.heap.size (PB VT F N 0 0) ((w.alloc (.cells Z 3)).alloc (.cells Z 3)) ∧ Below w.heap.size w ((w.alloc (.cells Z 3)).alloc (.cells Z 3))) :=
      ⟨by omega, by omega, by omega, HT2.out.2.1, HT2.out.2.2.1, HT2.out.2.2.2.2⟩
    clear HT2
    go_region_with (fail)
    all_goals go_wp2
    all_goals go_meet
    all_goals first | exact ⟨_, _, rfl, rfl, R1.out.1, R1.out.2.1, R1.out.2.2.1, R1.out.2.2.2.1, R1.out.2.2.2.2.1, below_drewN R1.out.2.2.2.2.2 1⟩ | exact ⟨_, _, rfl, rfl, R2.out.1, R2.out.2.1, R2.out.2.2.1, R2.out.2.2.2.1, R2.out.2.2.2.2.1, below_drewN R2.out.2.2.2.2.2 1⟩
  case rest =>
    clear hmk HT2
    obtain ⟨g1, g2, rfl, rfl, HI⟩ := hcut
    have hne := HI.out.1
    have hg1 := HI.out.2.1
    have hg2 := HI.out.2.2.1
    have HG := Lib.hid (And.intro hne (And.intro hg1 hg2))
    have HS0 := Lib.hid HI.out.2.2.2
    clear HI hne hg1 hg2
    go_wp2
    go_loopw [19] (fun i wr => ∃ k : Nat, k ≤ N ∧ i = .int .i64 k ∧ Hid (IRow 3 g1 (PB VB F N k 0) wr ∧ IRow 3 g2 (PB VT F N k 0) wr ∧ Below w.heap.size w wr)) (fun i _ => N - (intOf i).toNat)
    case atStart => exact ⟨0, Nat.zero_le _, rfl, HS0⟩
    case round =>
      clear HS0
      obtain ⟨k, hk, rfl, hS⟩ := hrel
      by_cases hlt : k < N
      · have k1 : (k : Int) < (N : Int) := by omega
        have k0 : (0 : Int) ≤ (k : Int) := by omega
        go_wp2
        go_loopw [24] (fun i wx => ∃ j : Nat, j ≤ k + 1 ∧ i = .int .i64 j ∧ Hid (IRow 3 g1 (PB VB F N k j) wx ∧ IRow 3 g2 (PB VT F N k j) wx ∧ Below w.heap.size w wx)) (fun i _ => k + 1 - (intOf i).toNat)
        case atStart => exact ⟨0, Nat.zero_le _, rfl, hS⟩
        case round =>
          clear hS
          obtain ⟨j, hj, rfl, hS⟩ := hrel
          by_cases hjk : j < k + 1
          · have j1 : (j : Int) < (k : Int) + 1 := by omega
            have j0 : (0 : Int) ≤ (j : Int) := by omega
            obtain ⟨hr1, hr2, hbel⟩ := hS.out
            obtain ⟨g, o, rfl, q0⟩ := HB.out wr hbel (k - j) (by omega)
            have c1 := hr1.cell (i := k) (by rw [PB_len]; exact hlt)
            have c2 := hr2.cell (i := k) (by rw [PB_len]; exact hlt)
            rw [PB_at _ _ _ hlt] at c1 c2
            have f1 := hr1.thaw k
            have f2 := hr2.thaw k
            have hat := Lib.hid (fun n => HA0.out wr (l + (j : Int)) n hbel)
            have ha := HAB.out (l + (j : Int))
            have hx := HBB.out (k - j) (by omega)
            have hfe := HFE.out k j
            have hvb := VB_bounds (f := F k) (k := k) (B := 76561193665298432) (by omega) (fun i hi => HFB.out k i hlt) (j := j) (by omega)
            have hf0 := (HFB.out k 0 hlt).1
            obtain ⟨y, hy⟩ : ∃ y, y = G (l + (j : Int)) := ⟨_, rfl⟩
            obtain ⟨x, hxe⟩ : ∃ x, x = X (k - j) := ⟨_, rfl⟩
            rw [← hy] at hat ha hfe
            rw [← hxe] at q0 hx hfe
            obtain ⟨d, hd⟩ : ∃ d, d = k - j := ⟨_, rfl⟩
            rw [← hd] at q0
            have w1 : IntKind.i64.wrap ((k : Int) - (j : Int)) = (d : Int) := by rw [hd, show (k : Int) - (j : Int) = ((k - j : Nat) : Int) by omega]; exact IntWalk.i64_in _ (by omega)
            have w2 : IntKind.i64.wrap (l + (j : Int)) = l + (j : Int) := IntWalk.i64_in _ (by omega)
            have w3 : IntKind.i64.wrap (y + x) = F k j := by rw [hfe]; exact IntWalk.i64_in _ (by omega)
            have dN : (d : Int) < (N : Int) := by omega
            have d0 : (0 : Int) ≤ (d : Int) := by omega
            by_cases hge : VB (F k) j ≤ F k j
            · obtain ⟨e1, e2⟩ := VB_yes hge
              have R : Hid (∀ m, IRow 3 g1 (PB VB F N k (j + 1)) (((wr.drewN m).setCell ⟨g1, k, none⟩ (.int .i64 (F k j))).setCell ⟨g2, k, none⟩ (.int .i64 (j : Int))) ∧ IRow 3 g2 (PB VT F N k (j + 1)) (((wr.drewN m).setCell ⟨g1, k, none⟩ (.int .i64 (F k j))).setCell ⟨g2, k, none⟩ (.int .i64 (j : Int))) ∧ Below w.heap.size w (((wr.drewN m).setCell ⟨g1, k, none⟩ (.int .i64 (F k j))).setCell ⟨g2, k, none⟩ (.int .i64 (j : Int)))) := fun m => by
                have s1 : IRow 3 g1 (PB VB F N k j) (wr.drewN m) := hr1
                have s2 : IRow 3 g2 (PB VT F N k j) (wr.drewN m) := hr2
                have u1 := s1.set k (F k j)
                rw [← e1, PB_set, e1] at u1
                have u2 := (s2.other (k := g1) (Ne.symm HG.out.1) k (.int .i64 (F k j))).set k (j : Int)
                rw [← e2, PB_set, e2] at u2
                exact ⟨u1.other HG.out.1 k _, u2, ((below_drewN hbel m).setCell (p := ⟨g1, k, none⟩) HG.out.2.1 _).setCell (p := ⟨g2, k, none⟩) HG.out.2.2 _⟩
              have f3 : ∀ m v, ((wr.drewN m).setCell ⟨g1, k, none⟩ v).frozen? ⟨g2, k, none⟩ = false := fun m v => (IRow.other (show IRow 3 g2 (PB VT F N k j) (wr.drewN m) from hr2) (Ne.symm HG.out.1) k v).thaw k
              obtain ⟨V, hV⟩ : ∃ V, V = VB (F k) j := ⟨_, rfl⟩
              obtain ⟨T, hT⟩ : ∃ V, V = VT (F k) j := ⟨_, rfl⟩
              obtain ⟨Y, hY⟩ : ∃ V, V = F k j := ⟨_, rfl⟩
              rw [← hV] at c1 hge
              rw [← hT] at c2
              have c3 : ∀ m v, ((wr.drewN m).setCell ⟨g1, k, none⟩ v).cell? ⟨g2, k, none⟩ = some (.int .i64 T) := fun m v => (World.cell?_setCell_far _ _ _ _ HG.out.1).trans c2
              rw [← hY] at R w3 hge
              have dge : decide (V ≤ Y) = true := decide_eq_true hge
              clear hS hr1 hr2 hbel hy hxe hd hfe hvb hf0 e1 e2 hV hT hY ha hx HFB HFE HAB HBB HB HA0
              go_wp2
              go_quiet ((go_at_call 37; with_reducible (refine Calls.quiet_of_same (hat.out _))))
              go_wp2
              go_roundw
              case rel => first | exact ⟨j + 1, by omega, by go_num, R.out nq⟩ | ((repeat apply Exists.intro); exact ⟨⟨j + 1, by omega, by go_num, R.out nq⟩, rfl⟩)
              case measure => simp [intOf]; omega
            · obtain ⟨e1, e2⟩ := VB_no hf0 hge
              have R : Hid (∀ m, IRow 3 g1 (PB VB F N k (j + 1)) (wr.drewN m) ∧ IRow 3 g2 (PB VT F N k (j + 1)) (wr.drewN m) ∧ Below w.heap.size w (wr.drewN m)) := fun m => by
                rw [PB_same e1, PB_same e2]
                exact ⟨hr1, hr2, below_drewN hbel m⟩
              obtain ⟨V, hV⟩ : ∃ V, V = VB (F k) j := ⟨_, rfl⟩
              obtain ⟨Y, hY⟩ : ∃ V, V = F k j := ⟨_, rfl⟩
              rw [← hV] at c1 hge
              rw [← hY] at w3 hge
              have dge : decide (V ≤ Y) = false := decide_eq_false hge
              clear hS hr1 hr2 hbel hy hxe hd hfe hvb hf0 e1 e2 hV hY ha hx c2 HFB HFE HAB HBB HB HA0
              go_wp2
              go_quiet ((go_at_call 37; with_reducible (refine Calls.quiet_of_same (hat.out _))))
              go_wp2
              go_roundw
              case rel => first | exact ⟨j + 1, by omega, by go_num, R.out nq⟩ | ((repeat apply Exists.intro); exact ⟨⟨j + 1, by omega, by go_num, R.out nq⟩, rfl⟩)
              case measure => simp [intOf]; omega
          · have hj8 : j = k + 1 := by omega
            subst hj8
            have R : Hid (IRow 3 g1 (PB VB F N (k + 1) 0) wr ∧ IRow 3 g2 (PB VT F N (k + 1) 0) wr ∧ Below w.heap.size w wr) := by rw [← HN1.out, ← HN2.out]; exact hS.out
            clear hS
            have j1 : ¬ (k : Int) + 1 < (k : Int) + 1 := by omega
            go_wp2
            go_roundw
            case rel => first | exact ⟨k + 1, by omega, by go_num, R⟩ | ((repeat apply Exists.intro); exact ⟨⟨k + 1, by omega, by go_num, R⟩, rfl⟩)
            case measure => simp [intOf]; omega
      · have hk8 : k = N := by omega
        subst hk8
        have k1 : ¬ (k : Int) < (k : Int) := by omega
        go_wp2
        go_ret2
        exact ⟨g1, g2, rfl, HG.out.2.1, HG.out.2.2, hS.out.1, hS.out.2.1, hS.out.2.2⟩

end Go.Proofs.Ytnpdffcplgjbnaa
