/-
  slices.symMergeCmpFunc where the second of two neighbours has one entry: it is put where it belongs.
-/
import Derived.Test.YtcbimgdgodeppaaSortA
namespace Go.Proofs.Ytcbimgdgodeppaa
open Go.RowKit

set_option maxHeartbeats 3200000 in
set_option maxRecDepth 20000 in
/-- The second one alone. -/
theorem symB_go (g N cap a m b : Nat) (fn : FuncId) (cb : Array Value) (r P L S l : List Int) (y : Int) (w0 w : World) (HC : CmpOk fn cb g N w0 r) (hl : l = P ++ (L ++ (y :: S))) (hS : Srt g w0 l w) (hN : l.length = N) (ha : P.length = a) (hm : a + L.length = m) (hb : m + 1 = b) (hL1 : L.length ≠ 1) (hR : Asc (befR r) L)
    (hap : ∀ x ∈ L, x < y) (hin : ∀ x ∈ L ++ [y], 0 ≤ x ∧ x < N) (hx : N ≤ 100000) :
    Calls Try.prog 49 #[.slice (some ⟨g, 0, none⟩) N cap, .int .i64 a, .int .i64 m, .int .i64 b, .func (.func fn) #[] cb] w fun e w' => e = .returned (.tuple #[]) ∧ ∃ M : List Int, M.Perm (L ++ [y]) ∧ Asc (befR r) M ∧ Srt g w0 (P ++ (M ++ S)) w' := by
  have hbN : b ≤ N := by rw [← hN, hl]; simp only [List.length_append, List.length_cons]; omega
  have hval : ∀ i, a ≤ i → i < m → l.getD i 0 = L.getD (i - a) 0 := fun i h1 h2 => by
    rw [hl, show i = P.length + (i - a) by omega, getD_seg _ _ _ _ (by omega)]
    congr 1
    omega
  have hvy : l.getD m 0 = y := by
    rw [hl, ← List.append_assoc, show m = (P ++ L).length by rw [List.length_append]; omega]; exact getD_head _ y _
  have HV : Hid (∀ i, a ≤ i → i < m → l.getD i 0 < y ∧ 0 ≤ l.getD i 0 ∧ l.getD i 0 < N) := fun i h1 h2 => by
    rw [hval i h1 h2]
    have hm := getD_mem' (l := L) (i := i - a) (by omega)
    have := hin _ (List.mem_append_left _ hm)
    exact ⟨hap _ hm, this.1, this.2⟩
  have hyb := hin y (by simp)
  have HF : Hid (∀ i, a ≤ i → i ≤ m → (i = a ∨ befR r (l.getD (i - 1) 0) y) → (i = m ∨ befR r y (l.getD i 0)) → Asc (befR r) (L.take (i - a) ++ y :: L.drop (i - a))) := fun i h1 h2 h3 h4 => by
    refine put_at (befR_total r) hR (by omega) ?_ ?_
    · rcases h3 with h3 | h3
      · exact .inl (by omega)
      · rcases Nat.eq_or_lt_of_le h1 with h0 | h0
        · exact .inl (by omega)
        · right
          rw [hval (i - 1) (by omega) (by omega)] at h3
          rw [show i - a - 1 = i - 1 - a by omega]; exact h3
    · rcases h4 with h4 | h4
      · exact .inl (by omega)
      · rcases Nat.eq_or_lt_of_le h2 with h0 | h0
        · exact .inl (by omega)
        · right; rw [hval i h1 h0] at h4; exact h4
  have HLR : Hid (a + L.length = m) := hm
  have HPA : Hid (P.length = a) := ha
  have HK : Hid (∀ t, t < L.length → ∀ W, Srt g w0 (P ++ (L.take (t + 1) ++ (y :: (L.drop (t + 1) ++ S)))) W → W.cell? ⟨g, a + t + 1, none⟩ = some (.int .i64 y) ∧ (∃ x, W.cell? ⟨g, a + t, none⟩ = some (.int .i64 x) ∧
      (∃ u, (W.setCell ⟨g, a + t + 1, none⟩ (.int .i64 x)).cell? ⟨g, a + t, none⟩ = some u) ∧ Srt g w0 (P ++ (L.take t ++ (y :: (L.drop t ++ S)))) ((W.setCell ⟨g, a + t + 1, none⟩ (.int .i64 x)).setCell ⟨g, a + t, none⟩ (.int .i64 y)).drew) ∧
      W.frozen? ⟨g, a + t, none⟩ = false ∧ W.frozen? ⟨g, a + t + 1, none⟩ = false) := fun t ht W hW => by
    have e1 : P ++ (L.take (t + 1) ++ (y :: (L.drop (t + 1) ++ S))) = (P ++ L.take t) ++ L.getD t 0 :: ([] ++ y :: (L.drop (t + 1) ++ S)) := by rw [take_last ht]; simp only [List.append_assoc, List.cons_append, List.nil_append]
    have e2 : (P ++ L.take t) ++ y :: ([] ++ L.getD t 0 :: (L.drop (t + 1) ++ S)) = P ++ (L.take t ++ (y :: (L.drop t ++ S))) := by rw [drop_first ht]; simp only [List.append_assoc, List.cons_append, List.nil_append]
    have l1 : (P ++ L.take t).length = a + t := by rw [List.length_append, List.length_take]; omega
    rw [e1] at hW
    have g1 : ((P ++ L.take t) ++ L.getD t 0 :: ([] ++ y :: (L.drop (t + 1) ++ S))).getD (a + t) 0 = L.getD t 0 := by rw [← l1]; exact getD_head _ _ _
    have g2 : ((P ++ L.take t) ++ L.getD t 0 :: ([] ++ y :: (L.drop (t + 1) ++ S))).getD (a + t + 1) 0 = y := by
      rw [show (P ++ L.take t) ++ L.getD t 0 :: ([] ++ y :: (L.drop (t + 1) ++ S)) = ((P ++ L.take t) ++ [L.getD t 0]) ++ y :: (L.drop (t + 1) ++ S) by simp only [List.append_assoc, List.cons_append, List.nil_append], show a + t + 1 = ((P ++ L.take t) ++ [L.getD t 0]).length by rw [List.length_append, l1]; rfl]
      exact getD_head _ _ _
    have hlen : a + t + 1 < ((P ++ L.take t) ++ L.getD t 0 :: ([] ++ y :: (L.drop (t + 1) ++ S))).length := by rw [List.length_append, l1]; simp only [List.length_cons, List.nil_append]; omega
    have c1 := hW.cell (i := a + t) (by omega)
    have c2 := hW.cell (i := a + t + 1) hlen
    have s := hW.swap (a + t + 1) (a + t)
    rw [swapL_comm _ (show a + t + 1 ≠ a + t by omega), swapL_app _ _ _ _ _ l1.symm (by rw [l1]; rfl), e2] at s
    rw [g1, g2] at s
    rw [g1] at c1
    rw [g2] at c2
    exact ⟨c2, ⟨_, c1, hW.some (by omega) _, s⟩, hW.thaw _, hW.thaw _⟩
  have H0 : Hid (∀ W, Srt g w0 l W → Srt g w0 (P ++ (L.take L.length ++ (y :: (L.drop L.length ++ S)))) W) := fun W h => by rw [List.take_length, List.drop_length, List.nil_append, ← hl]; exact h
  have HS := Lib.hid hS
  have HCC := Lib.hid HC
  have HLN := Lib.hid hN
  have eg := HC.enters
  have mixed := Try.mixedS
  have ham : a ≤ m := by omega
  have v1 : IntKind.i64.wrap ((m : Int) - (a : Int)) = ((m - a : Nat) : Int) := by rw [IntWalk.i64_in _ (by omega)]; omega
  have v1n : ((((m - a : Nat) : Int)) == 1) = false := by rw [beq_eq_false_iff_ne]; omega
  have v1m : ¬ ((m - a : Nat) : Int) = 1 := by omega
  have v2 : IntKind.i64.wrap ((b : Int) - (m : Int)) = 1 := by rw [IntWalk.i64_in _ (by omega)]; omega
  obtain ⟨d, hd⟩ : ∃ d, d = m - a := ⟨_, rfl⟩
  rw [← hd] at v1 v1n v1m
  have hmN : (m : Int) < (N : Int) := by omega
  have hvy' := Lib.hid hvy
  clear hl hS hN ha hm hR hap hin HC hval hvy hd hL1
  go_enter Try.func49, Try.ntmps49
  go_wp2
  go_loopw [14, 15] (fun vi vj wr => ∃ i j : Nat, a ≤ i ∧ i ≤ j ∧ j ≤ m ∧ vi = .int .i64 i ∧ vj = .int .i64 j ∧ Hid (Srt g w0 l wr ∧ (i = a ∨ befR r (l.getD (i - 1) 0) y) ∧ (j = m ∨ befR r y (l.getD j 0)))) (fun vi vj _ => (intOf vj).toNat - (intOf vi).toNat)
  case atStart => exact ⟨a, m, Nat.le_refl _, ham, Nat.le_refl _, rfl, rfl, HS.out, .inl rfl, .inl rfl⟩
  case round =>
    clear HS
    obtain ⟨i, j, hmi, hij, hjb, rfl, rfl, HI⟩ := hrel
    by_cases hlt : i < j
    · obtain ⟨q1, q2, q3⟩ := HI.out
      obtain ⟨h, hh⟩ : ∃ h, h = (i + j) / 2 := ⟨_, rfl⟩
      have hi1 : i ≤ h := by omega
      have hj1 : h < j := by omega
      have vh := HV.out h (by omega) (by omega)
      have c1 := fun n => (q1.drewN n).cell (i := h) (by rw [HLN.out]; omega)
      have c2 := fun n => (q1.drewN n).cell (i := m) (by rw [HLN.out]; omega)
      rw [hvy'.out] at c2
      have hbef := cmpR_bef (r := r) vh.1
      have hnot := cmpR_not (r := r) vh.1
      have HR1 : Hid (∀ n, befR r (l.getD h 0) y → Srt g w0 l (wr.drewN n) ∧ (h + 1 = a ∨ befR r (l.getD (h + 1 - 1) 0) y) ∧ (j = m ∨ befR r y (l.getD j 0))) := fun n hq => ⟨q1.drewN n, .inr hq, q3⟩
      have HR2 : Hid (∀ n, befR r y (l.getD h 0) → Srt g w0 l (wr.drewN n) ∧ (i = a ∨ befR r (l.getD (i - 1) 0) y) ∧ (h = m ∨ befR r y (l.getD h 0))) := fun n hq => ⟨q1.drewN n, q2, .inr hq⟩
      obtain ⟨x, hx'⟩ : ∃ y, y = l.getD h 0 := ⟨_, rfl⟩
      rw [← hx'] at vh hbef hnot
      simp only [← hx'] at c1
      have hc : ∀ n, Calls Try.prog fn (#[.int .i64 y, .int .i64 x] ++ cb) (wr.drewN n) fun e w' => e = .returned (.int .i64 (cmpR r y x)) ∧ ∃ m, w' = (wr.drewN n).drewN m := fun n => HCC.out.call y x (wr.drewN n) (q1.drewN n).below hyb.1 hyb.2 vh.2.1 vh.2.2
      have HB := Lib.hid hbef
      have HT := Lib.hid hnot
      have HY := Lib.hid hx'
      obtain ⟨z, hz⟩ : ∃ z, z = cmpR r y x := ⟨_, rfl⟩
      rw [← hz] at hc HB HT
      have k1 : (i : Int) < (j : Int) := by omega
      have r1 : IntKind.i64.wrap ((i : Int) + (j : Int)) = (i : Int) + (j : Int) := IntWalk.i64_in _ (by omega)
      have r2 : IntKind.u64.wrap ((i : Int) + (j : Int)) = (i : Int) + (j : Int) := IntWalk.u64_in _ (by omega)
      have r3 : ((i : Int) + (j : Int)) / 2 = (h : Int) := by omega
      have r4 : IntKind.i64.wrap (h : Int) = (h : Int) := IntWalk.i64_in _ (by omega)
      have r5 : IntKind.u64.wrap (h : Int) = (h : Int) := IntWalk.u64_in _ (by omega)
      have hN1 : (h : Int) < (N : Int) := by omega
      clear hbef hnot hx' hz HI q1 q2 q3 vh HV HF HK H0
      by_cases hneg : z < 0
      · have gz : decide (z < 0) = true := decide_eq_true hneg
        have hb := HB.out.1 hneg
        rw [HY.out] at hb
        have HR3 := Lib.hid (fun n => HR2.out n hb)
        clear hb HB HT HR1 HR2 hh
        go_wp2_with fail
        go_quiet (first | (go_at_fn fn; with_reducible (refine Calls.quiet_of (hc _))))
        go_wp2
        go_roundw
        case rel => first | exact ⟨i, h, hmi, hi1, by omega, rfl, rfl, HR3.out nq⟩ | ((repeat apply Exists.intro); exact ⟨⟨i, h, hmi, hi1, by omega, rfl, rfl, HR3.out nq⟩, rfl⟩)
        case measure => simp [intOf]; omega
      · have gz : decide (z < 0) = false := decide_eq_false hneg
        have hb := HT.out.1 hneg
        rw [HY.out] at hb
        have HR3 := Lib.hid (fun n => HR1.out n hb)
        clear hb HB HT HR1 HR2 hh
        go_wp2_with fail
        go_quiet (first | (go_at_fn fn; with_reducible (refine Calls.quiet_of (hc _))))
        go_wp2
        go_roundw
        case rel => first | exact ⟨h + 1, j, by omega, by omega, hjb, by go_num, rfl, HR3.out nq⟩ | ((repeat apply Exists.intro); exact ⟨⟨h + 1, j, by omega, by omega, hjb, by go_num, rfl, HR3.out nq⟩, rfl⟩)
        case measure => simp [intOf]; omega
    · have hij2 : i = j := by omega
      subst hij2
      obtain ⟨q1, q2, q3⟩ := HI.out
      have HA := Lib.hid (HF.out i hmi hjb q2 q3)
      have HS := Lib.hid (H0.out wr q1)
      have k1 : ¬ (i : Int) < (i : Int) := by omega
      clear HI q1 q2 q3 HF H0 HV HCC hvy'
      go_wp2
      go_loopw [17] (fun vk wx => ∃ t : Nat, i ≤ a + t ∧ t ≤ L.length ∧ vk = .int .i64 ((a + t : Nat) : Int) ∧ Hid (Srt g w0 (P ++ (L.take t ++ (y :: (L.drop t ++ S)))) wx)) (fun vk _ => (intOf vk).toNat)
      case atStart => exact ⟨L.length, by have := HLR.out; omega, Nat.le_refl _, by rw [HLR.out], HS⟩
      case round =>
        clear HS
        obtain ⟨t, ht, htl, rfl, HI⟩ := hrel
        by_cases hlt : i < a + t
        · obtain ⟨t, rfl⟩ : ∃ s, t = s + 1 := ⟨t - 1, by omega⟩
          obtain ⟨c1, ⟨x, c2, ⟨u, c3⟩, s⟩, f1, f2⟩ := HK.out t (by omega) _ HI.out
          replace s := Lib.hid s
          have HLR2 := HLR.out
          obtain ⟨p, hp⟩ : ∃ p, p = a + t := ⟨_, rfl⟩
          have HPP : Hid (p = a + t) := hp
          rw [show a + (t + 1) = p + 1 by omega]
          rw [← hp] at c1 c2 c3 s f1 f2
          have g1 : (i : Int) < ((p + 1 : Nat) : Int) := by omega
          have e0 : ((p + 1 : Nat) : Int) = (p : Int) + 1 := by omega
          rw [e0] at g1 ⊢
          have g2 : (p : Int) < (N : Int) := by omega
          have g3 : (p : Int) + 1 < (N : Int) := by omega
          have e1 : ((p : Int) + 1).toNat = p + 1 := by omega
          have r6 : IntKind.i64.wrap (p : Int) = (p : Int) := IntWalk.i64_in _ (by omega)
          have r7 : (p : Int) + 1 - 1 = (p : Int) := by omega
          have p1 : (0 : Int) ≤ (p : Int) + 1 := by omega
          clear HI hp HLR2 e0
          go_wp2_with fail
          go_big_region_o
          clear c1 c2 c3 f1 f2
          go_wp2
          go_roundw
          case rel => first | exact ⟨t, by have := HPP.out; omega, by omega, by rw [← HPP.out], s⟩ | ((repeat apply Exists.intro); exact ⟨⟨t, by have := HPP.out; omega, by omega, by rw [← HPP.out], s⟩, rfl⟩)
          case measure => first | (simp [intOf]; done) | (simp [intOf]; omega)
        · have hti : t = i - a := by omega
          subst hti
          have HE := Lib.hid HI.out
          obtain ⟨p, hp⟩ : ∃ p, p = a + (i - a) := ⟨_, rfl⟩
          have g1 : ¬ (i : Int) < (p : Int) := by omega
          rw [← hp]
          clear HI HK hp
          go_wp2
          (try simp only [Exit.inBlock, Exit.then]); refine bodyPost_ret (results_none rfl _ _ _) rfl ?_
          exact ⟨rfl, L.take (i - a) ++ y :: L.drop (i - a), (put_perm y _).trans (List.perm_append_comm (l₁ := [y]) (l₂ := L)), HA.out, by
            have h := HE.out
            rw [List.append_assoc, List.cons_append]; exact h⟩

end Go.Proofs.Ytcbimgdgodeppaa
