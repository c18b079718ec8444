/-
  weigh's Share: so much, shared by weights.
-/
import Derived.Test.YtcbimgdgodeppaaWeighC2
import Derived.Test.YtcbimgdgodeppaaWeighGive
import Derived.Test.YtcbimgdgodeppaaWeighRefA
namespace Go.Proofs.Ytcbimgdgodeppaa
open Go.RowKit

theorem up_at {us : List Nat} {i : Nat} (h : i < us.length) : (up us).getD i 0 = ((us.getD i 0 : Nat) : Int) := by
  simp [up, List.getD_eq_getElem?_getD, h]
theorem sumL_up (us : List Nat) : sumL (up us) (up us).length = allN us := by
  have hl : (up us).length = us.length := by simp [up]
  unfold sumL allN
  rw [hl]
  exact sumF_congr _ fun i hi => up_at hi
theorem unitsN_lt (bs : List Nat) : ∀ i, i < (unitsN bs).length → (unitsN bs).getD i 0 < 4294967296 := fun i hi => by
  rw [unitsN_len] at hi
  rw [unitsN_at bs hi]
  have h := unit_lt (l := bs) (b := bs.getD i 0) (by simp [List.getD_eq_getElem?_getD, hi])
  exact h
theorem unit_le_all (us : List Nat) : ∀ i, i < us.length → ((us.getD i 0 : Nat) : Int) ≤ allN us := by
  have key : ∀ n, n ≤ us.length → ∀ i, i < n → ((us.getD i 0 : Nat) : Int) ≤ sumF (fun i => ((us.getD i 0 : Nat) : Int)) n := by
    intro n
    induction n with
    | zero => intro _ i hi; omega
    | succ n ih =>
      intro hn i hi
      have h0 := sumF_nonneg (f := fun i => ((us.getD i 0 : Nat) : Int)) n (fun i _ => Int.natCast_nonneg _)
      simp only [sumF]
      by_cases h : i = n
      · subst h; omega
      · have := ih (by omega) i (by omega)
        omega
  exact fun i hi => key us.length (Nat.le_refl _) i hi

set_option maxHeartbeats 1600000 in
set_option maxRecDepth 20000 in
theorem share_arg (total : Int) (A : Option Addr) (n c : Nat) (w : World) (h : total < 0 ∨ total > 1048576 ∨ n = 0 ∨ n > 4096) :
    Calls Try.prog 15 #[.int .i64 total, .slice A n c] w fun e w' => e = .returned (.tuple #[.slice none 0 0, .int .i64 1]) ∧ w' = w := by
  by_cases h1 : total < 0
  · clear h
    go_enter Try.func15, Try.ntmps15
    go_wp2
    go_ret2
    exact ⟨rfl, rfl⟩
  · by_cases h2 : 1048576 < total
    · clear h
      go_enter Try.func15, Try.ntmps15
      go_wp2
      go_ret2
      exact ⟨rfl, rfl⟩
    · by_cases h3 : n = 0
      · clear h
        subst h3
        go_enter Try.func15, Try.ntmps15
        go_wp2
        go_ret2
        exact ⟨rfl, rfl⟩
      · have h4 : (4096 : Int) < (n : Int) := by omega
        have h5 : ((n : Int) == 0) = false := beq_eq_false_iff_ne.2 (by omega)
        have h6 : ¬ (n : Int) = 0 := by omega
        clear h
        go_enter Try.func15, Try.ntmps15
        go_wp2
        go_ret2
        exact ⟨rfl, rfl⟩

set_option maxHeartbeats 3200000 in
set_option maxRecDepth 20000 in
theorem share_go (total : Int) (A : Option Addr) (n c : Nat) (us : List Nat) (w : World) (t1 : 0 ≤ total) (t2 : total ≤ 1048576) (n1 : 1 ≤ n) (n2 : n ≤ 4096) (hus : us.length = n) (hu : ∀ i, i < us.length → us.getD i 0 < 4294967296)
    (HU : Calls Try.prog 13 #[.slice A n c] w fun e w' => ∃ A' c', e = .returned (.slice A' n c') ∧ Ints w' w'.heap.size .i64 A' (up us) ∧ Below w.heap.size w w') :
    Calls Try.prog 15 #[.int .i64 total, .slice A n c] w fun e w' =>
      (allN us = 0 ∧ e = .returned (.tuple #[.slice none 0 0, .int .i64 4]) ∧ Below w.heap.size w w') ∨
      (allN us ≠ 0 ∧ ∃ g, e = .returned (.tuple #[.slice (some ⟨g, 0, none⟩) n n, .int .i64 0]) ∧ Ints w' w'.heap.size .i64 (some ⟨g, 0, none⟩) (shareN total us) ∧ Below w.heap.size w w') := by
  have hul : (up us).length = n := by simp [up, hus]
  have ha0 := allN_nonneg us
  have ha1 : allN us ≤ 4294967296 * (n : Int) := by
    have h := (sumL_bounds (l := up us) (fun i hi => by rw [hul] at hi; rw [up_at (by omega)]; have := hu i (by omega); omega) n (by omega)).2
    have e := sumL_up us
    rw [hul] at e
    rw [← e]; exact h
  have HSU : Hid (∀ (A' : Option Addr) (c' : Nat) (W : World), Ints W W.heap.size .i64 A' (up us) → Calls Try.prog 28 #[.slice A' n c'] W fun e w' => e = .returned (.int .i64 (allN us)) ∧ w' = W) := fun A' c' W h => by
    have h1 := sum_any A' c' (up us) W h (by omega) (fun i hi => by rw [hul] at hi; rw [up_at (by omega)]; have := hu i (by omega); omega)
    rw [sumL_up, hul] at h1; exact h1
  have HD : Hid (0 < allN us → ∀ (A' : Option Addr) (c' : Nat) (W : World), Ints W W.heap.size .i64 A' (up us) → Calls Try.prog 29 #[.int .i64 total, .slice A' n c', .int .i64 (allN us)] W
      fun e w' => ∃ g1 g2, e = .returned (.tuple #[.slice (some ⟨g1, 0, none⟩) n n, .slice (some ⟨g2, 0, none⟩) n n]) ∧ g1 ≠ g2 ∧ W.heap.size ≤ g1 ∧ W.heap.size ≤ g2 ∧ Rw g1 (quotL total us) w' ∧ Rw g2 (restL total us) w' ∧ Below W.heap.size W w') := fun hp A' c' W h => by
    have h1 := divide_any A' c' total (allN us) us W h (by omega) ⟨t1, t2⟩ ⟨hp, by omega⟩ hu (unit_le_all us)
    rw [hus] at h1; exact h1
  have HSQ : Hid (0 < allN us → ∀ (g : Nat) (W : World), Rw g (quotL total us) W → Calls Try.prog 28 #[.slice (some ⟨g, 0, none⟩) n n] W fun e w' => e = .returned (.int .i64 (total - leftN total us)) ∧ w' = W) := fun hp g W h => by
    have hl : (quotL total us).length = n := by simp [quotL, hus]
    have h1 := sum_any (some ⟨g, 0, none⟩) n (quotL total us) W h.ints (by omega) (fun i hi => by
      rw [quotL_at total us (by omega)]
      have := quot_small (t := total) (u := ((us.getD i 0 : Nat) : Int)) (a := allN us) t1 (by omega) hp (unit_le_all us i (by omega))
      omega)
    have e : sumL (quotL total us) (quotL total us).length = total - leftN total us := by
      unfold leftN sumL
      rw [hl, hus]; omega
    rw [e, hl] at h1; exact h1
  have HG : Hid (∀ (g : Nat) (W : World), Rw g (restL total us) W → Calls Try.prog 30 #[.slice (some ⟨g, 0, none⟩) n n] W
      fun e w' => ∃ g3, e = .returned (.slice (some ⟨g3, 0, none⟩) n n) ∧ W.heap.size ≤ g3 ∧ Rw g3 (srtI (restL total us) 0 n) w' ∧ Below W.heap.size W w') := fun g W h => by
    have hl : (restL total us).length = n := by simp [restL, hus]
    have h1 := greatestFirst_any (some ⟨g, 0, none⟩) n (restL total us) W h.ints (by omega)
    rw [hl] at h1; exact h1
  have hL : 0 < allN us → 0 ≤ leftN total us ∧ leftN total us < n := fun hp => ⟨left_nonneg hp, by have := left_lt (total := total) hp (by omega); omega⟩
  have HSH : Hid (0 < allN us → shareN total us = addO (srtI (restL total us) 0 n) (quotL total us) (leftN total us).toNat) := fun hp => by
    rw [share_add hp (by omega), hus]
  have HO : Hid (∀ k, k < n → ∃ b : Nat, (srtI (restL total us) 0 n).getD k 0 = b ∧ b < n) := fun k hk => ord_at hk
  have HOL : Hid ((srtI (restL total us) 0 n).length = n) := by unfold Hid; rw [srtI_len _ (Nat.zero_le n)]; rfl
  have HQL : Hid ((quotL total us).length = n) := by unfold Hid; simp [quotL, hus]
  have HQB : Hid (0 < allN us → ∀ k i, i < n → 0 ≤ (addO (srtI (restL total us) 0 n) (quotL total us) k).getD i 0 ∧ (addO (srtI (restL total us) 0 n) (quotL total us) k).getD i 0 ≤ 1048576 + k) := fun hp k => by
    induction k with
    | zero =>
      intro i hi
      show 0 ≤ (quotL total us).getD i 0 ∧ (quotL total us).getD i 0 ≤ _
      rw [quotL_at total us (by omega)]
      have := quot_small (t := total) (u := ((us.getD i 0 : Nat) : Int)) (a := allN us) t1 (by omega) hp (unit_le_all us i (by omega))
      omega
    | succ k ih =>
      intro i hi
      have h := ih i hi
      have hl : (addO (srtI (restL total us) 0 n) (quotL total us) k).length = n := by rw [addO_len, HQL.out]
      rw [addO]
      by_cases he : ((srtI (restL total us) 0 n).getD k 0).toNat = i
      · rw [he, getD_set_eq _ _ _ (by omega)]; omega
      · rw [getD_set_ne' _ _ he]; omega
  obtain ⟨all, hall⟩ : ∃ a, a = allN us := ⟨_, rfl⟩
  obtain ⟨left, hleft⟩ : ∃ a, a = leftN total us := ⟨_, rfl⟩
  obtain ⟨Q, hQ⟩ : ∃ a, a = quotL total us := ⟨_, rfl⟩
  obtain ⟨T, hT⟩ : ∃ a, a = restL total us := ⟨_, rfl⟩
  simp only [← hall, ← hleft, ← hQ, ← hT] at HSU HD HSQ HG hL HSH HO HOL HQL HQB ha0 ha1 ⊢
  replace HU := Lib.hid HU
  have b1 : ¬ total < 0 := by omega
  have b2 : ¬ 1048576 < total := by omega
  have b3 : ((n : Int) == 0) = false := beq_eq_false_iff_ne.2 (by omega)
  have b4 : ¬ (n : Int) = 0 := by omega
  have b5 : ¬ (4096 : Int) < (n : Int) := by omega
  clear hul hus hu hall hleft hQ hT
  by_cases hz : all = 0
  · subst hz
    clear HD HSQ HG hL HSH HO HOL HQL HQB
    go_enter Try.func15, Try.ntmps15
    go_wp2_with (first
      | (go_at_call 13; with_reducible (refine Calls.mono HU.out ?_); rintro e w1 ⟨A1, c1, rfl, hi1, hb1⟩; have HI := Lib.hid hi1; replace hb1 := Lib.hid hb1; clear hi1)
      | (go_at_call 28; with_reducible (refine Calls.mono (HSU.out _ _ _ HI.out) ?_); rintro e w2 ⟨rfl, rfl⟩))
    go_ret2
    exact .inl ⟨trivial, rfl, hb1.out⟩
  · have hp : 0 < all := by omega
    have hz2 : (all == 0) = false := beq_eq_false_iff_ne.2 hz
    obtain ⟨l1, l2⟩ := hL hp
    replace HD := Lib.hid (HD.out hp)
    replace HSQ := Lib.hid (HSQ.out hp)
    have HSH1 := Lib.hid (HSH.out hp)
    replace HQB := Lib.hid (HQB.out hp)
    obtain ⟨lf, rfl⟩ := Int.eq_ofNat_of_zero_le l1
    rw [Int.toNat_natCast] at HSH1
    have v1 : IntKind.i64.wrap (total - (total - (lf : Int))) = (lf : Int) := by rw [IntWalk.i64_in _ (by omega)]; omega
    obtain ⟨sm, hsm⟩ : ∃ s, s = total - (lf : Int) := ⟨_, rfl⟩
    rw [← hsm] at v1 HSQ
    clear HSH hL hsm
    go_enter Try.func15, Try.ntmps15
    go_wp2_with (first
      | (go_at_call 13; with_reducible (refine Calls.mono HU.out ?_); rintro e w1 ⟨A1, c1, rfl, hi1, hb1⟩; have HI := Lib.hid hi1; replace hb1 := Lib.hid hb1; clear hi1)
      | (go_at_call 29; with_reducible (refine Calls.mono (HD.out _ _ _ HI.out) ?_); rintro e w2 ⟨g1, g2, rfl, hd⟩; replace hd := Lib.hid hd)
      | (go_at_call 30; with_reducible (refine Calls.mono (HG.out _ _ hd.out.2.2.2.2.1) ?_); rintro e w3 ⟨g3, rfl, hg⟩; replace hg := Lib.hid hg)
      | (go_at_call 28; with_reducible (refine Calls.mono (HSQ.out _ _ hd.out.2.2.2.1) ?_); rintro e w2 ⟨rfl, rfl⟩)
      | (go_at_call 28; with_reducible (refine Calls.mono (HSU.out _ _ _ HI.out) ?_); rintro e w2 ⟨rfl, rfl⟩))
    obtain ⟨ne12, x1, x2, r1, r2, bb2⟩ := hd.out
    obtain ⟨x3, r3, bb3⟩ := hg.out
    have r1' := r1.below bb3 r1.lt
    have hbw := chain (chain hb1.out bb2) bb3
    have hsw := hb1.out.size
    have R0 : Hid (Rw g1 (addO (srtI T 0 n) Q 0) w3 ∧ Rw g3 (srtI T 0 n) w3 ∧ Below w.heap.size w w3) := ⟨r1', r3, hbw⟩
    have HNE : Hid (g1 ≠ g3 ∧ w.heap.size ≤ g1) := ⟨by have := r1.lt; omega, by omega⟩
    have HAN : Hid (∀ k, addO (srtI T 0 n) Q (k + 1) = (addO (srtI T 0 n) Q k).set ((srtI T 0 n).getD k 0).toNat ((addO (srtI T 0 n) Q k).getD ((srtI T 0 n).getD k 0).toNat 0 + 1)) := fun _ => rfl
    have HAL : Hid (∀ k, (addO (srtI T 0 n) Q k).length = n) := fun k => by rw [addO_len, HQL.out]
    obtain ⟨AD, hAD⟩ : ∃ F, F = addO (srtI T 0 n) Q := ⟨_, rfl⟩
    simp only [← hAD] at HSH1 HQB R0 HAN HAL
    obtain ⟨O, hO⟩ : ∃ F, F = srtI T 0 n := ⟨_, rfl⟩
    simp only [← hO] at HO HOL R0 HAN
    clear hd hg ne12 x1 x2 r1 r2 bb2 x3 r3 bb3 r1' hbw hsw hAD hO HI HSU HG HU HD HSQ hb1
    go_loopw [51] (fun v wx => ∃ k : Nat, k ≤ lf ∧ v = .int .i64 k ∧ Hid (Rw g1 (AD k) wx ∧ Rw g3 O wx ∧ Below w.heap.size w wx)) (fun v _ => lf - (intOf v).toNat)
    case atStart => exact ⟨0, Nat.zero_le _, rfl, R0⟩
    case round =>
      clear R0
      obtain ⟨k, hk, rfl, HI⟩ := hrel
      by_cases hlt : k < lf
      · obtain ⟨r1, r3, hb⟩ := HI.out
        obtain ⟨b, hob, hbn⟩ := HO.out k (by omega)
        have c1 := r3.cell (i := k) (by rw [HOL.out]; omega)
        rw [hob] at c1
        have c2 := r1.cell (i := b) (by rw [HAL.out]; exact hbn)
        have f2 := r1.thaw b
        have hq := HQB.out k b hbn
        have hn := HAN.out k
        rw [hob, Int.toNat_natCast] at hn
        have s1 := r1.set b ((AD k).getD b 0 + 1)
        rw [← hn] at s1
        obtain ⟨x, hx⟩ : ∃ x, x = (AD k).getD b 0 := ⟨_, rfl⟩
        rw [← hx] at c2 hq s1
        have R : Hid (Rw g1 (AD (k + 1)) (wr.setCell ⟨g1, b, none⟩ (.int .i64 (x + 1))) ∧ Rw g3 O (wr.setCell ⟨g1, b, none⟩ (.int .i64 (x + 1))) ∧ Below w.heap.size w (wr.setCell ⟨g1, b, none⟩ (.int .i64 (x + 1)))) :=
          ⟨s1, r3.other (Ne.symm HNE.out.1) b _, hb.setCell (p := ⟨g1, b, none⟩) HNE.out.2 _⟩
        have k1 : (k : Int) < (lf : Int) := by omega
        have k0 : (0 : Int) ≤ (k : Int) := by omega
        have k2 : (b : Int) < (n : Int) := by omega
        have v2 : IntKind.i64.wrap (x + 1) = x + 1 := IntWalk.i64_in _ (by omega)
        clear HI r1 r3 hb hob s1 hn hx hq
        go_wp2
        go_roundw
        case rel => exact ⟨k + 1, by omega, by go_num, R⟩
        case measure => simp [intOf]; omega
      · have hkl : k = lf := by omega
        subst hkl
        have k1 : ¬ (k : Int) < (k : Int) := by omega
        have R := HI.out
        rw [← HSH1.out] at R
        replace R := Lib.hid R
        clear HI
        go_wp2
        go_ret2
        first
          | exact .inr ⟨hz, g1, rfl, R.out.1.ints, R.out.2.2⟩
          | exact ⟨g1, rfl, R.out.1.ints, R.out.2.2⟩

end Go.Proofs.Ytcbimgdgodeppaa
