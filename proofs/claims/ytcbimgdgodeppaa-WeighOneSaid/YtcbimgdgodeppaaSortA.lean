/-
  slices.symMergeCmpFunc where one of the two neighbours has one entry: it is put where it belongs.
-/
import Derived.Test.YtcbimgdgodeppaaSortI
namespace Go.Proofs.Ytcbimgdgodeppaa
open Go.RowKit

theorem getD_seg (A B C : List Int) (i : Nat) (h : i < B.length) : (A ++ (B ++ C)).getD (A.length + i) 0 = B.getD i 0 := by
  rw [getD_app2, List.getD_eq_getElem?_getD, List.getD_eq_getElem?_getD, List.getElem?_append_left h]
theorem getD_mem' {l : List Int} {i : Nat} (h : i < l.length) : l.getD i 0 ∈ l := by
  simp [List.getD_eq_getElem?_getD, h]
theorem take_last {l : List Int} {i : Nat} (h : i < l.length) : l.take (i + 1) = l.take i ++ [l.getD i 0] := by
  rw [List.take_succ_eq_append_getElem h]; simp [List.getD_eq_getElem?_getD, h]
theorem drop_first {l : List Int} {i : Nat} (h : i < l.length) : l.drop i = l.getD i 0 :: l.drop (i + 1) := by
  rw [List.drop_eq_getElem_cons h]; simp [List.getD_eq_getElem?_getD, h]
section
variable {bef : Int → Int → Prop}
/-- One entry and those ahead of it, by the last of them; and those behind it, by the first. -/
theorem put_at (T : Total bef) {R : List Int} (h : Asc bef R) {x : Int} {e : Nat} (he : e ≤ R.length) (h1 : e = 0 ∨ bef (R.getD (e - 1) 0) x) (h2 : e = R.length ∨ bef x (R.getD e 0)) : Asc bef (R.take e ++ x :: R.drop e) := by
  refine put_in (by rw [List.take_append_drop]; exact h) (fun y hy => ?_) (fun y hy => ?_)
  · rcases h1 with rfl | h1
    · cases hy
    · rcases Nat.eq_zero_or_pos e with h0 | h0
      · subst h0; cases hy
      · obtain ⟨d, rfl⟩ : ∃ d, e = d + 1 := ⟨e - 1, by omega⟩
        rw [take_last (by omega)] at hy
        have ha : Asc bef (R.take d ++ [R.getD d 0]) := by
          rw [← take_last (by omega)]
          rw [← List.take_append_drop (d + 1) R] at h
          exact asc_left h
        exact all_before T ha (by simpa using h1) y hy
  · rcases h2 with rfl | h2
    · rw [List.drop_length] at hy; cases hy
    · rcases Nat.lt_or_ge e R.length with h0 | h0
      · rw [drop_first h0] at hy
        have ha : Asc bef (R.getD e 0 :: R.drop (e + 1)) := by
          rw [← drop_first h0]
          rw [← List.take_append_drop e R] at h
          exact asc_right h
        exact all_behind T ha h2 y hy
      · rw [List.drop_of_length_le h0] at hy; cases hy
end
theorem put_perm {R : List Int} (x : Int) (e : Nat) : (R.take e ++ x :: R.drop e).Perm (x :: R) := by
  refine (List.perm_middle).trans ?_
  rw [List.take_append_drop]

set_option maxHeartbeats 3200000 in
set_option maxRecDepth 20000 in
/-- The first one alone. -/
theorem symA_go (g N cap a m b : Nat) (fn : FuncId) (cb : Array Value) (r P R S l : List Int) (x : Int) (w0 w : World) (HC : CmpOk fn cb g N w0 r) (hl : l = P ++ (x :: (R ++ S))) (hS : Srt g w0 l w) (hN : l.length = N) (ha : P.length = a) (hm : a + 1 = m) (hb : m + R.length = b) (hR : Asc (befR r) R)
    (hap : ∀ y ∈ R, x < y) (hin : ∀ y ∈ x :: R, 0 ≤ y ∧ y < N) (hx : N ≤ 100000) :
    Calls Try.prog 49 #[.slice (some ⟨g, 0, none⟩) N cap, .int .i64 a, .int .i64 m, .int .i64 b, .func (.func fn) #[] cb] w fun e w' => e = .returned (.tuple #[]) ∧ ∃ M : List Int, M.Perm (x :: R) ∧ Asc (befR r) M ∧ Srt g w0 (P ++ (M ++ S)) w' := by
  have hbN : b ≤ N := by rw [← hN, hl]; simp only [List.length_append, List.length_cons]; omega
  have hval : ∀ i, m ≤ i → i < b → l.getD i 0 = R.getD (i - m) 0 := fun i h1 h2 => by
    rw [hl, show P ++ (x :: (R ++ S)) = (P ++ [x]) ++ (R ++ S) by simp, show i = (P ++ [x]).length + (i - m) by rw [List.length_append, List.length_singleton]; omega, getD_seg _ _ _ _ (by omega)]
    congr 1
    rw [List.length_append, List.length_singleton]; omega
  have hvx : l.getD a 0 = x := by rw [hl, ← ha]; exact getD_head P x _
  have HV : Hid (∀ i, m ≤ i → i < b → x < l.getD i 0 ∧ 0 ≤ l.getD i 0 ∧ l.getD i 0 < N) := fun i h1 h2 => by
    rw [hval i h1 h2]
    have hm := getD_mem' (l := R) (i := i - m) (by omega)
    have := hin _ (List.mem_cons_of_mem _ hm)
    exact ⟨hap _ hm, this.1, this.2⟩
  have hxb := hin x (List.mem_cons_self ..)
  have HF : Hid (∀ i, m ≤ i → i ≤ b → (i = m ∨ befR r (l.getD (i - 1) 0) x) → (i = b ∨ befR r x (l.getD i 0)) → Asc (befR r) (R.take (i - m) ++ x :: R.drop (i - m))) := fun i h1 h2 h3 h4 => by
    refine put_at (befR_total r) hR (by omega) ?_ ?_
    · rcases h3 with h3 | h3
      · exact .inl (by omega)
      · rcases Nat.eq_or_lt_of_le h1 with h0 | h0
        · exact .inl (by omega)
        · right
          rw [hval (i - 1) (by omega) (by omega)] at h3
          rw [show i - m - 1 = i - 1 - m by omega]; exact h3
    · rcases h4 with h4 | h4
      · exact .inl (by omega)
      · rcases Nat.eq_or_lt_of_le h2 with h0 | h0
        · exact .inl (by omega)
        · right; rw [hval i h1 h0] at h4; exact h4
  have HLR : Hid (m + R.length = b) := hb
  have HPA : Hid (P.length = a) := ha
  have HK : Hid (∀ t, t < R.length → ∀ W, Srt g w0 (P ++ (R.take t ++ (x :: (R.drop t ++ S)))) W → W.cell? ⟨g, a + t, none⟩ = some (.int .i64 x) ∧ (∃ y, W.cell? ⟨g, a + t + 1, none⟩ = some (.int .i64 y) ∧
      (∃ u, (W.setCell ⟨g, a + t, none⟩ (.int .i64 y)).cell? ⟨g, a + t + 1, none⟩ = some u) ∧ Srt g w0 (P ++ (R.take (t + 1) ++ (x :: (R.drop (t + 1) ++ S)))) ((W.setCell ⟨g, a + t, none⟩ (.int .i64 y)).setCell ⟨g, a + t + 1, none⟩ (.int .i64 x)).drew) ∧
      W.frozen? ⟨g, a + t, none⟩ = false ∧ W.frozen? ⟨g, a + t + 1, none⟩ = false) := fun t ht W hW => by
    have e1 : P ++ (R.take t ++ (x :: (R.drop t ++ S))) = (P ++ R.take t) ++ x :: ([] ++ R.getD t 0 :: (R.drop (t + 1) ++ S)) := by rw [drop_first ht]; simp only [List.append_assoc, List.cons_append, List.nil_append]
    have e2 : (P ++ R.take t) ++ R.getD t 0 :: ([] ++ x :: (R.drop (t + 1) ++ S)) = P ++ (R.take (t + 1) ++ (x :: (R.drop (t + 1) ++ S))) := by rw [take_last ht]; simp only [List.append_assoc, List.cons_append, List.nil_append]
    have l1 : (P ++ R.take t).length = a + t := by rw [List.length_append, List.length_take]; omega
    rw [e1] at hW
    have g1 : ((P ++ R.take t) ++ x :: ([] ++ R.getD t 0 :: (R.drop (t + 1) ++ S))).getD (a + t) 0 = x := by rw [← l1]; exact getD_head _ _ _
    have g2 : ((P ++ R.take t) ++ x :: ([] ++ R.getD t 0 :: (R.drop (t + 1) ++ S))).getD (a + t + 1) 0 = R.getD t 0 := by
      rw [show (P ++ R.take t) ++ x :: ([] ++ R.getD t 0 :: (R.drop (t + 1) ++ S)) = ((P ++ R.take t) ++ [x]) ++ R.getD t 0 :: (R.drop (t + 1) ++ S) by simp only [List.append_assoc, List.cons_append, List.nil_append], show a + t + 1 = ((P ++ R.take t) ++ [x]).length by rw [List.length_append, l1]; rfl]
      exact getD_head _ _ _
    have hlen : a + t + 1 < ((P ++ R.take t) ++ x :: ([] ++ R.getD t 0 :: (R.drop (t + 1) ++ S))).length := by rw [List.length_append, l1]; simp only [List.length_cons, List.nil_append]; omega
    have c1 := hW.cell (i := a + t) (by omega)
    have c2 := hW.cell (i := a + t + 1) hlen
    have s := hW.swap (a + t) (a + t + 1)
    rw [swapL_app _ _ _ _ _ l1.symm (by rw [l1]; rfl), e2] at s
    rw [g1, g2] at s
    rw [g1] at c1
    rw [g2] at c2
    exact ⟨c1, ⟨_, c2, hW.some hlen _, s⟩, hW.thaw _, hW.thaw _⟩
  have H0 : Hid (∀ W, Srt g w0 l W → Srt g w0 (P ++ (R.take 0 ++ (x :: (R.drop 0 ++ S)))) W) := fun W h => by rw [List.take_zero, List.drop_zero, List.nil_append, ← hl]; exact h
  have HS := Lib.hid hS
  have HCC := Lib.hid HC
  have HLN := Lib.hid hN
  have eg := HC.enters
  have mixed := Try.mixedS
  have v1 : IntKind.i64.wrap ((m : Int) - (a : Int)) = 1 := by rw [IntWalk.i64_in _ (by omega)]; omega
  have hmb : m ≤ b := by omega
  have haN : (a : Int) < (N : Int) := by omega
  have hvx' := Lib.hid hvx
  clear hl hS hN ha hb hR hap hin HC hval hvx
  go_enter Try.func49, Try.ntmps49
  go_wp2
  go_loopw [10, 11] (fun vi vj wr => ∃ i j : Nat, m ≤ i ∧ i ≤ j ∧ j ≤ b ∧ vi = .int .i64 i ∧ vj = .int .i64 j ∧ Hid (Srt g w0 l wr ∧ (i = m ∨ befR r (l.getD (i - 1) 0) x) ∧ (j = b ∨ befR r x (l.getD j 0)))) (fun vi vj _ => (intOf vj).toNat - (intOf vi).toNat)
  case atStart => exact ⟨m, b, Nat.le_refl _, hmb, Nat.le_refl _, rfl, rfl, HS.out, .inl rfl, .inl rfl⟩
  case round =>
    clear HS
    obtain ⟨i, j, hmi, hij, hjb, rfl, rfl, HI⟩ := hrel
    by_cases hlt : i < j
    · obtain ⟨q1, q2, q3⟩ := HI.out
      obtain ⟨h, hh⟩ : ∃ h, h = (i + j) / 2 := ⟨_, rfl⟩
      have hi1 : i ≤ h := by omega
      have hj1 : h < j := by omega
      have vh := HV.out h (by omega) (by omega)
      have c1 := fun n => (q1.drewN n).cell (i := h) (by rw [HLN.out]; omega)
      have c2 := fun n => (q1.drewN n).cell (i := a) (by rw [HLN.out]; omega)
      rw [hvx'.out] at c2
      have hbef := cmpR_bef (r := r) vh.1
      have hnot := cmpR_not (r := r) vh.1
      have HR1 : Hid (∀ n, befR r (l.getD h 0) x → Srt g w0 l (wr.drewN n) ∧ (h + 1 = m ∨ befR r (l.getD (h + 1 - 1) 0) x) ∧ (j = b ∨ befR r x (l.getD j 0))) := fun n hq => ⟨q1.drewN n, .inr hq, q3⟩
      have HR2 : Hid (∀ n, befR r x (l.getD h 0) → Srt g w0 l (wr.drewN n) ∧ (i = m ∨ befR r (l.getD (i - 1) 0) x) ∧ (h = b ∨ befR r x (l.getD h 0))) := fun n hq => ⟨q1.drewN n, q2, .inr hq⟩
      obtain ⟨y, hy⟩ : ∃ y, y = l.getD h 0 := ⟨_, rfl⟩
      rw [← hy] at vh hbef hnot
      simp only [← hy] at c1
      have hc : ∀ n, Calls Try.prog fn (#[.int .i64 y, .int .i64 x] ++ cb) (wr.drewN n) fun e w' => e = .returned (.int .i64 (cmpR r y x)) ∧ ∃ m, w' = (wr.drewN n).drewN m := fun n => HCC.out.call y x (wr.drewN n) (q1.drewN n).below vh.2.1 vh.2.2 hxb.1 hxb.2
      have HB := Lib.hid hbef
      have HT := Lib.hid hnot
      have HY := Lib.hid hy
      obtain ⟨z, hz⟩ : ∃ z, z = cmpR r y x := ⟨_, rfl⟩
      rw [← hz] at hc HB HT
      have k1 : (i : Int) < (j : Int) := by omega
      have r1 : IntKind.i64.wrap ((i : Int) + (j : Int)) = (i : Int) + (j : Int) := IntWalk.i64_in _ (by omega)
      have r2 : IntKind.u64.wrap ((i : Int) + (j : Int)) = (i : Int) + (j : Int) := IntWalk.u64_in _ (by omega)
      have r3 : ((i : Int) + (j : Int)) / 2 = (h : Int) := by omega
      have r4 : IntKind.i64.wrap (h : Int) = (h : Int) := IntWalk.i64_in _ (by omega)
      have r5 : IntKind.u64.wrap (h : Int) = (h : Int) := IntWalk.u64_in _ (by omega)
      have hN1 : (h : Int) < (N : Int) := by omega
      clear hbef hnot hy hz HI q1 q2 q3 vh HV HF HK H0
      by_cases hneg : z < 0
      · have gz : decide (z < 0) = true := decide_eq_true hneg
        have hb := HB.out.1 hneg
        rw [HY.out] at hb
        have HR3 := Lib.hid (fun n => HR1.out n hb)
        clear hb HB HT HR1 HR2 hh
        go_wp2_with fail
        go_quiet (first | (go_at_fn fn; with_reducible (refine Calls.quiet_of (hc _))))
        go_wp2
        go_roundw
        case rel => first | exact ⟨h + 1, j, by omega, by omega, hjb, by go_num, rfl, HR3.out nq⟩ | ((repeat apply Exists.intro); exact ⟨⟨h + 1, j, by omega, by omega, hjb, by go_num, rfl, HR3.out nq⟩, rfl⟩)
        case measure => simp [intOf]; omega
      · have gz : decide (z < 0) = false := decide_eq_false hneg
        have hb := HT.out.1 hneg
        rw [HY.out] at hb
        have HR3 := Lib.hid (fun n => HR2.out n hb)
        clear hb HB HT HR1 HR2 hh
        go_wp2_with fail
        go_quiet (first | (go_at_fn fn; with_reducible (refine Calls.quiet_of (hc _))))
        go_wp2
        go_roundw
        case rel => first | exact ⟨i, h, hmi, hi1, by omega, rfl, rfl, HR3.out nq⟩ | ((repeat apply Exists.intro); exact ⟨⟨i, h, hmi, hi1, by omega, rfl, rfl, HR3.out nq⟩, rfl⟩)
        case measure => simp [intOf]; omega
    · have hij2 : i = j := by omega
      subst hij2
      obtain ⟨q1, q2, q3⟩ := HI.out
      have HA := Lib.hid (HF.out i hmi hjb q2 q3)
      have HS := Lib.hid (H0.out wr q1)
      have k1 : ¬ (i : Int) < (i : Int) := by omega
      have r1 : IntKind.i64.wrap ((i : Int) - 1) = (i : Int) - 1 := IntWalk.i64_in _ (by omega)
      clear HI q1 q2 q3 HF H0 HV HCC hvx'
      go_wp2
      go_loopw [13] (fun vk wx => ∃ t : Nat, t ≤ i - m ∧ vk = .int .i64 ((a + t : Nat) : Int) ∧ Hid (Srt g w0 (P ++ (R.take t ++ (x :: (R.drop t ++ S)))) wx)) (fun vk _ => i - (intOf vk).toNat)
      case atStart => exact ⟨0, Nat.zero_le _, by go_num, HS⟩
      case round =>
        clear HS
        obtain ⟨t, ht, rfl, HI⟩ := hrel
        by_cases hlt : t < i - m
        · obtain ⟨c1, ⟨y, c2, ⟨u, c3⟩, s⟩, f1, f2⟩ := HK.out t (by have := HLR.out; omega) _ HI.out
          replace s := Lib.hid s
          obtain ⟨p, hp⟩ : ∃ p, p = a + t := ⟨_, rfl⟩
          rw [← hp] at c1 c2 c3 s f1 f2 ⊢
          have g1 : (p : Int) < (i : Int) - 1 := by omega
          have g2 : (p : Int) < (N : Int) := by omega
          have g3 : (p : Int) + 1 < (N : Int) := by omega
          have e1 : ((p : Int) + 1).toNat = p + 1 := by omega
          have r6 : IntKind.i64.wrap ((p : Int) + 1) = (p : Int) + 1 := IntWalk.i64_in _ (by omega)
          have p1 : (0 : Int) ≤ (p : Int) + 1 := by omega
          have HP : Hid (p + 1 = a + (t + 1)) := by unfold Hid; omega
          have HM : Hid (p + 1 ≤ i) := by unfold Hid; omega
          clear HI hp
          go_wp2_with fail
          go_big_region_o
          clear c1 c2 c3 f1 f2
          go_wp2
          go_roundw
          case rel => first | exact ⟨t + 1, by omega, by rw [← HP.out]; go_num, s⟩ | ((repeat apply Exists.intro); exact ⟨⟨t + 1, by omega, by rw [← HP.out]; go_num, s⟩, rfl⟩)
          case measure => have := HM.out; simp [intOf]; omega
        · have hti : t = i - m := by omega
          subst hti
          have HE := Lib.hid HI.out
          obtain ⟨p, hp⟩ : ∃ p, p = a + (i - m) := ⟨_, rfl⟩
          have g1 : ¬ (p : Int) < (i : Int) - 1 := by omega
          rw [← hp]
          clear HI HK hp
          go_wp2
          (try simp only [Exit.inBlock, Exit.then]); refine bodyPost_ret (results_none rfl _ _ _) rfl ?_
          exact ⟨rfl, R.take (i - m) ++ x :: R.drop (i - m), put_perm x _, HA.out, by
            have h := HE.out
            rw [List.append_assoc, List.cons_append]; exact h⟩

end Go.Proofs.Ytcbimgdgodeppaa
