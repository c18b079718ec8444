/-
  slices.insertionSortCmpFunc on numbers a, a + 1, .. b - 1 of a row of integers: they lie in their order.
-/
import Derived.Test.YtcbimgdgodeppaaSortR
import Derived.Deep.QuietTactic
namespace Go.Proofs.Ytcbimgdgodeppaa
open Go.RowKit

/-- What the function that compares tells: below 0, if the first one has the greater rest. -/
def cmpR (r : List Int) (x y : Int) : Int := if r.getD y.toNat 0 < r.getD x.toNat 0 then -1 else if r.getD x.toNat 0 < r.getD y.toNat 0 then 1 else 0
theorem cmpR_neg {r : List Int} {x y : Int} : cmpR r x y < 0 ↔ r.getD y.toNat 0 < r.getD x.toNat 0 := by
  unfold cmpR
  split
  · exact ⟨fun _ => by assumption, fun _ => by decide⟩
  · split
    · exact ⟨fun h => absurd h (by decide), fun h => absurd h (by assumption)⟩
    · exact ⟨fun h => absurd h (by decide), fun h => absurd h (by assumption)⟩
theorem cmpR_bef {r : List Int} {x y : Int} (h : y < x) : cmpR r x y < 0 ↔ befR r x y := by
  rw [cmpR_neg]; unfold befR; omega
theorem cmpR_not {r : List Int} {x y : Int} (h : y < x) : ¬ cmpR r x y < 0 ↔ befR r y x := by
  rw [cmpR_neg]; unfold befR; omega
/-- What is asked of the function that compares. -/
structure CmpOk (fn : FuncId) (cb : Array Value) (g N : Nat) (w0 : World) (r : List Int) : Prop where
  enters : ∀ args w, (callFunc fn args).run Try.prog w = .ok (.enter fn args) w
  call : ∀ (x y : Int) (W : World), Below g w0 W → 0 ≤ x → x < N → 0 ≤ y → y < N →
    Calls Try.prog fn (#[.int .i64 x, .int .i64 y] ++ cb) W fun e w' => e = .returned (.int .i64 (cmpR r x y)) ∧ ∃ m, w' = W.drewN m
theorem runI_cons {a b : Nat} (h : a < b) : runI a b = (a : Int) :: runI (a + 1) b := by
  rw [← runI_app (a := a) (m := a + 1) (b := b) (by omega) (by omega)]
  unfold runI
  rw [show a + 1 - a = 1 by omega]; rfl
theorem srtI_one (r : List Int) (a : Nat) : srtI r a (a + 1) = [(a : Int)] := by
  unfold srtI
  rw [show a + 1 - a = 1 by omega]; rfl

set_option maxHeartbeats 3200000 in
set_option maxRecDepth 20000 in
theorem insSort_go (g N cap a b : Nat) (fn : FuncId) (cb : Array Value) (r P S l : List Int) (w0 w : World) (HC : CmpOk fn cb g N w0 r) (hl : l = P ++ (runI a b ++ S)) (hS : Srt g w0 l w) (hN : l.length = N) (ha : P.length = a) (hab : a ≤ b) (hbN : b ≤ N) (hx : N ≤ 100000) :
    Calls Try.prog 48 #[.slice (some ⟨g, 0, none⟩) N cap, .int .i64 a, .int .i64 b, .func (.func fn) #[] cb] w fun e w' => e = .returned (.tuple #[]) ∧ Srt g w0 (P ++ (srtI r a b ++ S)) w' := by
  have H0 : Hid (Srt g w0 (P ++ (srtI r a (min (a + 1) b) ++ (runI (min (a + 1) b) b ++ S))) w) := by
    unfold Hid
    rcases Nat.lt_or_ge a b with h | h
    · rw [Nat.min_eq_left (by omega), srtI_one, List.singleton_append, ← List.cons_append, ← runI_cons h, ← hl]; exact hS
    · rw [show min (a + 1) b = b by omega, srtI_none r h, runI_none (Nat.le_refl _), List.nil_append, List.nil_append]
      rw [runI_none h, List.nil_append] at hl
      rw [← hl]; exact hS
  have HLN : Hid (∀ M : List Int, ∀ i, a ≤ i → i ≤ b → M.Perm (runI a i) → (P ++ (M ++ (runI i b ++ S))).length = N) := fun M i h1 h2 hp => by
    rw [← hN, hl]
    simp only [List.length_append, hp.length_eq, runI_len]; omega
  have HP := Lib.hid ha
  have HCC := Lib.hid HC
  have eg := HC.enters
  have mixed := Try.mixedS
  have habi : (a : Int) ≤ (b : Int) := by omega
  clear hl hS hN ha HC
  go_enter Try.func48, Try.ntmps48
  go_wp2
  go_loopw [8] (fun v wr => ∃ i : Nat, a + 1 ≤ i ∧ i ≤ b + 1 ∧ v = .int .i64 i ∧ Hid (Srt g w0 (P ++ (srtI r a (min i b) ++ (runI (min i b) b ++ S))) wr)) (fun v _ => b + 1 - (intOf v).toNat)
  case atStart => exact ⟨a + 1, Nat.le_refl _, by omega, by go_num, H0⟩
  case round =>
    clear H0
    obtain ⟨i, hai, hib, rfl, S1⟩ := hrel
    by_cases hlt : i < b
    · have k1 : (i : Int) < (b : Int) := by omega
      have HI : Hid (∃ M1 M2 : List Int, Srt g w0 (P ++ (M1 ++ ((i : Int) :: (M2 ++ (runI (i + 1) b ++ S))))) wr ∧ P.length + M1.length = i ∧ M1 ++ M2 = srtI r a i ∧ ∀ y ∈ M2, befR r (i : Int) y) :=
        ⟨srtI r a i, [], by have h := S1.out; rw [Nat.min_eq_left (by omega), runI_cons hlt] at h; exact h, by rw [HP.out, srtI_len r (by omega)]; omega, List.append_nil _, by simp⟩
      have HO : Hid (∀ M1 M2 : List Int, M1 ++ M2 = srtI r a i → (∀ y ∈ M2, befR r (i : Int) y) → (∀ y ∈ M1, befR r y (i : Int)) → ∀ W, Srt g w0 (P ++ (M1 ++ ((i : Int) :: (M2 ++ (runI (i + 1) b ++ S))))) W → Srt g w0 (P ++ (srtI r a (min (i + 1) b) ++ (runI (min (i + 1) b) b ++ S))) W) := fun M1 M2 hM h2 h1 W hW => by
        have hs := srtI_asc r a i
        rw [← hM] at hs
        have e : M1 ++ (i : Int) :: M2 = srtI r a (i + 1) := srtI_of r (by omega) (by
          have p1 : (M1 ++ (i : Int) :: M2).Perm (M1 ++ M2 ++ [(i : Int)]) := by
            rw [List.append_assoc]
            exact List.Perm.append_left M1 (List.perm_append_comm (l₁ := [(i : Int)]) (l₂ := M2))
          refine p1.trans ?_
          rw [hM, ← runI_app (a := a) (m := i) (b := i + 1) (by omega) (by omega), ← srtI_one r i]
          exact List.Perm.append (srtI_perm r (by omega)) (srtI_perm r (by omega))) (put_in hs h1 h2)
        rw [Nat.min_eq_left (by omega), ← e]
        have e2 : P ++ (M1 ++ (i : Int) :: M2 ++ (runI (i + 1) b ++ S)) = P ++ (M1 ++ ((i : Int) :: (M2 ++ (runI (i + 1) b ++ S)))) := by simp only [List.append_assoc, List.cons_append]
        rw [e2]; exact hW
      have HL2 : Hid (∀ M1 M2 : List Int, M1 ++ M2 = srtI r a i → (P ++ (M1 ++ ((i : Int) :: (M2 ++ (runI (i + 1) b ++ S))))).length = N) := fun M1 M2 hM => by
        have h1 := HLN.out (srtI r a i) i (by omega) (by omega) (srtI_perm r (by omega))
        rw [← hM, runI_cons hlt] at h1
        simp only [List.length_append, List.length_cons] at h1 ⊢
        omega
      have HM : Hid (∀ M1 M2 : List Int, M1 ++ M2 = srtI r a i → ∀ y ∈ M1, 0 ≤ y ∧ y < (i : Int)) := fun M1 M2 hM y hy => by
        obtain ⟨k, rfl, _, h2⟩ := runI_mem.1 ((srtI_perm r (show a ≤ i by omega)).subset (by rw [← hM]; exact List.mem_append_left _ hy))
        omega
      clear S1
      go_wp2
      go_loopw [9] (fun v wx => ∃ j : Nat, a ≤ j ∧ j ≤ i ∧ v = .int .i64 j ∧ Hid (∃ M1 M2 : List Int, Srt g w0 (P ++ (M1 ++ ((i : Int) :: (M2 ++ (runI (i + 1) b ++ S))))) wx ∧ P.length + M1.length = j ∧ M1 ++ M2 = srtI r a i ∧ ∀ y ∈ M2, befR r (i : Int) y)) (fun v _ => (intOf v).toNat)
      case atStart => exact ⟨i, by omega, Nat.le_refl _, rfl, HI⟩
      case round =>
        clear HI
        obtain ⟨j, haj, hji, rfl, HI⟩ := hrel
        obtain ⟨M1, M2, SJ, hj, hM, h2⟩ := HI.out
        by_cases hja : a < j
        · obtain ⟨M0, y, rfl⟩ : ∃ M0 y, M1 = M0 ++ [y] := ⟨M1.dropLast, M1.getLast (by intro e; subst e; rw [HP.out] at hj; simp at hj; omega), (List.dropLast_concat_getLast _).symm⟩
          have hy := HM.out _ _ hM y (by simp)
          have hlen := HL2.out _ _ hM
          obtain ⟨p, hp⟩ : ∃ p, p + 1 = j := ⟨j - 1, by omega⟩
          have hpl : p = P.length + M0.length := by rw [List.length_append] at hj; simp at hj; omega
          have eshape : P ++ (M0 ++ [y] ++ ((i : Int) :: (M2 ++ (runI (i + 1) b ++ S)))) = (P ++ M0) ++ y :: ([] ++ (i : Int) :: (M2 ++ (runI (i + 1) b ++ S))) := by simp only [List.append_assoc, List.cons_append, List.nil_append]
          rw [eshape] at SJ hlen
          have q1 : p = (P ++ M0).length := by rw [List.length_append]; exact hpl
          have q2 : j = (P ++ M0).length + 1 + ([] : List Int).length := by rw [← q1, List.length_nil]; omega
          have c1 := SJ.cell (i := p) (by rw [hlen]; omega)
          have c2 := SJ.cell (i := j) (by rw [hlen]; omega)
          have d1 : ((P ++ M0) ++ y :: ([] ++ (i : Int) :: (M2 ++ (runI (i + 1) b ++ S)))).getD p 0 = y := by rw [q1]; exact getD_head _ _ _
          have d2 : ((P ++ M0) ++ y :: ([] ++ (i : Int) :: (M2 ++ (runI (i + 1) b ++ S)))).getD j 0 = (i : Int) := by
            have e3 : (P ++ M0) ++ y :: ([] ++ (i : Int) :: (M2 ++ (runI (i + 1) b ++ S))) = ((P ++ M0) ++ [y]) ++ (i : Int) :: (M2 ++ (runI (i + 1) b ++ S)) := by simp only [List.append_assoc, List.cons_append, List.nil_append]
            rw [e3, q2, show (P ++ M0).length + 1 + ([] : List Int).length = ((P ++ M0) ++ [y]).length by simp; omega]; exact getD_head _ _ _
          rw [d1] at c1
          rw [d2] at c2
          have g1 : (a : Int) < (j : Int) := by omega
          have gd : decide ((j : Int) > (a : Int)) = true := decide_eq_true g1
          have e1 : (j : Int) - 1 = (p : Int) := by omega
          have ra : IntKind.i64.wrap ((j : Int) - 1) = (p : Int) := by rw [e1]; exact IntWalk.i64_in _ (by omega)
          have pN : (p : Int) < (N : Int) := by omega
          have jN : (j : Int) < (N : Int) := by omega
          have hc : ∀ n, Calls Try.prog fn (#[.int .i64 (i : Int), .int .i64 y] ++ cb) (wr.drewN n) fun e w' => e = .returned (.int .i64 (cmpR r i y)) ∧ ∃ m, w' = (wr.drewN n).drewN m := fun n => HCC.out.call i y (wr.drewN n) (SJ.drewN n).below (by omega) (by omega) hy.1 (by omega)
          have f1 := SJ.thaw p
          have f2 := SJ.thaw j
          have hbef := cmpR_bef (r := r) (x := (i : Int)) (y := y) hy.2
          have hnot := cmpR_not (r := r) (x := (i : Int)) (y := y) hy.2
          obtain ⟨z, hz⟩ : ∃ z, z = cmpR r i y := ⟨_, rfl⟩
          rw [← hz] at hc hbef hnot
          by_cases hneg : z < 0
          · have gz : decide (z < 0) = true := decide_eq_true hneg
            have hb := hbef.1 hneg
            have S2 : Hid (∀ k, Srt g w0 (P ++ (M0 ++ ((i : Int) :: ((y :: M2) ++ (runI (i + 1) b ++ S))))) (((wr.drewN k).setCell ⟨g, j, none⟩ (.int .i64 y)).setCell ⟨g, p, none⟩ (.int .i64 (i : Int))).drew) := fun k => by
              have h := (SJ.drewN k).swap j p
              rw [d1, d2, swapL_comm _ (show j ≠ p by omega), swapL_app _ _ _ _ _ q1 q2] at h
              have e4 : (P ++ M0) ++ (i : Int) :: ([] ++ y :: (M2 ++ (runI (i + 1) b ++ S))) = P ++ (M0 ++ ((i : Int) :: ((y :: M2) ++ (runI (i + 1) b ++ S)))) := by simp only [List.append_assoc, List.cons_append, List.nil_append]
              rw [e4] at h; exact h
            have c3 : Hid (∀ k, ∃ u, ((wr.drewN k).setCell ⟨g, j, none⟩ (.int .i64 y)).cell? ⟨g, p, none⟩ = some u) := fun k => (SJ.drewN k).some (by rw [hlen]; omega) y
            have HR : Hid (P.length + M0.length = p ∧ M0 ++ (y :: M2) = srtI r a i ∧ ∀ u ∈ y :: M2, befR r (i : Int) u) := ⟨hpl.symm, by rw [← hM]; simp, fun u hu => by
              rcases List.mem_cons.1 hu with rfl | hu
              · exact hb
              · exact h2 u hu⟩
            clear HI SJ hM h2 hy hlen eshape q1 q2 d1 d2 hbef hnot hz hb HM HL2 HO HLN HP hpl hj
            go_wp2_with fail
            go_quiet (first | (go_at_fn fn; with_reducible (refine Calls.quiet_of (hc _))))
            obtain ⟨u, c3⟩ := c3.out nq
            have S3 := Lib.hid (S2.out nq)
            have c1' : (wr.drewN nq).cell? ⟨g, p, none⟩ = some (.int .i64 y) := c1
            have c2' : (wr.drewN nq).cell? ⟨g, j, none⟩ = some (.int .i64 (i : Int)) := c2
            have f1' : (wr.drewN nq).frozen? ⟨g, p, none⟩ = false := f1
            have f2' : (wr.drewN nq).frozen? ⟨g, j, none⟩ = false := f2
            clear S2 c1 c2 f1 f2 hc
            obtain ⟨wq, hwq⟩ : ∃ wq, wq = wr.drewN nq := ⟨_, rfl⟩
            rw [← hwq] at c1' c2' f1' f2' c3 S3 ⊢
            clear hwq
            go_wp2_with fail
            go_big_region_o
            clear c1' c2' c3 f1' f2'
            go_wp2
            go_roundw
            case rel => first | exact ⟨p, by omega, by omega, by go_num, M0, y :: M2, S3.out, HR.out⟩ | exact ⟨p, by omega, by omega, by go_num, ⟨M0, y :: M2, S3.out, HR.out⟩⟩
            case measure => simp [intOf]; omega
          · have gz : decide (z < 0) = false := decide_eq_false hneg
            have hb := hnot.1 hneg
            have S2 : Hid (∀ k, Srt g w0 (P ++ (srtI r a (min (i + 1) b) ++ (runI (min (i + 1) b) b ++ S))) (wr.drewN k)) := fun k => by
              rw [← eshape] at SJ
              refine HO.out (M0 ++ [y]) M2 hM h2 ?_ _ (SJ.drewN k)
              have hs := srtI_asc r a i
              rw [← hM] at hs
              exact all_before (befR_total r) (asc_left hs) hb
            clear HI SJ hM h2 hy hlen eshape q1 q2 d1 d2 hbef hnot hz hb HM HL2 HO HLN HP hpl hj
            go_wp2_with fail
            go_quiet (first | (go_at_fn fn; with_reducible (refine Calls.quiet_of (hc _))))
            go_wp2
            go_roundw
            case rel => exact ⟨i + 1, by omega, by omega, by go_num, S2.out nq⟩
            case measure => simp [intOf]; omega
        · have g1 : ¬ (a : Int) < (j : Int) := by omega
          have gd : decide ((j : Int) > (a : Int)) = false := decide_eq_false (by omega)
          have hM1 : M1 = [] := List.eq_nil_of_length_eq_zero (by have := HP.out; omega)
          subst hM1
          have S2 : Hid (∀ k, Srt g w0 (P ++ (srtI r a (min (i + 1) b) ++ (runI (min (i + 1) b) b ++ S))) (wr.drewN k)) := fun k => HO.out [] M2 hM h2 (by simp) _ (SJ.drewN k)
          clear HI SJ hM h2 HM HL2 HO HLN HP hj
          go_wp2_with fail
          go_quiet (fail)
          go_wp2
          go_roundw
          case rel => exact ⟨i + 1, by omega, by omega, by go_num, S2.out nq⟩
          case measure => simp [intOf]; omega
    · have k1 : ¬ (i : Int) < (b : Int) := by omega
      have S2 := S1.out
      rw [Nat.min_eq_right (by omega), runI_none (Nat.le_refl _), List.nil_append] at S2
      replace S2 := Lib.hid S2
      clear S1 HLN HP
      go_wp2
      go_end0
      exact ⟨rfl, S2.out⟩

end Go.Proofs.Ytcbimgdgodeppaa
