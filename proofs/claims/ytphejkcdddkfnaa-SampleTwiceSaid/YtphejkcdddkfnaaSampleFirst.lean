/-
  SampleFirst.
-/
import Derived.Test.YtphejkcdddkfnaaSampleNames
import Derived.Test.YtphejkcdddkfnaaSampleMoreN
namespace Go.Proofs.Ytphejkcdddkfnaa
open Go.RowKit

theorem refHasAny (A : Option Addr) (c : Nat) (l : List Int) (n : Int) (w : World) (h : Ints w w.heap.size .i64 A l) (hm : l.length ≤ 140737488355328) :
    Calls Try.prog 18 #[.slice A l.length c, .int .i64 n] w fun e w' => e = .returned (.bool (decide (n ∈ l))) ∧ ∃ m, w' = w.drewN m := by
  have HH := Lib.hid (refHas_any A c l n w h hm)
  clear h hm
  go_enter Try.func18, Try.ntmps18
  go_wp2_with (go_at_call 20; with_reducible (refine Calls.mono HH.out ?_); rintro e w2 ⟨rfl, m, rfl⟩)
  go_ret
  exact ⟨rfl, _, rfl⟩
theorem cell_drewN (w : World) (m : Nat) (a : Addr) : (w.drewN m).cell? a = w.cell? a := rfl
theorem own_drewN {w : World} {base e s n : Nat} {v : Value} {xs : List Value} (h : w.ownsRow base e s v n xs) (m : Nat) : (w.drewN m).ownsRow base e s v n xs := h
theorem sum_mono (f : Nat → Nat) {j n : Nat} (h : j ≤ n) : ((List.range j).map f).sum ≤ ((List.range n).map f).sum := by
  induction n with
  | zero => rw [Nat.le_zero.1 h]; exact Nat.le_refl _
  | succ n ih =>
    by_cases hj : j = n + 1
    · rw [hj]; exact Nat.le_refl _
    · have := ih (by omega)
      rw [List.range_succ, List.map_append, List.sum_append]; omega
theorem distFrom_ge (l : List Int) (x : Int) (n : Nat) : ∀ (k : Nat) (seen : List Int), seen.length + k ≤ n → -1 ≤ distFrom l x k seen ∧ distFrom l x k seen ≤ (n : Int)
  | 0, _, _ => by rw [show distFrom l x 0 _ = -1 from rfl]; omega
  | k + 1, seen, h => by
    unfold distFrom
    split
    · omega
    · refine distFrom_ge l x n k _ ?_
      split
      · omega
      · rw [List.length_append]; simp; omega
theorem distL_i64 (l : List Int) (hl : l.length ≤ 4611686018427387904) : I64s (distL l) := fun z hz => by
  unfold distL at hz
  obtain ⟨i, hi, rfl⟩ := List.mem_map.1 hz
  have hi := List.mem_range.1 hi
  have := distFrom_ge l (l.getD i 0) i i [] (by simp)
  unfold distAt
  omega

set_option maxHeartbeats 1600000 in
set_option maxRecDepth 20000 in
theorem sampleFirst_le (A : Option Addr) (c : Nat) (l : List Nat) (w : World) (HS : SampleSpec w) (h : Ints w w.heap.size .u8 A (up l)) (hlt : ∀ b ∈ l, b < 256) (hN : l.length ≤ 1000) :
    Calls Try.prog 7 #[.slice A l.length c] w fun e w' => e = .returned (.bool true) ∧ Below w.heap.size w w' := by
  obtain ⟨i0, hif, hz0, hz1, hz2⟩ := info_parts Try.infoI64s
  have HA := Lib.hid (sampleAwake HS)
  have hN2 : (l.length : Int) ≤ 1000 := by omega
  go_enter Try.func7, Try.ntmps7
  go_wp2
  go_loopw [3, 4, 5] (fun v u i wr => ∃ k : Nat, k ≤ l.length ∧ i = .int .i64 k ∧ (∃ A c, v = .slice A k c) ∧ (∃ A c, u = .slice A (thingsTo (up l) k).length c) ∧ Hid (wr.ownsRow w.heap.size 3 1 v k ((up (l.take k)).map (Value.int .i64)) ∧
      wr.ownsRow w.heap.size 3 1 u (thingsTo (up l) k).length ((thingsTo (up l) k).map (Value.int .i64)) ∧ Apart v u ∧ Below w.heap.size w wr)) (fun _ _ i _ => l.length - (intOf i).toNat)
  case atStart =>
    refine ⟨0, Nat.zero_le _, rfl, ⟨_, _, rfl⟩, ⟨_, _, rfl⟩, ?_⟩
    have h1 := (World.ownsRow_made (base := w.heap.size) (e := 3) (size := 1) w #[] 0 (Nat.le_refl _) (Nat.zero_le _) rfl).alloc (.cells #[] 3)
    have h2 := World.ownsRow_made (base := w.heap.size) (e := 3) (size := 1) (w.alloc (.cells #[] 3)) #[] 0 (by simp) (Nat.zero_le _) rfl
    rw [World.size_alloc] at h2
    exact ⟨h1, h2, fun q hq hq2 => by simp [Value.ownBlock] at hq hq2; omega, ((Below.refl _ _).alloc (Nat.le_refl _) _).alloc (by simp) _⟩
  case round =>
    obtain ⟨k, hk, rfl, ⟨A1, c1, rfl⟩, ⟨A2, c2, rfl⟩, hS⟩ := hrel
    by_cases hlt3 : k < l.length
    · have k1 : (k : Int) < (l.length : Int) := by omega
      have k2 : (k : Int) < 1000 := by omega
      have k0 : (0 : Int) ≤ (k : Int) := by omega
      obtain ⟨hown, hown2, hap, hbel⟩ := hS.out
      obtain ⟨b1, off, rfl, hbl, hc9⟩ := (h.below hbel) k (by rw [up_len]; exact hlt3)
      rw [up_getD] at hc9
      have ht1 := take_snocM (fun x : Nat => Value.int .i64 (x : Int)) l hlt3
      have e1 : ∀ j, (up (l.take j)).map (Value.int .i64) = (l.take j).map fun x : Nat => Value.int .i64 (x : Int) := fun j => by unfold up; rw [List.map_map]; rfl
      have hx2 : l.getD k 0 < 256 := by rw [List.getD_eq_getElem?_getD, List.getElem?_eq_getElem hlt3]; exact hlt _ (List.getElem_mem hlt3)
      rw [e1] at hown
      have hto : decide (((l.getD k 0 : Nat) : Int) ∈ thingsTo (up l) k) = true → thingsTo (up l) (k + 1) = thingsTo (up l) k := fun q => by
        rw [show thingsTo (up l) (k + 1) = if (up l).getD k 0 ∈ thingsTo (up l) k then thingsTo (up l) k else thingsTo (up l) k ++ [(up l).getD k 0] from rfl, up_getD, if_pos (of_decide_eq_true q)]
      have htn : decide (((l.getD k 0 : Nat) : Int) ∈ thingsTo (up l) k) = false → thingsTo (up l) (k + 1) = thingsTo (up l) k ++ [((l.getD k 0 : Nat) : Int)] := fun q => by
        rw [show thingsTo (up l) (k + 1) = if (up l).getD k 0 ∈ thingsTo (up l) k then thingsTo (up l) k else thingsTo (up l) k ++ [(up l).getD k 0] from rfl, up_getD, if_neg (of_decide_eq_false q)]
      have htl := thingsTo_le (up l) k
      obtain ⟨x, hx⟩ : ∃ x, x = l.getD k 0 := ⟨_, rfl⟩
      rw [← hx] at hc9 ht1 hx2 hto htn
      obtain ⟨P1, hP1⟩ : ∃ P, P = (l.take k).map fun x : Nat => Value.int .i64 (x : Int) := ⟨_, rfl⟩
      rw [← hP1] at hown ht1
      have HT1 := Lib.hid ((e1 (k + 1)).trans ht1)
      obtain ⟨T, hT⟩ : ∃ T, T = thingsTo (up l) k := ⟨_, rfl⟩
      rw [← hT] at hto htn htl hown2 hap
      rw [← hT]
      have HH := Lib.hid (fun (W : World) (hi : Ints W W.heap.size .i64 A2 T) => refHasAny A2 c2 T (x : Int) W hi (by omega))
      have x0 : (0 : Int) ≤ (x : Int) := by omega
      have x1 : (x : Int) < 256 := by omega
      clear hx ht1 e1 hP1 hS hx2 hT
      go_wp2_with (at_builtin; refine wpList_append_own_at _ rfl _ _ 25 rfl w.heap.size 3 i0 (.int .i64 0) 1 8 Try.underlying25 hif hz0 hz1 hz2 rfl (by decide) _ _ _ rfl (hown.alloc _) ⟨wr.heap.size, 0, none⟩ 1 1 [.int .i64 (x : Int)] rfl rfl (cell_one_new _ _ _) ?d1 ?d2 ?d3 ?d4 ?_)
      case d1 => first | rfl | (intro u hu; simp at hu; subst hu; rfl)
      case d2 => unfold maxLen; omega
      case d3 => omega
      case d4 => have := hbel.size; simp; omega
      intro v3 w3 hown3 hg3 _ hv3
      have hb3 : Below w.heap.size w w3 := (hbel.alloc hbel.size _).grown hg3 (by have := hbel.size; simp; omega) fun q hq => (hown.lt q hq).1
      have ho2 := own_kept (hown2.alloc (.cells #[.int .i64 (x : Int)] 3)) hg3 (fun q hq => hap q hq)
      have hap3 : Apart v3 (.slice A2 T.length c2) := hap.grown (N := wr.heap.size + 1) (fun q hq => by have := (hown2.lt q hq).2; omega) hv3
      have hc3 := (hb3.cell (p := ⟨b1, off + k, none⟩) hbl).trans ((hbel.cell (p := ⟨b1, off + k, none⟩) hbl).symm.trans hc9)
      have hi3 : Ints w3 w3.heap.size .i64 A2 T := Ints.of_own ho2
      obtain ⟨A3, c3, rfl⟩ := own_slice hown3
      clear hown hown2 hap hbel hg3 hc9 hv3
      rw [← HT1.out] at hown3
      by_cases hm : decide ((x : Int) ∈ T) = true
      · rw [hm] at HH
        have HTO := Lib.hid (hto hm)
        have R := Lib.hid (And.intro hown3 (And.intro ho2 (And.intro hap3 hb3)))
        clear hm hto htn hown3 ho2 hap3 hb3 htl
        go_wp2_with (go_at_call 18; with_reducible (refine Calls.mono (HH.out _ hi3) ?_); rintro e w4 ⟨rfl, m, rfl⟩)
        go_roundw
        case rel => first | exact ⟨k + 1, by omega, by go_num, ⟨A3, c3, rfl⟩, ⟨A2, c2, by rw [HTO.out]⟩, by rw [HTO.out]; exact ⟨R.out.1, R.out.2.1, R.out.2.2.1, below_drewN R.out.2.2.2 _⟩⟩ | ((repeat apply Exists.intro); exact ⟨⟨k + 1, by omega, by go_num, ⟨A3, c3, rfl⟩, ⟨A2, c2, by rw [HTO.out]⟩, by rw [HTO.out]; exact ⟨R.out.1, R.out.2.1, R.out.2.2.1, below_drewN R.out.2.2.2 _⟩⟩, rfl⟩)
        case measure => simp [intOf]; omega
      · rw [Bool.not_eq_true] at hm
        rw [hm] at HH
        have HTO := Lib.hid (htn hm)
        clear hm hto htn
        go_wp2_with (first
          | (go_at_call 18; with_reducible (refine Calls.mono (HH.out _ hi3) ?_); rintro e w4 ⟨rfl, m, hw4⟩; have hc4 : w4.cell? ⟨b1, off + k, none⟩ = some (.int .u8 (x : Int)) := (by rw [hw4, cell_drewN]; exact hc3); have hb4 : Below w.heap.size w w4 := (by rw [hw4]; exact below_drewN hb3 _); have hown4 : w4.ownsRow w.heap.size 3 1 (.slice A3 (k + 1) c3) (k + 1) ((up (l.take (k + 1))).map (Value.int .i64)) := (by rw [hw4]; exact own_drewN hown3 m); have ho4 : w4.ownsRow w.heap.size 3 1 (.slice A2 T.length c2) T.length (T.map (Value.int .i64)) := (by rw [hw4]; exact own_drewN ho2 m); clear hw4)
          | (at_builtin; refine wpList_append_own_at _ rfl _ _ 25 rfl w.heap.size 3 i0 (.int .i64 0) 1 8 Try.underlying25 hif hz0 hz1 hz2 rfl (by decide) _ _ _ rfl (ho4.alloc _) ⟨w4.heap.size, 0, none⟩ 1 1 [.int .i64 (x : Int)] rfl rfl (cell_one_new _ _ _) ?d1 ?d2 ?d3 ?d4 ?_))
        case d1 => first | rfl | (intro u hu; simp at hu; subst hu; rfl)
        case d2 => unfold maxLen; omega
        case d3 => omega
        case d4 => have := hb4.size; simp; omega
        intro v5 w5 hown5 hg5 _ hv5
        have R : Hid (w5.ownsRow w.heap.size 3 1 (.slice A3 (k + 1) c3) (k + 1) ((up (l.take (k + 1))).map (Value.int .i64)) ∧ w5.ownsRow w.heap.size 3 1 v5 (T.length + 1) ((T ++ [(x : Int)]).map (Value.int .i64)) ∧ Apart (.slice A3 (k + 1) c3) v5 ∧ Below w.heap.size w w5) := by
          refine ⟨?_, ?_, ?_, (hb4.alloc hb4.size _).grown hg5 (by have := hb4.size; simp; omega) fun q hq => (ho4.lt q hq).1⟩
          · exact own_kept (hown4.alloc (.cells #[.int .i64 (x : Int)] 3)) hg5 (fun q hq => hap3.symm q hq)
          · rw [List.map_append]; exact hown5
          · exact (hap3.symm.grown (N := w4.heap.size + 1) (fun q hq => by have := (hown4.lt q hq).2; omega) hv5).symm
        obtain ⟨A4, c4, rfl⟩ := own_slice R.out.2.1
        have hTl : (thingsTo (up l) (k + 1)).length = T.length + 1 := by rw [HTO.out]; simp
        have R2 : Hid (w5.ownsRow w.heap.size 3 1 (.slice A3 (k + 1) c3) (k + 1) ((up (l.take (k + 1))).map (Value.int .i64)) ∧ w5.ownsRow w.heap.size 3 1 (.slice A4 (T.length + 1) c4) (thingsTo (up l) (k + 1)).length ((thingsTo (up l) (k + 1)).map (Value.int .i64)) ∧ Apart (.slice A3 (k + 1) c3) (.slice A4 (T.length + 1) c4) ∧ Below w.heap.size w w5) := by
          rw [hTl, HTO.out]; exact R.out
        have HTL := Lib.hid hTl
        clear hown3 ho2 hap3 hb3 hown4 ho4 hown5 hg5 hv5 hc3 hc4 hi3 R hTl hb4 htl
        go_wp2
        go_roundw
        case rel => first | exact ⟨k + 1, by omega, by go_num, ⟨A3, c3, rfl⟩, ⟨A4, c4, by rw [HTL.out]⟩, R2.out⟩ | ((repeat apply Exists.intro); exact ⟨⟨k + 1, by omega, by go_num, ⟨A3, c3, rfl⟩, ⟨A4, c4, by rw [HTL.out]⟩, R2.out⟩, rfl⟩)
        case measure => simp [intOf]; omega
    · have hk8 : k = l.length := by omega
      subst hk8
      have hm9 : l.length ≤ 1000 := hN
      obtain ⟨hown, hown2, _, hbel⟩ := hS.out
      clear hS
      have hLl : (up l).length = l.length := by rw [up_len]
      have hlt9 : l.take l.length = l := List.take_length
      rw [hlt9] at hown
      have h64 : I64s (up l) := bytes_i64 hlt
      have hc1 := own_le hown
      have hi1 : Ints wr wr.heap.size .i64 A1 (up l) := Ints.of_own (n := l.length) (c := c1) (by rw [hLl]; exact hown)
      have hfirst := hist_first (up l)
      have hcount := hist_sum (thingsTo (up l) l.length).length (distL (up l))
      rw [hLl] at hfirst
      rw [hfirst, distL_len, hLl] at hcount
      have hTm := thingsTo_le (up l) l.length
      obtain ⟨q, hq⟩ : ∃ q, q = (thingsTo (up l) l.length).length := ⟨_, rfl⟩
      rw [← hq] at hfirst hcount hTm
      rw [← hq]
      obtain ⟨L, hL⟩ : ∃ L, L = up l := ⟨_, rfl⟩
      rw [← hL] at hLl h64 hi1 hfirst hcount
      clear hq hown hown2 hlt9
      have hdl : (distL L).length = l.length := by rw [distL_len, hLl]
      have H1 := HS.dist A1 c1 L
      rw [distR_le (by rw [hLl]; omega), hdl, hLl] at H1
      have K1 := Lib.hid (fun (W : World) (hb : Below w.heap.size w W) (h : Ints W W.heap.size .i64 A1 L) => H1 W hb h h64 hc1 (by omega))
      have K2 : Hid (∀ (W : World) (A : Option Addr) (c : Nat), Below w.heap.size w W → Ints W W.heap.size .i64 A (distL L) → l.length ≤ c →
          Calls Try.prog 16 #[.slice A l.length c, .int .i64 (q : Int)] W fun e w' => ∃ A' c', e = .returned (.tuple #[.slice A' q c', .int .i64 (q : Int), .int .i64 0]) ∧ Ints w' w'.heap.size .i64 A' (histC (distL L) q) ∧ Below W.heap.size W w') := fun W A c hb h hc => by
        have h3 := HS.hist A c (distL L) (q : Int) W hb h (distL_i64 L (by omega)) (by rw [hdl]; exact hc) (by omega)
        rw [hdl] at h3
        refine h3.mono fun e w' ⟨h4, h5⟩ => ?_
        rw [if_neg (by omega)] at h4
        obtain ⟨A', c', q1, _, q3⟩ := h4
        rw [Int.toNat_natCast] at q1 q3
        rw [hfirst] at q1
        exact ⟨A', c', q1, q3, h5⟩
      have q0 : (0 : Int) ≤ (q : Int) := by omega
      have HTM := Lib.hid hTm
      have HCOUNT := Lib.hid hcount
      have HM9 : Hid (l.length ≤ 1000) := by refine Lib.hid ?_; omega
      clear H1 h64 hLl HS hlt hfirst hcount hdl hc1 hL hTm
      go_wp2_with (first
        | (go_at_call 13; with_reducible (refine Calls.mono (K1.out _ hbel hi1) ?_); rintro e w4 ⟨A4, c4, rfl, hc4, hi4, hb4⟩; have hbx4 := chain hbel hb4)
        | (go_at_call 16; with_reducible (refine Calls.mono (K2.out _ _ _ hbx4 hi4 hc4) ?_); rintro e w5 ⟨A5, c5, rfl, hi5, hb5⟩; have hbx5 := chain hbx4 hb5))
      have HC : Hid (∀ j, j < q → ∃ b o, A5 = some ⟨b, o, none⟩ ∧ w5.cell? ⟨b, o + j, none⟩ = some (.int .i64 (countI (distL L) j : Nat))) := fun j hj => by
        obtain ⟨b, o, e, _, hc⟩ := hi5 j (by rw [histC_len]; exact hj)
        refine ⟨b, o, e, ?_⟩
        rw [hc]
        unfold histC
        simp [List.getD, hj]
      have HSM : Hid (∀ j, ((List.range (j + 1)).map (countI (distL L))).sum = ((List.range j).map (countI (distL L))).sum + countI (distL L) j) := fun j => by
        rw [List.range_succ, List.map_append, List.sum_append]; simp
      have HLE : Hid (∀ j, j ≤ q → ((List.range j).map (countI (distL L))).sum ≤ ((List.range q).map (countI (distL L))).sum) := fun j hj => sum_mono _ hj
      obtain ⟨F, hF⟩ : ∃ F : Nat → Nat, F = fun j => ((List.range j).map (countI (distL L))).sum := ⟨_, rfl⟩
      have hFF : ∀ j, ((List.range j).map (countI (distL L))).sum = F j := fun j => by rw [hF]
      simp only [hFF] at HCOUNT HSM HLE
      have HF0 : Hid (F 0 = 0) := by rw [hF]; rfl
      clear hF hFF hi5 hi4 hc4 hb4 hb5 hbx4 hi1 hbel K1 K2
      go_wp2
      go_loopw [10, 11] (fun s i wi => ∃ j : Nat, j ≤ q ∧ i = .int .i64 j ∧ s = .int .i64 ((q + F j : Nat) : Int) ∧ wi = w5) (fun _ i _ => q - (intOf i).toNat)
      case atStart => exact ⟨0, Nat.zero_le _, rfl, by rw [HF0.out]; rfl, rfl⟩
      case round =>
        obtain ⟨j, hj, rfl, rfl, rfl⟩ := hrel
        by_cases hj2 : j < q
        · obtain ⟨b5, o5, rfl, hc5⟩ := HC.out j hj2
          have j1 : (j : Int) < (q : Int) := by omega
          have j0 : (0 : Int) ≤ (j : Int) := by omega
          have j2 : (j : Int) < 4096 := by have h1 := HTM.out; have h2 := HM9.out; omega
          have hs := HSM.out j
          have hle := HLE.out (j + 1) (by omega)
          have hcc := HCOUNT.out
          have hm9 := HM9.out
          obtain ⟨y, hy⟩ : ∃ y, y = countI (distL L) j := ⟨_, rfl⟩
          rw [← hy] at hc5 hs
          have hw9 : (q : Int) + (F j : Int) + (y : Int) ≤ 2000 := by have := HTM.out; omega
          have HS9 : Hid ((q : Int) + (F j : Int) + (y : Int) = ((q + F (j + 1) : Nat) : Int)) := by refine Lib.hid ?_; rw [hs]; omega
          clear hs hle hcc hy hm9
          go_wp2
          go_roundw
          case rel => first | exact ⟨j + 1, by omega, by go_num, by first | (rw [HS9.out]; done) | rfl, by first | rfl | trivial⟩ | ((repeat apply Exists.intro); exact ⟨⟨j + 1, by omega, by go_num, by first | (rw [HS9.out]; done) | rfl, by first | rfl | trivial⟩, rfl⟩)
          case measure => simp [intOf]; omega
        · have hj8 : j = q := by omega
          subst hj8
          have hsum : ((j + F j : Nat) : Int) = ((l.length : Nat) : Int) := by have := HCOUNT.out; omega
          rw [hsum]
          clear hsum HC HSM HLE HCOUNT HF0
          go_wp2_with (go_at_call 10; with_reducible (refine Calls.mono (HA.out _ hbx5) ?_); rintro e w7 ⟨rfl, hb7⟩; have hby := chain hbx5 hb7)
          go_ret
          exact ⟨rfl, hby⟩

set_option maxHeartbeats 1600000 in
set_option maxRecDepth 20000 in
theorem sampleFirst_gt (b0 o0 N c : Nat) (l : List Nat) (w : World) (HS : SampleSpec w) (h : Ints w w.heap.size .u8 (some ⟨b0, o0, none⟩) (up l)) (hlt : ∀ b ∈ l, b < 256) (hl : l.length = 1000) (hN : 1000 < N) (hc : N ≤ c) :
    Calls Try.prog 7 #[.slice (some ⟨b0, o0, none⟩) N c] w fun e w' => e = .returned (.bool true) ∧ Below w.heap.size w w' := by
  obtain ⟨i0, hif, hz0, hz1, hz2⟩ := info_parts Try.infoI64s
  have HA := Lib.hid (sampleAwake HS)
  have hN2 : (1000 : Int) < (N : Int) := by omega
  have hc2 : (1000 : Int) ≤ (c : Int) := by omega
  go_enter Try.func7, Try.ntmps7
  go_wp2
  go_loopw [3, 4, 5] (fun v u i wr => ∃ k : Nat, k ≤ 1000 ∧ i = .int .i64 k ∧ (∃ A c, v = .slice A k c) ∧ (∃ A c, u = .slice A (thingsTo (up l) k).length c) ∧ Hid (wr.ownsRow w.heap.size 3 1 v k ((up (l.take k)).map (Value.int .i64)) ∧
      wr.ownsRow w.heap.size 3 1 u (thingsTo (up l) k).length ((thingsTo (up l) k).map (Value.int .i64)) ∧ Apart v u ∧ Below w.heap.size w wr)) (fun _ _ i _ => 1000 - (intOf i).toNat)
  case atStart =>
    refine ⟨0, Nat.zero_le _, rfl, ⟨_, _, rfl⟩, ⟨_, _, rfl⟩, ?_⟩
    have h1 := (World.ownsRow_made (base := w.heap.size) (e := 3) (size := 1) w #[] 0 (Nat.le_refl _) (Nat.zero_le _) rfl).alloc (.cells #[] 3)
    have h2 := World.ownsRow_made (base := w.heap.size) (e := 3) (size := 1) (w.alloc (.cells #[] 3)) #[] 0 (by simp) (Nat.zero_le _) rfl
    rw [World.size_alloc] at h2
    exact ⟨h1, h2, fun q hq hq2 => by simp [Value.ownBlock] at hq hq2; omega, ((Below.refl _ _).alloc (Nat.le_refl _) _).alloc (by simp) _⟩
  case round =>
    obtain ⟨k, hk, rfl, ⟨A1, c1, rfl⟩, ⟨A2, c2, rfl⟩, hS⟩ := hrel
    by_cases hlt3 : k < 1000
    · have k1 : (k : Int) < (N : Int) := by omega
      have k2 : (k : Int) < 1000 := by omega
      have k0 : (0 : Int) ≤ (k : Int) := by omega
      obtain ⟨hown, hown2, hap, hbel⟩ := hS.out
      have hlt4 : k < l.length := by rw [hl]; exact hlt3
      have k3 : (k : Int) < (c : Int) := by omega
      obtain ⟨b1, off, e9, hbl, hc9⟩ := (h.below hbel) k (by rw [up_len]; exact hlt4)
      injection e9 with e9
      injection e9 with e10 e11
      subst e10 e11
      rw [up_getD] at hc9
      have ht1 := take_snocM (fun x : Nat => Value.int .i64 (x : Int)) l hlt4
      have e1 : ∀ j, (up (l.take j)).map (Value.int .i64) = (l.take j).map fun x : Nat => Value.int .i64 (x : Int) := fun j => by unfold up; rw [List.map_map]; rfl
      have hx2 : l.getD k 0 < 256 := by rw [List.getD_eq_getElem?_getD, List.getElem?_eq_getElem hlt4]; exact hlt _ (List.getElem_mem hlt4)
      rw [e1] at hown
      have hto : decide (((l.getD k 0 : Nat) : Int) ∈ thingsTo (up l) k) = true → thingsTo (up l) (k + 1) = thingsTo (up l) k := fun q => by
        rw [show thingsTo (up l) (k + 1) = if (up l).getD k 0 ∈ thingsTo (up l) k then thingsTo (up l) k else thingsTo (up l) k ++ [(up l).getD k 0] from rfl, up_getD, if_pos (of_decide_eq_true q)]
      have htn : decide (((l.getD k 0 : Nat) : Int) ∈ thingsTo (up l) k) = false → thingsTo (up l) (k + 1) = thingsTo (up l) k ++ [((l.getD k 0 : Nat) : Int)] := fun q => by
        rw [show thingsTo (up l) (k + 1) = if (up l).getD k 0 ∈ thingsTo (up l) k then thingsTo (up l) k else thingsTo (up l) k ++ [(up l).getD k 0] from rfl, up_getD, if_neg (of_decide_eq_false q)]
      have htl := thingsTo_le (up l) k
      obtain ⟨x, hx⟩ : ∃ x, x = l.getD k 0 := ⟨_, rfl⟩
      rw [← hx] at hc9 ht1 hx2 hto htn
      obtain ⟨P1, hP1⟩ : ∃ P, P = (l.take k).map fun x : Nat => Value.int .i64 (x : Int) := ⟨_, rfl⟩
      rw [← hP1] at hown ht1
      have HT1 := Lib.hid ((e1 (k + 1)).trans ht1)
      obtain ⟨T, hT⟩ : ∃ T, T = thingsTo (up l) k := ⟨_, rfl⟩
      rw [← hT] at hto htn htl hown2 hap
      rw [← hT]
      have HH := Lib.hid (fun (W : World) (hi : Ints W W.heap.size .i64 A2 T) => refHasAny A2 c2 T (x : Int) W hi (by omega))
      have x0 : (0 : Int) ≤ (x : Int) := by omega
      have x1 : (x : Int) < 256 := by omega
      clear hx ht1 e1 hP1 hS hx2 hT hlt4
      go_wp2_with (at_builtin; refine wpList_append_own_at _ rfl _ _ 25 rfl w.heap.size 3 i0 (.int .i64 0) 1 8 Try.underlying25 hif hz0 hz1 hz2 rfl (by decide) _ _ _ rfl (hown.alloc _) ⟨wr.heap.size, 0, none⟩ 1 1 [.int .i64 (x : Int)] rfl rfl (cell_one_new _ _ _) ?d1 ?d2 ?d3 ?d4 ?_)
      case d1 => first | rfl | (intro u hu; simp at hu; subst hu; rfl)
      case d2 => unfold maxLen; omega
      case d3 => omega
      case d4 => have := hbel.size; simp; omega
      intro v3 w3 hown3 hg3 _ hv3
      have hb3 : Below w.heap.size w w3 := (hbel.alloc hbel.size _).grown hg3 (by have := hbel.size; simp; omega) fun q hq => (hown.lt q hq).1
      have ho2 := own_kept (hown2.alloc (.cells #[.int .i64 (x : Int)] 3)) hg3 (fun q hq => hap q hq)
      have hap3 : Apart v3 (.slice A2 T.length c2) := hap.grown (N := wr.heap.size + 1) (fun q hq => by have := (hown2.lt q hq).2; omega) hv3
      have hc3 := (hb3.cell (p := ⟨b0, o0 + k, none⟩) hbl).trans ((hbel.cell (p := ⟨b0, o0 + k, none⟩) hbl).symm.trans hc9)
      have hi3 : Ints w3 w3.heap.size .i64 A2 T := Ints.of_own ho2
      obtain ⟨A3, c3, rfl⟩ := own_slice hown3
      clear hown hown2 hap hbel hg3 hc9 hv3
      rw [← HT1.out] at hown3
      by_cases hm : decide ((x : Int) ∈ T) = true
      · rw [hm] at HH
        have HTO := Lib.hid (hto hm)
        have R := Lib.hid (And.intro hown3 (And.intro ho2 (And.intro hap3 hb3)))
        clear hm hto htn hown3 ho2 hap3 hb3 htl
        go_wp2_with (go_at_call 18; with_reducible (refine Calls.mono (HH.out _ hi3) ?_); rintro e w4 ⟨rfl, m, rfl⟩)
        go_roundw
        case rel => first | exact ⟨k + 1, by omega, by go_num, ⟨A3, c3, rfl⟩, ⟨A2, c2, by rw [HTO.out]⟩, by rw [HTO.out]; exact ⟨R.out.1, R.out.2.1, R.out.2.2.1, below_drewN R.out.2.2.2 _⟩⟩ | ((repeat apply Exists.intro); exact ⟨⟨k + 1, by omega, by go_num, ⟨A3, c3, rfl⟩, ⟨A2, c2, by rw [HTO.out]⟩, by rw [HTO.out]; exact ⟨R.out.1, R.out.2.1, R.out.2.2.1, below_drewN R.out.2.2.2 _⟩⟩, rfl⟩)
        case measure => simp [intOf]; omega
      · rw [Bool.not_eq_true] at hm
        rw [hm] at HH
        have HTO := Lib.hid (htn hm)
        clear hm hto htn
        go_wp2_with (first
          | (go_at_call 18; with_reducible (refine Calls.mono (HH.out _ hi3) ?_); rintro e w4 ⟨rfl, m, hw4⟩; have hc4 : w4.cell? ⟨b0, o0 + k, none⟩ = some (.int .u8 (x : Int)) := (by rw [hw4, cell_drewN]; exact hc3); have hb4 : Below w.heap.size w w4 := (by rw [hw4]; exact below_drewN hb3 _); have hown4 : w4.ownsRow w.heap.size 3 1 (.slice A3 (k + 1) c3) (k + 1) ((up (l.take (k + 1))).map (Value.int .i64)) := (by rw [hw4]; exact own_drewN hown3 m); have ho4 : w4.ownsRow w.heap.size 3 1 (.slice A2 T.length c2) T.length (T.map (Value.int .i64)) := (by rw [hw4]; exact own_drewN ho2 m); clear hw4)
          | (at_builtin; refine wpList_append_own_at _ rfl _ _ 25 rfl w.heap.size 3 i0 (.int .i64 0) 1 8 Try.underlying25 hif hz0 hz1 hz2 rfl (by decide) _ _ _ rfl (ho4.alloc _) ⟨w4.heap.size, 0, none⟩ 1 1 [.int .i64 (x : Int)] rfl rfl (cell_one_new _ _ _) ?d1 ?d2 ?d3 ?d4 ?_))
        case d1 => first | rfl | (intro u hu; simp at hu; subst hu; rfl)
        case d2 => unfold maxLen; omega
        case d3 => omega
        case d4 => have := hb4.size; simp; omega
        intro v5 w5 hown5 hg5 _ hv5
        have R : Hid (w5.ownsRow w.heap.size 3 1 (.slice A3 (k + 1) c3) (k + 1) ((up (l.take (k + 1))).map (Value.int .i64)) ∧ w5.ownsRow w.heap.size 3 1 v5 (T.length + 1) ((T ++ [(x : Int)]).map (Value.int .i64)) ∧ Apart (.slice A3 (k + 1) c3) v5 ∧ Below w.heap.size w w5) := by
          refine ⟨?_, ?_, ?_, (hb4.alloc hb4.size _).grown hg5 (by have := hb4.size; simp; omega) fun q hq => (ho4.lt q hq).1⟩
          · exact own_kept (hown4.alloc (.cells #[.int .i64 (x : Int)] 3)) hg5 (fun q hq => hap3.symm q hq)
          · rw [List.map_append]; exact hown5
          · exact (hap3.symm.grown (N := w4.heap.size + 1) (fun q hq => by have := (hown4.lt q hq).2; omega) hv5).symm
        obtain ⟨A4, c4, rfl⟩ := own_slice R.out.2.1
        have hTl : (thingsTo (up l) (k + 1)).length = T.length + 1 := by rw [HTO.out]; simp
        have R2 : Hid (w5.ownsRow w.heap.size 3 1 (.slice A3 (k + 1) c3) (k + 1) ((up (l.take (k + 1))).map (Value.int .i64)) ∧ w5.ownsRow w.heap.size 3 1 (.slice A4 (T.length + 1) c4) (thingsTo (up l) (k + 1)).length ((thingsTo (up l) (k + 1)).map (Value.int .i64)) ∧ Apart (.slice A3 (k + 1) c3) (.slice A4 (T.length + 1) c4) ∧ Below w.heap.size w w5) := by
          rw [hTl, HTO.out]; exact R.out
        have HTL := Lib.hid hTl
        clear hown3 ho2 hap3 hb3 hown4 ho4 hown5 hg5 hv5 hc3 hc4 hi3 R hTl hb4 htl
        go_wp2
        go_roundw
        case rel => first | exact ⟨k + 1, by omega, by go_num, ⟨A3, c3, rfl⟩, ⟨A4, c4, by rw [HTL.out]⟩, R2.out⟩ | ((repeat apply Exists.intro); exact ⟨⟨k + 1, by omega, by go_num, ⟨A3, c3, rfl⟩, ⟨A4, c4, by rw [HTL.out]⟩, R2.out⟩, rfl⟩)
        case measure => simp [intOf]; omega
    · have hk8 : k = 1000 := by omega
      subst hk8
      obtain ⟨hown, hown2, _, hbel⟩ := hS.out
      clear hS
      have hLl : (up l).length = 1000 := by rw [up_len]; exact hl
      have hlt9 : l.take 1000 = l := List.take_of_length_le (by omega)
      rw [hlt9] at hown
      have h64 : I64s (up l) := bytes_i64 hlt
      have hc1 := own_le hown
      have hi1 : Ints wr wr.heap.size .i64 A1 (up l) := Ints.of_own (n := 1000) (c := c1) (by rw [hLl]; exact hown)
      have hfirst := hist_first (up l)
      have hcount := hist_sum (thingsTo (up l) 1000).length (distL (up l))
      rw [hLl] at hfirst
      rw [hfirst, distL_len, hLl] at hcount
      have hTm := thingsTo_le (up l) 1000
      obtain ⟨q, hq⟩ : ∃ q, q = (thingsTo (up l) 1000).length := ⟨_, rfl⟩
      rw [← hq] at hfirst hcount hTm
      rw [← hq]
      obtain ⟨L, hL⟩ : ∃ L, L = up l := ⟨_, rfl⟩
      rw [← hL] at hLl h64 hi1 hfirst hcount
      clear hq hown hown2 hlt9
      have hdl : (distL L).length = 1000 := by rw [distL_len, hLl]
      have H1 := HS.dist A1 c1 L
      rw [distR_le (by rw [hLl]; omega), hdl, hLl] at H1
      have K1 := Lib.hid (fun (W : World) (hb : Below w.heap.size w W) (h : Ints W W.heap.size .i64 A1 L) => H1 W hb h h64 hc1 (by omega))
      have K2 : Hid (∀ (W : World) (A : Option Addr) (c : Nat), Below w.heap.size w W → Ints W W.heap.size .i64 A (distL L) → 1000 ≤ c →
          Calls Try.prog 16 #[.slice A 1000 c, .int .i64 (q : Int)] W fun e w' => ∃ A' c', e = .returned (.tuple #[.slice A' q c', .int .i64 (q : Int), .int .i64 0]) ∧ Ints w' w'.heap.size .i64 A' (histC (distL L) q) ∧ Below W.heap.size W w') := fun W A c hb h hc => by
        have h3 := HS.hist A c (distL L) (q : Int) W hb h (distL_i64 L (by omega)) (by rw [hdl]; exact hc) (by omega)
        rw [hdl] at h3
        refine h3.mono fun e w' ⟨h4, h5⟩ => ?_
        rw [if_neg (by omega)] at h4
        obtain ⟨A', c', q1, _, q3⟩ := h4
        rw [Int.toNat_natCast] at q1 q3
        rw [hfirst] at q1
        exact ⟨A', c', q1, q3, h5⟩
      have q0 : (0 : Int) ≤ (q : Int) := by omega
      have HTM := Lib.hid hTm
      have HCOUNT := Lib.hid hcount
      have HM9 : Hid (1000 ≤ 1000) := by refine Lib.hid ?_; omega
      clear H1 h64 hLl HS hlt hfirst hcount hdl hc1 hL hTm
      go_wp2_with (first
        | (go_at_call 13; with_reducible (refine Calls.mono (K1.out _ hbel hi1) ?_); rintro e w4 ⟨A4, c4, rfl, hc4, hi4, hb4⟩; have hbx4 := chain hbel hb4)
        | (go_at_call 16; with_reducible (refine Calls.mono (K2.out _ _ _ hbx4 hi4 hc4) ?_); rintro e w5 ⟨A5, c5, rfl, hi5, hb5⟩; have hbx5 := chain hbx4 hb5))
      have HC : Hid (∀ j, j < q → ∃ b o, A5 = some ⟨b, o, none⟩ ∧ w5.cell? ⟨b, o + j, none⟩ = some (.int .i64 (countI (distL L) j : Nat))) := fun j hj => by
        obtain ⟨b, o, e, _, hc⟩ := hi5 j (by rw [histC_len]; exact hj)
        refine ⟨b, o, e, ?_⟩
        rw [hc]
        unfold histC
        simp [List.getD, hj]
      have HSM : Hid (∀ j, ((List.range (j + 1)).map (countI (distL L))).sum = ((List.range j).map (countI (distL L))).sum + countI (distL L) j) := fun j => by
        rw [List.range_succ, List.map_append, List.sum_append]; simp
      have HLE : Hid (∀ j, j ≤ q → ((List.range j).map (countI (distL L))).sum ≤ ((List.range q).map (countI (distL L))).sum) := fun j hj => sum_mono _ hj
      obtain ⟨F, hF⟩ : ∃ F : Nat → Nat, F = fun j => ((List.range j).map (countI (distL L))).sum := ⟨_, rfl⟩
      have hFF : ∀ j, ((List.range j).map (countI (distL L))).sum = F j := fun j => by rw [hF]
      simp only [hFF] at HCOUNT HSM HLE
      have HF0 : Hid (F 0 = 0) := by rw [hF]; rfl
      clear hF hFF hi5 hi4 hc4 hb4 hb5 hbx4 hi1 hbel K1 K2
      go_wp2
      go_loopw [10, 11] (fun s i wi => ∃ j : Nat, j ≤ q ∧ i = .int .i64 j ∧ s = .int .i64 ((q + F j : Nat) : Int) ∧ wi = w5) (fun _ i _ => q - (intOf i).toNat)
      case atStart => exact ⟨0, Nat.zero_le _, rfl, by rw [HF0.out]; rfl, rfl⟩
      case round =>
        obtain ⟨j, hj, rfl, rfl, rfl⟩ := hrel
        by_cases hj2 : j < q
        · obtain ⟨b5, o5, rfl, hc5⟩ := HC.out j hj2
          have j1 : (j : Int) < (q : Int) := by omega
          have j0 : (0 : Int) ≤ (j : Int) := by omega
          have j2 : (j : Int) < 4096 := by have h1 := HTM.out; have h2 := HM9.out; omega
          have hs := HSM.out j
          have hle := HLE.out (j + 1) (by omega)
          have hcc := HCOUNT.out
          have hm9 := HM9.out
          obtain ⟨y, hy⟩ : ∃ y, y = countI (distL L) j := ⟨_, rfl⟩
          rw [← hy] at hc5 hs
          have hw9 : (q : Int) + (F j : Int) + (y : Int) ≤ 2000 := by have := HTM.out; omega
          have HS9 : Hid ((q : Int) + (F j : Int) + (y : Int) = ((q + F (j + 1) : Nat) : Int)) := by refine Lib.hid ?_; rw [hs]; omega
          clear hs hle hcc hy hm9
          go_wp2
          go_roundw
          case rel => first | exact ⟨j + 1, by omega, by go_num, by first | (rw [HS9.out]; done) | rfl, by first | rfl | trivial⟩ | ((repeat apply Exists.intro); exact ⟨⟨j + 1, by omega, by go_num, by first | (rw [HS9.out]; done) | rfl, by first | rfl | trivial⟩, rfl⟩)
          case measure => simp [intOf]; omega
        · have hj8 : j = q := by omega
          subst hj8
          have hsum : ((j + F j : Nat) : Int) = ((1000 : Nat) : Int) := by have := HCOUNT.out; omega
          rw [hsum]
          clear hsum HC HSM HLE HCOUNT HF0
          go_wp2_with (go_at_call 10; with_reducible (refine Calls.mono (HA.out _ hbx5) ?_); rintro e w7 ⟨rfl, hb7⟩; have hby := chain hbx5 hb7)
          go_ret
          exact ⟨rfl, hby⟩

/-- SampleFirst. -/
theorem sampleFirst_go (A : Option Addr) (c : Nat) (l : List Nat) (w : World) (HS : SampleSpec w) (h : Ints w w.heap.size .u8 A (up l)) (hlt : ∀ b ∈ l, b < 256) (hc : l.length ≤ c) :
    Calls Try.prog 7 #[.slice A l.length c] w fun e w' => e = .returned (.bool true) ∧ Below w.heap.size w w' := by
  by_cases hN : l.length ≤ 1000
  · exact sampleFirst_le A c l w HS h hlt hN
  · obtain ⟨b0, o0, rfl, _⟩ := h.at_ (by rw [up_len]; omega)
    have h2 : Ints w w.heap.size .u8 (some ⟨b0, o0, none⟩) (up (l.take 1000)) := by
      have := h.take 1000
      rwa [show (up l).take 1000 = up (l.take 1000) by simp [up]] at this
    exact sampleFirst_gt b0 o0 l.length c (l.take 1000) w HS h2 (fun b hb => hlt b (List.mem_of_mem_take hb)) (by rw [List.length_take]; omega) (by omega) hc

end Go.Proofs.Ytphejkcdddkfnaa
