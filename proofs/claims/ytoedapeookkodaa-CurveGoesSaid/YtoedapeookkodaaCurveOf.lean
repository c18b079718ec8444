/-
  The document's own curve of counts, and what a size brings (stowageref11).
-/
import Derived.Test.YtoedapeookkodaaCurveRef
namespace Go.Proofs.Ytoedapeookkodaa
open Go.RowKit

theorem Try.infoI64c : (Try.prog.info? 3).map (fun i => (i.zero, i.size, i.bytes)) = some (some (.int .i64 0), 1, 8) := by kernel_rfl
def ofTo (l : List Int) (t : Int) (k : Nat) : List Int := (List.range (k + 1)).map fun i => sumK l i * t
theorem ofTo_succ (l : List Int) (t : Int) (k : Nat) : ofTo l t (k + 1) = ofTo l t k ++ [sumK l (k + 1) * t] := by unfold ofTo; rw [List.range_succ, List.map_append]; rfl
theorem ofTo_len (l : List Int) (t : Int) (k : Nat) : (ofTo l t k).length = k + 1 := by simp [ofTo]
theorem ofBad_at {l : List Int} {t : Int} {k : Nat} (hk : k < l.length) (h : l.getD k 0 < 0 ∨ 1048576 < l.getD k 0) : ofBad l t = true := by
  cases hb : ofBad l t
  · have := (ofBad_false hb).2.2.2 (l.getD k 0) (by rw [List.getD_eq_getElem?_getD, List.getElem?_eq_getElem hk]; exact List.getElem_mem hk)
    omega
  · rfl
theorem ofBad_all {l : List Int} {t : Int} (h1 : l.length < 4096) (h2 : 0 ≤ t) (h3 : t ≤ 1048576) (h : ∀ j, j < l.length → 0 ≤ l.getD j 0 ∧ l.getD j 0 ≤ 1048576) : ofBad l t = false := by
  refine ofBad_good h1 h2 h3 fun z hz => ?_
  obtain ⟨i, hi, e⟩ := List.getElem_of_mem hz
  have := h i hi
  rw [List.getD_eq_getElem?_getD, List.getElem?_eq_getElem hi] at this
  simp only [Option.getD_some] at this
  rw [← e]; exact this

set_option maxHeartbeats 1600000 in
set_option maxRecDepth 20000 in
theorem refOf_no (A : Option Addr) (n N : Nat) (t : Int) (w : World) (h : 4096 ≤ N ∨ t < 0 ∨ 1048576 < t) :
    Calls Try.prog 11 #[.slice A N n, .int .i64 t] w fun e w' => e = .returned (.tuple #[.slice none 0 0, .int .i64 1]) ∧ w = w' := by
  by_cases g1 : N < 4096
  · have d0 : decide ((4096 : Int) ≤ (N : Int)) = false := decide_eq_false (by omega)
    by_cases g2 : 0 ≤ t
    · have d1 : decide (t < 0) = false := decide_eq_false (by omega)
      have d2 : decide ((1048576 : Int) < t) = true := decide_eq_true (by omega)
      clear h
      go_enter Try.func11, Try.ntmps11
      go_wp2
      go_ret2
      exact ⟨rfl, rfl⟩
    · have d1 : decide (t < 0) = true := decide_eq_true (by omega)
      clear h
      go_enter Try.func11, Try.ntmps11
      go_wp2
      go_ret2
      exact ⟨rfl, rfl⟩
  · have d0 : decide ((4096 : Int) ≤ (N : Int)) = true := decide_eq_true (by omega)
    clear h
    go_enter Try.func11, Try.ntmps11
    go_wp2
    go_ret2
    exact ⟨rfl, rfl⟩

set_option maxHeartbeats 1600000 in
set_option maxRecDepth 20000 in
/-- 'Of'. -/
theorem refOf_any (A : Option Addr) (n : Nat) (l : List Int) (t : Int) (w : World) (h : Ints w w.heap.size .i64 A l) :
    Calls Try.prog 11 #[.slice A l.length n, .int .i64 t] w fun e w' => ∃ A' c', e = .returned (.tuple #[.slice A' (ofR l t).2.length c', .int .i64 (ofR l t).1]) ∧ Ints w' w'.heap.size .i64 A' (ofR l t).2 ∧ Below w.heap.size w w' := by
  by_cases h0 : l.length < 4096 ∧ 0 ≤ t ∧ t ≤ 1048576
  · obtain ⟨h1, h2, h3⟩ := h0
    obtain ⟨i0, hif, hz0, hz1, hz2⟩ := info_parts Try.infoI64c
    have HBad : Hid (∀ k, k < l.length → (l.getD k 0 < 0 ∨ 1048576 < l.getD k 0) → ofR l t = (1, [])) := fun k hk hb => by unfold ofR; rw [ofBad_at hk hb]; rfl
    have HGood : Hid ((∀ j, j < l.length → 0 ≤ l.getD j 0 ∧ l.getD j 0 ≤ 1048576) → ofR l t = (0, ofTo l t l.length)) := fun q => by unfold ofR; rw [ofBad_all h1 h2 h3 q]; rfl
    have HSB : Hid (∀ k, k ≤ l.length → (∀ j, j < k → 0 ≤ l.getD j 0 ∧ l.getD j 0 ≤ 1048576) → 0 ≤ sumK l k ∧ sumK l k ≤ 1048576 * (k : Int)) := fun k hk q => by
      have h9 := sumK_bounds (l := l.take k) (fun z hz => by
        obtain ⟨i, hi, e⟩ := List.getElem_of_mem hz
        have hik : i < k := by rw [List.length_take] at hi; omega
        have h8 := q i hik
        rw [List.getD_eq_getElem?_getD, List.getElem?_eq_getElem (by omega : i < l.length)] at h8
        simp only [Option.getD_some] at h8
        rw [List.getElem_take] at e
        rw [← e]; exact h8) k (by rw [List.length_take]; omega)
      unfold sumK at h9 ⊢
      rwa [List.take_take, Nat.min_self] at h9
    have HSS : Hid (∀ k, k < l.length → sumK l (k + 1) = sumK l k + l.getD k 0) := fun k hk => sumK_succ l hk
    have HTS : Hid (∀ k, ofTo l t (k + 1) = ofTo l t k ++ [sumK l (k + 1) * t]) := ofTo_succ l t
    have HT0 : Hid (ofTo l t 0 = [0]) := by refine Lib.hid ?_; unfold ofTo; simp [sumK]
    have HI := Lib.hid h
    have n1 : (l.length : Int) < 4096 := by omega
    obtain ⟨N, hN⟩ : ∃ N, N = l.length := ⟨_, rfl⟩
    simp only [← hN] at HBad HGood HSB HSS n1
    rw [← hN]
    have HN := Lib.hid hN
    clear h h1 hN
    go_enter Try.func11, Try.ntmps11
    go_wp2
    go_loopw [6, 7, 8] (fun v s i wr => ∃ k : Nat, k ≤ N ∧ i = .int .i64 k ∧ s = .int .i64 (sumK l k) ∧ (∃ A c, v = .slice A (k + 1) c) ∧ (∀ j, j < k → 0 ≤ l.getD j 0 ∧ l.getD j 0 ≤ 1048576) ∧ Hid (wr.ownsRow w.heap.size 3 1 v (k + 1) ((ofTo l t k).map (Value.int .i64)) ∧ Below w.heap.size w wr)) (fun _ _ i _ => N - (intOf i).toNat)
    case atStart =>
      refine ⟨0, Nat.zero_le _, rfl, rfl, ⟨_, _, rfl⟩, fun j hj => absurd hj (Nat.not_lt_zero j), ?_⟩
      rw [HT0.out]
      exact ⟨World.ownsRow_lit (base := w.heap.size) (e := 3) (size := 1) w #[.int .i64 0] 1 (Nat.le_refl _) (by decide) rfl, (Below.refl _ _).alloc (Nat.le_refl _) _⟩
    case round =>
      obtain ⟨k, hk, rfl, rfl, ⟨A1, c1, rfl⟩, hall, hS⟩ := hrel
      by_cases hlt : k < N
      · obtain ⟨hown, hbel⟩ := hS.out
        obtain ⟨b1, off, rfl, hbl, hc9⟩ := (HI.out.below hbel) k (by have := HN.out; omega)
        have k1 : (k : Int) < (N : Int) := by omega
        have k0 : (0 : Int) ≤ (k : Int) := by omega
        have hss := HSS.out k hlt
        have hsb := HSB.out k hk hall
        by_cases hg : 0 ≤ l.getD k 0 ∧ l.getD k 0 ≤ 1048576
        · have hall2 : Hid (∀ j, j < k + 1 → 0 ≤ l.getD j 0 ∧ l.getD j 0 ≤ 1048576) := fun j hj => by
            rcases Nat.lt_or_ge j k with g | g
            · exact hall j g
            · rw [show j = k by omega]; exact hg
          have hsb2 := HSB.out (k + 1) (by omega) hall2.out
          have hts := HTS.out k
          obtain ⟨x, hx⟩ : ∃ x, x = l.getD k 0 := ⟨_, rfl⟩
          rw [← hx] at hg hss hc9
          obtain ⟨T, hT⟩ : ∃ T, T = sumK l (k + 1) := ⟨_, rfl⟩
          rw [← hT] at hss hsb2 hts
          obtain ⟨S, hSS⟩ : ∃ S, S = sumK l k := ⟨_, rfl⟩
          rw [← hSS] at hss hsb ⊢
          have hpb := mul_bounds (x := T) (X := 4294967296) (Y := 1048576) hsb2.1 (by omega) h2 h3
          obtain ⟨P, hP⟩ : ∃ P, P = T * t := ⟨_, rfl⟩
          rw [← hP] at hts hpb
          have hst : S + x = T := hss.symm
          have hpt : T * t = P := hP.symm
          have hST := Lib.hid hT
          have HTSS := Lib.hid (show (ofTo l t (k + 1)).map (Value.int .i64) = (ofTo l t k).map (Value.int .i64) ++ [Value.int .i64 P] by rw [hts, List.map_append]; rfl)
          have s0 : (0 : Int) ≤ S := hsb.1
          have s1 : S ≤ 4294967296 := by omega
          have d1 : decide (x < 0) = false := decide_eq_false (by omega)
          have d2 : decide ((1048576 : Int) < x) = false := decide_eq_false (by omega)
          have p0 := hpb.1
          have t0 : (0 : Int) ≤ T := hsb2.1
          have t1 : T ≤ 4294967296 := by omega
          have p1 : P ≤ 4503599627370496 := by omega
          have hc8 : (wr.alloc (.cells #[.int .i64 P] 3)).cell? ⟨b1, off + k, none⟩ = some (.int .i64 x) := (Below.cell ((Below.refl wr.heap.size wr).alloc (Nat.le_refl _) _) (p := ⟨b1, off + k, none⟩) (by have := hbel.size; simp only []; omega)).trans hc9
          clear hx hT hSS hP hts hall hS hsb hss hsb2 hpb hg
          go_wp2_with (at_builtin; refine wpList_append_own_at _ rfl _ _ 23 rfl w.heap.size 3 i0 (.int .i64 0) 1 8 Try.underlying23 hif hz0 hz1 hz2 rfl (by decide) _ _ _ rfl (hown.alloc _) ⟨wr.heap.size, 0, none⟩ 1 1 [.int .i64 P] rfl rfl (cell_one_new _ _ _) ?d1 ?d2 ?d3 ?d4 ?_)
          case d1 => first | rfl | (intro u hu; simp at hu; subst hu; rfl)
          case d2 => unfold maxLen; omega
          case d3 => omega
          case d4 => have := hbel.size; simp; omega
          intro v3 w3 hown3 hg3 _ _
          have R : Hid (w3.ownsRow w.heap.size 3 1 v3 (k + 1 + 1) ((ofTo l t (k + 1)).map (Value.int .i64)) ∧ Below w.heap.size w w3) := by
            refine ⟨?_, (hbel.alloc hbel.size _).grown hg3 (by have := hbel.size; simp; omega) fun q hq => (hown.lt q hq).1⟩
            rw [HTSS.out]; exact hown3
          obtain ⟨A3, c3, rfl⟩ := own_slice R.out.1
          rw [hST.out]
          clear hown hbel hown3 hg3 hc9 hc8 hst hpt
          go_wp2
          go_roundw
          case rel => first | exact ⟨k + 1, by omega, by go_num, rfl, ⟨A3, c3, rfl⟩, hall2.out, R.out⟩ | ((repeat apply Exists.intro); exact ⟨⟨k + 1, by omega, by go_num, rfl, ⟨A3, c3, rfl⟩, hall2.out, R.out⟩, rfl⟩)
          case measure => simp [intOf]; omega
        · have HB := Lib.hid (HBad.out k hlt (by omega))
          clear hall hS hsb hss HBad HGood HSB HSS HTS HT0
          obtain ⟨x, hx⟩ : ∃ x, x = l.getD k 0 := ⟨_, rfl⟩
          rw [← hx] at hg hc9
          clear hx
          by_cases hx0 : x < 0
          · have d1 : decide (x < 0) = true := decide_eq_true hx0
            clear hg
            go_wp2
            go_ret2
            rw [HB.out]
            first | exact ⟨none, 0, rfl, fun i hi => absurd hi (Nat.not_lt_zero i), hbel⟩ | exact ⟨none, ⟨0, rfl⟩, fun i hi => absurd hi (Nat.not_lt_zero i), hbel⟩
          · have d1 : decide (x < 0) = false := decide_eq_false hx0
            have d2 : decide ((1048576 : Int) < x) = true := decide_eq_true (by omega)
            clear hg
            go_wp2
            go_ret2
            rw [HB.out]
            first | exact ⟨none, 0, rfl, fun i hi => absurd hi (Nat.not_lt_zero i), hbel⟩ | exact ⟨none, ⟨0, rfl⟩, fun i hi => absurd hi (Nat.not_lt_zero i), hbel⟩
      · have hk8 : N = k := by omega
        subst hk8
        obtain ⟨hown, hbel⟩ := hS.out
        have HG := Lib.hid (HGood.out hall)
        have HL := Lib.hid HN.out
        clear hall HGood HBad HSB hS
        go_wp2
        go_ret2
        rw [HG.out]
        refine ⟨A1, c1, ?_, ?_, hbel⟩
        · simp only [ofTo_len]; rfl
        · exact Ints.of_own (n := N + 1) (c := c1) (by rw [ofTo_len]; exact hown)
  · have hr : ofR l t = (1, []) := by
      unfold ofR
      rw [show ofBad l t = true from by
        cases hb : ofBad l t
        · have := ofBad_false hb; omega
        · rfl]
      rfl
    rw [hr]
    refine (refOf_no A n l.length t w (by omega)).mono fun e w' ⟨q1, q2⟩ => ?_
    subst q2
    exact ⟨none, 0, q1, fun i hi => absurd hi (Nat.not_lt_zero i), Below.refl _ _⟩

end Go.Proofs.Ytoedapeookkodaa
