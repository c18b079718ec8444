/-
  The landed curve of counts.
-/
import Derived.Test.YtoedapeookkodaaCurveC1
import Derived.Test.YtoedapeookkodaaIntRow
import Derived.Test.YtoedapeookkodaaCurveOf
namespace Go.Proofs.Ytoedapeookkodaa
open Go.RowKit

/-- A curve as far as it is made. -/
def ofPart (l : List Int) (t : Int) (k : Nat) : List Int := (List.range (l.length + 1)).map fun i => if i ≤ k then sumK l i * t else 0
theorem ofPart_len (l : List Int) (t : Int) (k : Nat) : (ofPart l t k).length = l.length + 1 := by simp [ofPart]
theorem ofPart_at (l : List Int) (t : Int) {k i : Nat} (h : i ≤ k) (hk : k ≤ l.length) : (ofPart l t k).getD i 0 = sumK l i * t := by
  unfold ofPart
  simp [List.getD, show i < l.length + 1 by omega, h]
theorem ofPart_zero (l : List Int) (t : Int) : ofPart l t 0 = List.replicate (l.length + 1) 0 := by
  refine List.ext_getElem (by simp [ofPart]) fun i h1 h2 => ?_
  simp only [ofPart, List.getElem_map, List.getElem_range, List.getElem_replicate]
  by_cases h : i ≤ 0
  · rw [if_pos h, show i = 0 by omega, sumK_zero, Int.zero_mul]
  · rw [if_neg h]
theorem ofPart_next (l : List Int) (t : Int) (k : Nat) : (ofPart l t k).set (k + 1) (sumK l (k + 1) * t) = ofPart l t (k + 1) := by
  refine List.ext_getElem (by simp [ofPart]) fun i h1 h2 => ?_
  rw [List.getElem_set]
  simp only [ofPart, List.getElem_map, List.getElem_range]
  by_cases h : k + 1 = i
  · subst h; rw [if_pos rfl, if_pos (Nat.le_refl _)]
  · rw [if_neg h]
    by_cases h3 : i ≤ k
    · rw [if_pos h3, if_pos (by omega)]
    · rw [if_neg h3, if_neg (by omega)]
theorem ofPart_all (l : List Int) (t : Int) : ofPart l t l.length = ofL l t := by
  refine List.ext_getElem (by simp [ofPart, ofL]) fun i h1 h2 => ?_
  simp only [ofPart, ofL, List.getElem_map, List.getElem_range]
  have hi : i < l.length + 1 := by simpa [ofPart] using h1
  rw [if_pos (by omega)]

theorem makeC (n : Nat) (hn : n ≤ 100000) (w : World) : (Instr.makeSlice 23 (.int .i64 (n : Int)) (.int .i64 (n : Int))).run Try.prog w = .ok (.slice (some ⟨w.heap.size, 0, none⟩) n n) (w.alloc (.cells (ICs (List.replicate n 0)) 3)) := by
  have h := run_make_row' (P := Try.prog) 23 3 (.int .i64 0) 8 Try.underlying23 Try.infoI64c rfl .i64 .i64 n (by omega) (by omega) w
  rw [ICs_zero] at h
  exact h

set_option maxHeartbeats 1600000 in
set_option maxRecDepth 20000 in
theorem ofC_bad (A : Option Addr) (c N : Nat) (t : Int) (w : World) (hbad : 4096 ≤ N ∨ t < 0 ∨ 1048576 < t) :
    Calls Try.prog 10 #[.slice A N c, .int .i64 t] w fun e w' => e = .returned (.tuple #[.slice none 0 0, .int .i64 1]) ∧ w = w' := by
  by_cases h0 : 4096 ≤ N
  · have d0 : decide ((4096 : Int) ≤ (N : Int)) = true := decide_eq_true (by omega)
    clear hbad
    go_enter Try.func10, Try.ntmps10
    go_wp2
    go_ret2
    exact ⟨rfl, rfl⟩
  · have d0 : decide ((4096 : Int) ≤ (N : Int)) = false := decide_eq_false (by omega)
    have HW := Lib.hid (fun W => withinC_any t 1048576 W)
    rw [decide_eq_false (by omega)] at HW
    clear hbad
    go_enter Try.func10, Try.ntmps10
    go_wp2_with (go_at_call 25; with_reducible (refine Calls.mono (HW.out _) ?_); rintro e w1 ⟨rfl, rfl⟩)
    go_ret2
    exact ⟨rfl, rfl⟩

set_option maxHeartbeats 1600000 in
set_option maxRecDepth 20000 in
theorem ofC_any (A : Option Addr) (c : Nat) (l : List Int) (t : Int) (w : World) (h : Ints w w.heap.size .i64 A l) :
    Calls Try.prog 10 #[.slice A l.length c, .int .i64 t] w fun e w' => ∃ A' c', e = .returned (.tuple #[.slice A' (ofR l t).2.length c', .int .i64 (ofR l t).1]) ∧ (ofR l t).2.length ≤ c' ∧ Ints w' w'.heap.size .i64 A' (ofR l t).2 ∧ Below w.heap.size w w' := by
  by_cases h0 : l.length < 4096 ∧ 0 ≤ t ∧ t ≤ 1048576
  · obtain ⟨h1, h2, h3⟩ := h0
    have HBad : Hid (∀ k, k < l.length → (l.getD k 0 < 0 ∨ 1048576 < l.getD k 0) → ofR l t = (1, [])) := fun k hk hb => by unfold ofR; rw [ofBad_at hk hb]; rfl
    have HGood : Hid ((∀ j, j < l.length → 0 ≤ l.getD j 0 ∧ l.getD j 0 ≤ 1048576) → ofR l t = (0, ofPart l t l.length)) := fun q => by unfold ofR; rw [ofBad_all h1 h2 h3 q, ofPart_all]; rfl
    have HSB : Hid (∀ k, k ≤ l.length → (∀ j, j < k → 0 ≤ l.getD j 0 ∧ l.getD j 0 ≤ 1048576) → 0 ≤ sumK l k ∧ sumK l k ≤ 1048576 * (k : Int)) := fun k hk q => by
      have h9 := sumK_bounds (l := l.take k) (fun z hz => by
        obtain ⟨i, hi, e⟩ := List.getElem_of_mem hz
        have hik : i < k := by rw [List.length_take] at hi; omega
        have h8 := q i hik
        rw [List.getD_eq_getElem?_getD, List.getElem?_eq_getElem (by omega : i < l.length)] at h8
        simp only [Option.getD_some] at h8
        rw [List.getElem_take] at e
        rw [← e]; exact h8) k (by rw [List.length_take]; omega)
      unfold sumK at h9 ⊢
      rwa [List.take_take, Nat.min_self] at h9
    have HSS : Hid (∀ k, k < l.length → sumK l (k + 1) = sumK l k + l.getD k 0) := fun k hk => sumK_succ l hk
    have HI := Lib.hid h
    have n1 : (l.length : Int) < 4096 := by omega
    have d0 : decide ((4096 : Int) ≤ (l.length : Int)) = false := decide_eq_false (by omega)
    have HW := Lib.hid (fun W => withinC_any t 1048576 W)
    rw [decide_eq_true ⟨h2, h3⟩] at HW
    have HWN := Lib.hid (fun x W => withinC_any x 1048576 W)
    obtain ⟨N, hN⟩ : ∃ N, N = l.length := ⟨_, rfl⟩
    simp only [← hN] at HBad HGood HSB HSS n1 d0
    rw [← hN]
    have HN := Lib.hid hN
    have hmk := makeC (N + 1) (by omega)
    rw [show ((N + 1 : Nat) : Int) = (N : Int) + 1 by omega] at hmk
    have HZ : Hid (List.replicate (N + 1) 0 = ofPart l t 0) := by unfold Hid; rw [ofPart_zero, hN]
    obtain ⟨Z, hZ⟩ : ∃ Z : List Int, Z = List.replicate (N + 1) 0 := ⟨_, rfl⟩
    rw [← hZ] at hmk HZ
    have HT := Lib.hid (And.intro h2 h3)
    clear h h1 hN hZ
    go_enter Try.func10, Try.ntmps10
    go_wp2_with (go_at_call 25; with_reducible (refine Calls.mono (HW.out _) ?_); rintro e w1 ⟨rfl, rfl⟩)
    go_loopw [23] (fun i wr => ∃ k : Nat, k ≤ N ∧ i = .int .i64 k ∧ Hid (∀ j, j < k → 0 ≤ l.getD j 0 ∧ l.getD j 0 ≤ 1048576) ∧ Hid (IRow 3 w.heap.size (ofPart l t k) wr ∧ Below w.heap.size w wr)) (fun i _ => N - (intOf i).toNat)
    case atStart =>
      refine ⟨0, Nat.zero_le _, rfl, fun j hj => absurd hj (Nat.not_lt_zero j), ?_⟩
      rw [← HZ.out]
      exact ⟨IRow.new w 3 Z, (Below.refl _ _).alloc (Nat.le_refl _) _⟩
    case round =>
      obtain ⟨k, hk, rfl, hall, hS⟩ := hrel
      clear hmk HZ HW
      by_cases hlt : k < N
      · obtain ⟨hrow, hbel⟩ := hS.out
        obtain ⟨b1, off, rfl, hbl, hc9⟩ := (HI.out.below hbel) k (by have := HN.out; omega)
        have k1 : (k : Int) < (N : Int) := by omega
        have k0 : (0 : Int) ≤ (k : Int) := by omega
        have hss := HSS.out k hlt
        have hsb := HSB.out k hk hall.out
        have HWK := Lib.hid (fun W => HWN.out (l.getD k 0) W)
        by_cases hg : 0 ≤ l.getD k 0 ∧ l.getD k 0 ≤ 1048576
        · have hall2 : Hid (∀ j, j < k + 1 → 0 ≤ l.getD j 0 ∧ l.getD j 0 ≤ 1048576) := fun j hj => by
            rcases Nat.lt_or_ge j k with g | g
            · exact hall.out j g
            · rw [show j = k by omega]; exact hg
          rw [decide_eq_true hg] at HWK
          have hsb2 := HSB.out (k + 1) (by omega) hall2.out
          have hkc := hrow.cell (i := k) (by rw [ofPart_len]; have := HN.out; omega)
          rw [ofPart_at l t (Nat.le_refl k) (by have := HN.out; omega)] at hkc
          have hkf := hrow.thaw (k + 1)
          have hkd := hrow.cell (i := k + 1) (by rw [ofPart_len]; have := HN.out; omega)
          obtain ⟨old, hold⟩ : ∃ x, x = (ofPart l t k).getD (k + 1) 0 := ⟨_, rfl⟩
          rw [← hold] at hkd
          obtain ⟨x, hx⟩ : ∃ x, x = l.getD k 0 := ⟨_, rfl⟩
          rw [← hx] at hg hss hc9 HWK
          have hp0 := mul_bounds (x := sumK l k) (X := 4294967296) (Y := 1048576) hsb.1 (by omega) HT.out.1 HT.out.2
          have hp1 := mul_bounds (x := sumK l (k + 1)) (X := 4294967296) (Y := 1048576) hsb2.1 (by omega) HT.out.1 HT.out.2
          have hp2 := mul_bounds (x := t) (X := 1048576) (Y := 1048576) HT.out.1 HT.out.2 hg.1 hg.2
          have hsum : sumK l (k + 1) * t = sumK l k * t + t * x := by rw [hss, Int.add_mul, Int.mul_comm x t]
          have R0 : Hid (IRow 3 w.heap.size (ofPart l t (k + 1)) (wr.setCell ⟨w.heap.size, k + 1, none⟩ (.int .i64 (sumK l (k + 1) * t))) ∧ Below w.heap.size w (wr.setCell ⟨w.heap.size, k + 1, none⟩ (.int .i64 (sumK l (k + 1) * t)))) := by
            refine ⟨?_, hbel.setCell (p := ⟨w.heap.size, k + 1, none⟩) (Nat.le_refl _) _⟩
            rw [← ofPart_next]; exact hrow.set (k + 1) _
          obtain ⟨S, hSS⟩ : ∃ S, S = sumK l k * t := ⟨_, rfl⟩
          rw [← hSS] at hkc hsum hp0
          obtain ⟨T, hT⟩ : ∃ S, S = sumK l (k + 1) * t := ⟨_, rfl⟩
          rw [← hT] at hsum R0 hp1
          obtain ⟨M, hM⟩ : ∃ S, S = t * x := ⟨_, rfl⟩
          rw [← hM] at hsum hp2
          have m1 : IntKind.i64.wrap (t * x) = M := by rw [← hM]; exact IntWalk.i64_in _ (by omega)
          have m2 : IntKind.i64.wrap (S + M) = T := by rw [← hsum]; exact IntWalk.i64_in _ (by omega)
          have m3 : IntKind.i64.wrap ((k : Int) + 1) = (k : Int) + 1 := IntWalk.i64_in _ (by omega)
          have hkc0 : wr.cell? ⟨w.heap.size, k, none⟩ = some (.int .i64 S) := hkc
          clear hx hSS hT hM hold hsum hss hsb hsb2 hp0 hp1 hp2 hg hrow hbel hall hS hkc h2 h3 HI
          go_wp2_with (go_at_call 25; with_reducible (refine Calls.mono (HWK.out _) ?_); rintro e w1 ⟨rfl, rfl⟩)
          go_roundw
          case rel => exact ⟨k + 1, by omega, by go_num, hall2, R0⟩
          case measure => simp [intOf]; omega
        · rw [decide_eq_false hg] at HWK
          have HB := Lib.hid (HBad.out k hlt (by omega))
          have R0 := Lib.hid hbel
          clear hall hS hsb hss HBad HGood HSB HSS hg hrow hbel HWN
          obtain ⟨x, hx⟩ : ∃ x, x = l.getD k 0 := ⟨_, rfl⟩
          rw [← hx] at hc9 HWK
          clear hx
          go_wp2_with (go_at_call 25; with_reducible (refine Calls.mono (HWK.out _) ?_); rintro e w1 ⟨rfl, rfl⟩)
          go_ret2
          rw [HB.out]
          exact ⟨none, 0, rfl, Nat.le_refl _, fun i hi => absurd hi (Nat.not_lt_zero i), R0.out⟩
      · have hk8 : k = N := by omega
        have k1 : ¬ (k : Int) < (N : Int) := by omega
        have HG := Lib.hid (HGood.out (by rw [← hk8]; exact hall.out))
        have R0 : Hid (Ints wr wr.heap.size .i64 (some ⟨w.heap.size, 0, none⟩) (ofPart l t N) ∧ Below w.heap.size w wr) := ⟨by rw [← hk8]; exact hS.out.1.ints, hS.out.2⟩
        have HL : Hid ((ofPart l t N).length = N + 1) := by unfold Hid; rw [ofPart_len, HN.out]
        clear hall HGood HBad HSB HSS hS HI hk8 HWN
        go_wp2
        go_ret2
        rw [HG.out]
        refine ⟨some ⟨w.heap.size, 0, none⟩, N + 1, ?_, ?_, R0.out.1, R0.out.2⟩
        · simp only [HL.out]; rfl
        · simp only [HL.out]; exact Nat.le_refl _
  · have hr : ofR l t = (1, []) := by
      unfold ofR
      rw [show ofBad l t = true from by
        cases hb : ofBad l t
        · have := ofBad_false hb; omega
        · rfl]
      rfl
    rw [hr]
    refine (ofC_bad A c l.length t w (by omega)).mono fun e w' ⟨q1, q2⟩ => ?_
    subst q2
    exact ⟨none, 0, q1, Nat.le_refl _, fun i hi => absurd hi (Nat.not_lt_zero i), Below.refl _ _⟩

end Go.Proofs.Ytoedapeookkodaa
