/-
  The document's own Histogram; SampleHistograms.
-/
import Derived.Test.YtphejkcdddkfnaaSampleRef
import Derived.Deep.OwnRows
namespace Go.Proofs.Ytphejkcdddkfnaa
open Go.RowKit

def CI (l : List Int) : Array Value := (l.map (Value.int .i64)).toArray
theorem CI_len (l : List Int) : (CI l).size = l.length := by simp [CI]
theorem countI_snoc (ds : List Int) (d : Int) (i : Nat) : countI (ds ++ [d]) i = countI ds i + (if d = (i : Int) then 1 else 0) := by
  unfold countI
  rw [List.countP_append, List.countP_cons, List.countP_nil]
  by_cases h : d = (i : Int)
  · simp [h]
  · simp [h]
theorem histO_snoc (ds : List Int) (d : Int) (n : Nat) : histO (ds ++ [d]) n = histO ds n + (if 0 ≤ d ∧ d < (n : Int) then 0 else 1) := by
  unfold histO
  rw [List.countP_append, List.countP_cons, List.countP_nil]
  by_cases h1 : 0 ≤ d
  · by_cases h2 : d < (n : Int)
    · simp [h1, h2]
    · simp [h1, h2]
  · simp [h1]
theorem histC_snoc (ds : List Int) {d : Int} {n : Nat} (h0 : 0 ≤ d) : histC (ds ++ [d]) n = (histC ds n).set d.toNat ((countI ds d.toNat : Int) + 1) := by
  refine List.ext_getElem (by simp [histC]) fun i h1 h2 => ?_
  rw [List.getElem_set]
  simp only [histC, List.getElem_map, List.getElem_range, countI_snoc]
  by_cases h : d.toNat = i
  · subst h
    rw [if_pos rfl, if_pos (by omega)]; rfl
  · rw [if_neg h, if_neg (by omega)]; rfl
theorem histC_skip (ds : List Int) {d : Int} {n : Nat} (h : ¬ (0 ≤ d ∧ d < (n : Int))) : histC (ds ++ [d]) n = histC ds n := by
  refine List.ext_getElem (by simp [histC]) fun i h1 h2 => ?_
  simp only [histC, List.getElem_map, List.getElem_range, countI_snoc]
  have hi : i < n := by simpa [histC] using h1
  rw [if_neg (by omega)]; rfl
theorem countI_le (ds : List Int) (i : Nat) : countI ds i ≤ ds.length := List.countP_le_length
theorem histO_le (ds : List Int) (n : Nat) : histO ds n ≤ ds.length := List.countP_le_length

theorem CI_set (l : List Int) (i : Nat) (x : Int) : (CI l).setIfInBounds i (.int .i64 x) = CI (l.set i x) := by
  unfold CI
  rw [List.setIfInBounds_toArray, List.map_set]
theorem CI_at {l : List Int} {i : Nat} (h : i < l.length) : (CI l)[i]? = some (.int .i64 (l.getD i 0)) := by
  simp [CI, List.getD_eq_getElem?_getD, h]
theorem ints_CI {w : World} {g B : Nat} {t : TypeId} {fr : Nat × Nat} {l : List Int} (h : w.heap[g]? = some (.cells (CI l) t fr)) (hB : g < B) : Ints w B .i64 (some ⟨g, 0, none⟩) l := fun i hi =>
  ⟨g, 0, rfl, hB, by rw [Nat.zero_add, cell_of_row _ _ _ _ _ _ h, CI_at hi]⟩
theorem histC_none (n : Nat) : histC [] n = List.replicate n 0 := by
  refine List.ext_getElem (by simp [histC]) fun i h1 h2 => ?_
  simp [histC, countI]
theorem histC_at (ds : List Int) {n i : Nat} (h : i < n) : (histC ds n).getD i 0 = (countI ds i : Int) := by
  simp [histC, List.getD_eq_getElem?_getD, h]
theorem take_snocI (l : List Int) {k : Nat} (h : k < l.length) : l.take (k + 1) = l.take k ++ [l.getD k 0] := by
  rw [List.take_add_one, List.getElem?_eq_getElem h]
  simp [List.getD_eq_getElem?_getD, h]

set_option maxHeartbeats 1600000 in
set_option maxRecDepth 20000 in
theorem refHist_go (A : Option Addr) (c : Nat) (ds : List Int) (n : Nat) (w : World) (h : Ints w w.heap.size .i64 A ds) (hl : ds.length ≤ 4096) (hn : n ≤ 4096) :
    Calls Try.prog 17 #[.slice A ds.length c, .int .i64 (n : Int)] w fun e w' => ∃ A' c', e = .returned (.tuple #[.slice A' n c', .int .i64 (histO ds n : Nat)]) ∧ Ints w' w'.heap.size .i64 A' (histC ds n) ∧ Below w.heap.size w w' := by
  obtain ⟨N, hN⟩ : ∃ N, N = ds.length := ⟨_, rfl⟩
  have HN := Lib.hid hN
  have hNi : (N : Int) ≤ 4096 := by omega
  have hni : (n : Int) ≤ 4096 := by omega
  rw [← hN]
  have HF := Lib.hid h
  clear h hN hl
  have hmk : ∀ w : World, (Instr.makeSlice 25 (.int .i64 (n : Int)) (.int .i64 (n : Int))).run Try.prog w = .ok (.slice (some ⟨w.heap.size, 0, none⟩) n n) (w.alloc (.cells (CI (histC [] n)) 3)) := fun w => by
    have h := run_make_row' (P := Try.prog) 25 3 (.int .i64 0) 8 Try.underlying25 Try.infoI64s rfl .i64 .i64 n (by omega) (by omega) w
    rw [show madeCells #[Value.int .i64 0] n = CI (histC [] n) from Array.toList_inj.1 (by rw [toList_madeCells_one, histC_none]; simp [CI])] at h
    exact h
  obtain ⟨Z, hZ⟩ : ∃ Z, Z = CI (histC [] n) := ⟨_, rfl⟩
  rw [← hZ] at hmk
  have HZ := Lib.hid hZ
  clear hZ
  go_enter Try.func17, Try.ntmps17
  go_wp2
  go_loopw [7, 8] (fun v i wr => ∃ k : Nat, k ≤ N ∧ i = .int .i64 k ∧ v = .int .i64 (histO (ds.take k) n : Nat) ∧ Hid (wr.heap[w.heap.size]? = some (.cells (CI (histC (ds.take k) n)) 3 (0, 0))) ∧ Hid (Below w.heap.size w wr)) (fun _ i _ => N - (intOf i).toNat)
  case atStart => exact ⟨0, Nat.zero_le _, rfl, rfl, by rw [HZ.out]; exact heap_alloc_new w _, (Below.refl _ _).alloc (Nat.le_refl _) _⟩
  case round =>
    obtain ⟨k, hk, rfl, rfl, hg, hB⟩ := hrel
    clear hmk HZ
    by_cases hlt : k < N
    · have k1 : (k : Int) < (N : Int) := by omega
      have k0 : (0 : Int) ≤ (k : Int) := by omega
      obtain ⟨b, o, rfl, hb, hc⟩ := (HF.out.below hB.out) k (by have := HN.out; omega)
      have ht := take_snocI ds (k := k) (by have := HN.out; omega)
      obtain ⟨d, hd⟩ : ∃ d, d = ds.getD k 0 := ⟨_, rfl⟩
      rw [← hd] at hc ht
      have hO := histO_snoc (ds.take k) d n
      have hOl := histO_le (ds.take k) n
      have htl : (ds.take k).length ≤ 4096 := by rw [List.length_take]; omega
      rw [← ht] at hO
      obtain ⟨q, hq⟩ : ∃ q, q = histO (ds.take k) n := ⟨_, rfl⟩
      rw [← hq] at hO hOl ⊢
      have hq2 : (q : Int) ≤ 4096 := by omega
      by_cases h0 : 0 ≤ d
      · by_cases h1 : d < (n : Int)
        · have hC := histC_snoc (ds.take k) (n := n) h0
          have hcl := countI_le (ds.take k) d.toNat
          have hcc : wr.cell? ⟨w.heap.size, d.toNat, none⟩ = some (.int .i64 (countI (ds.take k) d.toNat : Int)) := by
            rw [cell_of_row _ _ _ _ _ _ hg.out, CI_at (by rw [histC_len]; omega), histC_at _ (by omega)]
          rw [← ht] at hC
          rw [if_pos ⟨h0, h1⟩, Nat.add_zero] at hO
          obtain ⟨e, rfl⟩ := Int.eq_ofNat_of_zero_le h0
          rw [Int.toNat_natCast] at hC hcl hcc
          obtain ⟨x, hx⟩ : ∃ x, x = countI (ds.take k) e := ⟨_, rfl⟩
          rw [← hx] at hC hcl hcc
          have hx2 : (x : Int) ≤ 4096 := by omega
          have R : Hid ((wr.setCell ⟨w.heap.size, e, none⟩ (.int .i64 ((x : Int) + 1))).heap[w.heap.size]? = some (.cells (CI (histC (ds.take (k + 1)) n)) 3 (0, 0)) ∧ Below w.heap.size w (wr.setCell ⟨w.heap.size, e, none⟩ (.int .i64 ((x : Int) + 1)))) :=
            ⟨by rw [heap_setCell_same _ _ _ _ _ _ hg.out, CI_set, hC], hB.out.setCell (p := ⟨w.heap.size, e, none⟩) (Nat.le_refl _) _⟩
          have hfr : wr.frozen? ⟨w.heap.size, e, none⟩ = false := frozen_of_row _ _ _ _ _ hg.out
          have HO := Lib.hid hO
          clear hg hB hC hO ht hd hx hq htl
          go_wp2
          go_roundw
          case rel => exact ⟨k + 1, by omega, by go_num, by rw [HO.out]; rfl, R.out.1, R.out.2⟩
          case measure => first | (simp [intOf]; done) | (simp [intOf]; omega)
        · have hC := histC_skip (ds.take k) (d := d) (n := n) (by omega)
          rw [← ht] at hC
          rw [if_neg (by omega)] at hO
          have R : Hid (wr.heap[w.heap.size]? = some (.cells (CI (histC (ds.take (k + 1)) n)) 3 (0, 0)) ∧ Below w.heap.size w wr) := ⟨by rw [hC]; exact hg.out, hB.out⟩
          have HO := Lib.hid hO
          clear hg hB hC hO ht hd hq htl
          go_wp2
          go_roundw
          case rel => exact ⟨k + 1, by omega, by go_num, by rw [HO.out]; rfl, R.out.1, R.out.2⟩
          case measure => first | (simp [intOf]; done) | (simp [intOf]; omega)
      · have hC := histC_skip (ds.take k) (d := d) (n := n) (by omega)
        rw [← ht] at hC
        rw [if_neg (by omega)] at hO
        have R : Hid (wr.heap[w.heap.size]? = some (.cells (CI (histC (ds.take (k + 1)) n)) 3 (0, 0)) ∧ Below w.heap.size w wr) := ⟨by rw [hC]; exact hg.out, hB.out⟩
        have HO := Lib.hid hO
        clear hg hB hC hO ht hd hq htl
        go_wp2
        go_roundw
        case rel => exact ⟨k + 1, by omega, by go_num, by rw [HO.out]; rfl, R.out.1, R.out.2⟩
        case measure => first | (simp [intOf]; done) | (simp [intOf]; omega)
    · have hk8 : k = N := by omega
      have ht : ds.take k = ds := List.take_of_length_le (by have := HN.out; omega)
      rw [ht] at hg ⊢
      have hgl := (Array.getElem?_eq_some_iff.1 hg.out).1
      have R : Hid (Ints wr wr.heap.size .i64 (some ⟨w.heap.size, 0, none⟩) (histC ds n) ∧ Below w.heap.size w wr) := ⟨ints_CI hg.out hgl, hB.out⟩
      have k1 : ¬ (k : Int) < (N : Int) := by omega
      clear hg hB ht hk8 HF hgl
      go_wp2
      go_ret2
      first | exact ⟨_, _, rfl, R.out.1, R.out.2⟩ | exact ⟨_, ⟨_, rfl⟩, R.out.1, R.out.2⟩

set_option maxHeartbeats 800000 in
set_option maxRecDepth 20000 in
/-- SampleHistograms. -/
theorem sampleHistograms_go (A : Option Addr) (c : Nat) (ds : List Int) (n : Int) (w : World) (HS : SampleSpec w) (h : Ints w w.heap.size .i64 A ds) (hz : I64s ds) (hc : ds.length ≤ c) (hn : -9223372036854775808 ≤ n ∧ n ≤ 9223372036854775807) :
    Calls Try.prog 5 #[.slice A ds.length c, .int .i64 n] w fun e w' => e = .returned (.bool true) ∧ Below w.heap.size w w' := by
  have HA := Lib.hid (sampleAwake HS)
  have H1 := HS.hist A c ds n w (Below.refl _ _) h hz hc hn
  by_cases hbad : n < 0 ∨ 4096 < n ∨ 4096 < ds.length
  · simp only [if_pos hbad] at H1
    replace H1 := Lib.hid H1
    obtain ⟨N, hN⟩ : ∃ N, N = ds.length := ⟨_, rfl⟩
    rw [← hN] at H1 hbad ⊢
    clear HS h hz hc hN
    by_cases h0 : n < 0
    · clear hbad
      go_enter Try.func5, Try.ntmps5
      go_wp2_with (first
        | (go_at_call 16; with_reducible (refine Calls.mono H1.out ?_); rintro e w1 ⟨⟨A1, c1, rfl⟩, hb1⟩)
        | (go_at_call 10; with_reducible (refine Calls.mono (HA.out _ hb1) ?_); rintro e w2 ⟨rfl, hb2⟩; have hx2 := chain hb1 hb2))
      go_ret
      exact ⟨rfl, hx2⟩
    · by_cases h1 : 4096 < n
      · clear hbad
        go_enter Try.func5, Try.ntmps5
        go_wp2_with (first
          | (go_at_call 16; with_reducible (refine Calls.mono H1.out ?_); rintro e w1 ⟨⟨A1, c1, rfl⟩, hb1⟩)
          | (go_at_call 10; with_reducible (refine Calls.mono (HA.out _ hb1) ?_); rintro e w2 ⟨rfl, hb2⟩; have hx2 := chain hb1 hb2))
        go_ret
        exact ⟨rfl, hx2⟩
      · have h2 : (4096 : Int) < (N : Int) := by omega
        clear hbad
        go_enter Try.func5, Try.ntmps5
        go_wp2_with (first
          | (go_at_call 16; with_reducible (refine Calls.mono H1.out ?_); rintro e w1 ⟨⟨A1, c1, rfl⟩, hb1⟩)
          | (go_at_call 10; with_reducible (refine Calls.mono (HA.out _ hb1) ?_); rintro e w2 ⟨rfl, hb2⟩; have hx2 := chain hb1 hb2))
        go_ret
        exact ⟨rfl, hx2⟩
  · simp only [if_neg hbad] at H1
    have h0 : 0 ≤ n := by omega
    have h1 : n ≤ 4096 := by omega
    have h2 : ds.length ≤ 4096 := by omega
    obtain ⟨m, rfl⟩ := Int.eq_ofNat_of_zero_le h0
    simp only [Int.toNat_natCast] at H1
    replace H1 := Lib.hid H1
    have H2 := Lib.hid (fun (W : World) (hb : Below w.heap.size w W) => refHist_go A c ds m W ((h.below hb).more hb.size) h2 (by omega))
    have hml : (histC ds m).length ≤ 140737488355328 := by rw [histC_len]; omega
    have HSI := Lib.hid (fun (W : World) (A0 A1 : Option Addr) (c0 c1 : Nat) (h0 : Ints W W.heap.size .i64 A0 (histC ds m)) (h1 : Ints W W.heap.size .i64 A1 (histC ds m)) => sameInts_any A0 A1 c0 c1 (histC ds m) W h0 h1 hml)
    rw [histC_len] at HSI
    obtain ⟨N, hN⟩ : ∃ N, N = ds.length := ⟨_, rfl⟩
    obtain ⟨O, hO⟩ : ∃ O, O = histO ds m := ⟨_, rfl⟩
    rw [← hN] at H1 H2 h2 ⊢
    rw [← hO] at H1 H2
    have h3 : (N : Int) ≤ 4096 := by omega
    clear HS h hz hc hN hO hbad hml hn
    go_enter Try.func5, Try.ntmps5
    go_wp2_with (first
      | (go_at_call 16; with_reducible (refine Calls.mono H1.out ?_); rintro e w1 ⟨⟨A1, c1, rfl, hc1, hi1⟩, hb1⟩)
      | (go_at_call 17; with_reducible (refine Calls.mono (H2.out _ hb1) ?_); rintro e w2 ⟨A2, c2, rfl, hi2, hb2⟩; have hx2 := chain hb1 hb2; have hi3 := (hi1.below hb2).more hb2.size)
      | (go_at_call 10; with_reducible (refine Calls.mono (HA.out _ hx2) ?_); rintro e w3 ⟨rfl, hb3⟩; have hx3 := chain hx2 hb3; have hi4 := (hi3.below hb3).more hb3.size; have hi5 := (hi2.below hb3).more hb3.size)
      | (go_at_call 14; with_reducible (refine Calls.mono (HSI.out _ _ _ _ _ hi4 hi5) ?_); rintro e w4 ⟨rfl, q, rfl⟩))
    go_ret
    exact ⟨rfl, below_drewN hx3 q⟩

end Go.Proofs.Ytphejkcdddkfnaa
