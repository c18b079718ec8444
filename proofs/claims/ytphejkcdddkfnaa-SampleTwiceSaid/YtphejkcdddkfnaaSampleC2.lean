/-
  sample's Histogram.
-/
import Derived.Test.YtphejkcdddkfnaaSampleC1
import Derived.Deep.TreeCalls
import Derived.Deep.CutRange
namespace Go.Proofs.Ytphejkcdddkfnaa
open Go.RowKit

/-- What lies outside: below 0, or from the size on. -/
theorem outside_any (q : Nat) (d n : Int) (w : World) (hq : w.cell? ⟨q, 0, none⟩ = some (.int .i64 n)) :
    Calls Try.prog 21 #[.int .i64 d, .pointer (some ⟨q, 0, none⟩)] w fun e w' => e = .returned (.bool (decide (d < 0 ∨ n ≤ d))) ∧ w' = w := by
  by_cases h0 : d < 0
  · rw [decide_eq_true (Or.inl h0)]
    go_enter Try.func21, Try.ntmps21
    go_wp2
    go_ret
    exact ⟨rfl, rfl⟩
  · by_cases h1 : n ≤ d
    · rw [decide_eq_true (Or.inr h1)]
      go_enter Try.func21, Try.ntmps21
      go_wp2
      go_ret
      exact ⟨rfl, rfl⟩
    · rw [decide_eq_false (by omega)]
      go_enter Try.func21, Try.ntmps21
      go_wp2
      go_ret
      exact ⟨rfl, rfl⟩

/-- A row of integers that lies whole in a block of its own. -/
def RwS (g : Nat) (l : List Int) (w : World) : Prop := w.heap[g]? = some (.cells (CI l) 3 (0, 0))
theorem RwS.cell {g : Nat} {l : List Int} {w : World} (h : RwS g l w) {i : Nat} (hi : i < l.length) : w.cell? ⟨g, i, none⟩ = some (.int .i64 (l.getD i 0)) := by
  rw [cell_of_row _ _ _ _ _ _ h, CI_at hi]
theorem RwS.thaw {g : Nat} {l : List Int} {w : World} (h : RwS g l w) (i : Nat) : w.frozen? ⟨g, i, none⟩ = false := frozen_of_row _ _ _ _ _ h
theorem RwS.set {g : Nat} {l : List Int} {w : World} (h : RwS g l w) (i : Nat) (x : Int) : RwS g (l.set i x) (w.setCell ⟨g, i, none⟩ (.int .i64 x)) := by
  show _ = _
  rw [heap_setCell_same _ _ _ _ _ _ h, CI_set]
theorem RwS.other {g k : Nat} {l : List Int} {w : World} (h : RwS g l w) (hk : g ≠ k) (i : Nat) (v : Value) : RwS g l (w.setCell ⟨k, i, none⟩ v) := by
  show _ = _
  rw [Below.heap_setCell _ _ _ _ (show g ≠ (⟨k, i, none⟩ : Addr).block from hk)]; exact h
theorem RwS.drew {g : Nat} {l : List Int} {w : World} (h : RwS g l w) : RwS g l w.drew := h
theorem RwS.lt {g : Nat} {l : List Int} {w : World} (h : RwS g l w) : g < w.heap.size := (Array.getElem?_eq_some_iff.1 h).1
theorem RwS.ints {g : Nat} {l : List Int} {w : World} (h : RwS g l w) : Ints w w.heap.size .i64 (some ⟨g, 0, none⟩) l := ints_CI h h.lt
theorem RwS.below {g B : Nat} {l : List Int} {w w' : World} (h : RwS g l w) (hb : Below B w w') (hg : g < B) : RwS g l w' := by
  show _ = _
  rw [hb.block g hg]; exact h
theorem makeS (n : Nat) (hn : n ≤ 100000) (w : World) : (Instr.makeSlice 25 (.int .i64 (n : Int)) (.int .i64 (n : Int))).run Try.prog w = .ok (.slice (some ⟨w.heap.size, 0, none⟩) n n) (w.alloc (.cells (CI (List.replicate n 0)) 3)) := by
  have h := run_make_row' (P := Try.prog) 25 3 (.int .i64 0) 8 Try.underlying25 Try.infoI64s rfl .i64 .i64 n (by omega) (by omega) w
  rw [show madeCells #[Value.int .i64 0] n = CI (List.replicate n 0) from Array.toList_inj.1 (by rw [toList_madeCells_one]; simp [CI])] at h
  exact h

set_option maxHeartbeats 800000 in
set_option maxRecDepth 20000 in
theorem histBad_go (A : Option Addr) (c N : Nat) (n : Int) (w : World) (hbad : n < 0 ∨ 4096 < n ∨ 4096 < N) :
    Calls Try.prog 16 #[.slice A N c, .int .i64 n] w fun e w' => (∃ A' c', e = .returned (.tuple #[.slice A' 0 c', .int .i64 0, .int .i64 1])) ∧ Below w.heap.size w w' := by
  have R : Hid (∀ o, Below w.heap.size w (w.alloc o)) := fun o => (Below.refl _ _).alloc (Nat.le_refl _) o
  by_cases h0 : n < 0
  · clear hbad
    go_enter Try.func16, Try.ntmps16
    go_wp2
    go_ret3
    exact ⟨⟨_, _, rfl⟩, R.out _⟩
  · by_cases h1 : 4096 < n
    · clear hbad
      go_enter Try.func16, Try.ntmps16
      go_wp2
      go_ret3
      exact ⟨⟨_, _, rfl⟩, R.out _⟩
    · have h2 : (4096 : Int) < (N : Int) := by omega
      clear hbad
      go_enter Try.func16, Try.ntmps16
      go_wp2
      go_ret3
      exact ⟨⟨_, _, rfl⟩, R.out _⟩

set_option maxHeartbeats 1600000 in
set_option maxRecDepth 20000 in
theorem hist_go (A : Option Addr) (c : Nat) (ds : List Int) (n : Nat) (w : World) (h : Ints w w.heap.size .i64 A ds) (hl : ds.length ≤ 4096) (hn : n ≤ 4096) :
    Calls Try.prog 16 #[.slice A ds.length c, .int .i64 (n : Int)] w fun e w' => (∃ A' c', e = .returned (.tuple #[.slice A' n c', .int .i64 (histO ds n : Nat), .int .i64 0]) ∧ n ≤ c' ∧ Ints w' w'.heap.size .i64 A' (histC ds n)) ∧ Below w.heap.size w w' := by
  obtain ⟨N, hN⟩ : ∃ N, N = ds.length := ⟨_, rfl⟩
  have HN := Lib.hid hN
  have hNi : (N : Int) ≤ 4096 := by omega
  have hni : (n : Int) ≤ 4096 := by omega
  have hn0 : (0 : Int) ≤ (n : Int) := by omega
  rw [← hN]
  have HF := Lib.hid h
  clear h hN hl
  have hmk := makeS n (by omega)
  obtain ⟨Z, hZ⟩ : ∃ Z, Z = CI (List.replicate n 0) := ⟨_, rfl⟩
  rw [← hZ] at hmk
  have HZ : Hid (Z = CI (histC [] n)) := by unfold Hid; rw [hZ, histC_none]
  clear hZ
  have HX := Lib.hid (fun (q : Nat) (d : Int) (W : World) (hq : W.cell? ⟨q, 0, none⟩ = some (.int .i64 (n : Int))) => outside_any q d n W hq)
  go_enter Try.func16, Try.ntmps16
  go_wp2
  go_loopw [5, 26] (fun v i wr => ∃ k : Nat, k ≤ N ∧ i = .int .i64 k ∧ v = .int .i64 (histO (ds.take k) n : Nat) ∧ Hid (RwS (w.heap.size + 1) (histC (ds.take k) n) wr) ∧ Hid (wr.cell? ⟨w.heap.size, 0, none⟩ = some (.int .i64 (n : Int))) ∧ Hid (Below w.heap.size w wr)) (fun _ i _ => N - (intOf i).toNat)
  case atStart =>
    have hb1 : Below w.heap.size w (w.alloc (.cells #[.int .i64 (n : Int)] 3)) := (Below.refl _ _).alloc (Nat.le_refl _) _
    have hs1 : (w.alloc (.cells #[.int .i64 (n : Int)] 3)).heap.size = w.heap.size + 1 := by simp
    have hcell : (w.alloc (.cells #[.int .i64 (n : Int)] 3)).cell? ⟨w.heap.size, 0, none⟩ = some (.int .i64 (n : Int)) := by simp
    obtain ⟨W, hW⟩ : ∃ W, W = w.alloc (.cells #[.int .i64 (n : Int)] 3) := ⟨_, rfl⟩
    rw [← hW] at hb1 hs1 hcell ⊢
    refine ⟨0, Nat.zero_le _, rfl, rfl, ?_, ?_, hb1.alloc (by omega) _⟩
    · have := heap_alloc_new W (.cells Z 3)
      rw [hs1] at this
      unfold Hid RwS
      rw [this, HZ.out]; rfl
    · exact (World.cell?_alloc_lt W _ _ (by rw [hs1]; exact Nat.lt_succ_self _)).trans hcell
  case round =>
    obtain ⟨k, hk, rfl, rfl, hg, hq, hB⟩ := hrel
    clear hmk HZ
    by_cases hlt : k < N
    · have k1 : (k : Int) < (N : Int) := by omega
      have k0 : (0 : Int) ≤ (k : Int) := by omega
      obtain ⟨b, o, rfl, hb, hc⟩ := (HF.out.below hB.out) k (by have := HN.out; omega)
      have ht := take_snocI ds (k := k) (by have := HN.out; omega)
      obtain ⟨d, hd⟩ : ∃ d, d = ds.getD k 0 := ⟨_, rfl⟩
      rw [← hd] at hc ht
      have hO := histO_snoc (ds.take k) d n
      have hOl := histO_le (ds.take k) n
      have htl : (ds.take k).length ≤ 4096 := by rw [List.length_take]; omega
      rw [← ht] at hO
      obtain ⟨q, hq0⟩ : ∃ q, q = histO (ds.take k) n := ⟨_, rfl⟩
      rw [← hq0] at hO hOl ⊢
      have hq2 : (q : Int) ≤ 4096 := by omega
      have HO1 := Lib.hid (HX.out w.heap.size d wr hq.out)
      by_cases h0 : 0 ≤ d ∧ d < (n : Int)
      · rw [decide_eq_false (by omega)] at HO1
        have hC := histC_snoc (ds.take k) (n := n) h0.1
        have hcl := countI_le (ds.take k) d.toNat
        have hcc : wr.cell? ⟨w.heap.size + 1, d.toNat, none⟩ = some (.int .i64 (countI (ds.take k) d.toNat : Int)) := by
          rw [hg.out.cell (by rw [histC_len]; omega), histC_at _ (by omega)]
        rw [← ht] at hC
        rw [if_pos h0, Nat.add_zero] at hO
        obtain ⟨e, rfl⟩ := Int.eq_ofNat_of_zero_le h0.1
        rw [Int.toNat_natCast] at hC hcl hcc
        obtain ⟨x, hx⟩ : ∃ x, x = countI (ds.take k) e := ⟨_, rfl⟩
        rw [← hx] at hC hcl hcc
        have hx2 : (x : Int) ≤ 4096 := by omega
        have h01 := h0.1
        have h02 := h0.2
        have R : Hid (RwS (w.heap.size + 1) (histC (ds.take (k + 1)) n) (wr.setCell ⟨w.heap.size + 1, e, none⟩ (.int .i64 ((x : Int) + 1))) ∧ (wr.setCell ⟨w.heap.size + 1, e, none⟩ (.int .i64 ((x : Int) + 1))).cell? ⟨w.heap.size, 0, none⟩ = some (.int .i64 (n : Int)) ∧
            Below w.heap.size w (wr.setCell ⟨w.heap.size + 1, e, none⟩ (.int .i64 ((x : Int) + 1)))) :=
          ⟨by rw [hC]; exact hg.out.set e _, by rw [← hq.out]; exact World.cell?_setCell_far _ _ _ _ (Nat.ne_of_gt (Nat.lt_succ_self _)), hB.out.setCell (p := ⟨w.heap.size + 1, e, none⟩) (Nat.le_succ _) _⟩
        have hfr : wr.frozen? ⟨w.heap.size + 1, e, none⟩ = false := hg.out.thaw e
        have HO := Lib.hid hO
        clear hg hB hC hO ht hd hx hq0 htl HX hq h0 hcl
        go_wp2_with (go_at_call 21; with_reducible (refine Calls.mono HO1.out ?_); rintro e1 w1 ⟨rfl, rfl⟩)
        go_roundw
        case rel => exact ⟨k + 1, by omega, by go_num, by rw [HO.out]; rfl, R.out.1, R.out.2.1, R.out.2.2⟩
        case measure => first | (simp [intOf]; done) | (simp [intOf]; omega)
      · rw [decide_eq_true (by omega)] at HO1
        have hC := histC_skip (ds.take k) (d := d) (n := n) h0
        rw [← ht] at hC
        rw [if_neg h0] at hO
        have R : Hid (RwS (w.heap.size + 1) (histC (ds.take (k + 1)) n) wr ∧ wr.cell? ⟨w.heap.size, 0, none⟩ = some (.int .i64 (n : Int)) ∧ Below w.heap.size w wr) := ⟨by rw [hC]; exact hg.out, hq.out, hB.out⟩
        have HO := Lib.hid hO
        clear hg hB hC hO ht hd hq0 htl HX hq h0
        go_wp2_with (go_at_call 21; with_reducible (refine Calls.mono HO1.out ?_); rintro e1 w1 ⟨rfl, rfl⟩)
        go_roundw
        case rel => exact ⟨k + 1, by omega, by go_num, by rw [HO.out]; rfl, R.out.1, R.out.2.1, R.out.2.2⟩
        case measure => first | (simp [intOf]; done) | (simp [intOf]; omega)
    · have hk8 : k = N := by omega
      have ht : ds.take k = ds := List.take_of_length_le (by have := HN.out; omega)
      rw [ht] at hg ⊢
      have R : Hid (Ints wr wr.heap.size .i64 (some ⟨w.heap.size + 1, 0, none⟩) (histC ds n) ∧ Below w.heap.size w wr) := ⟨hg.out.ints, hB.out⟩
      have k1 : ¬ (k : Int) < (N : Int) := by omega
      clear hg hB ht hk8 HF HX hq
      go_wp2
      go_ret3
      exact ⟨⟨_, _, rfl, Nat.le_refl _, R.out.1⟩, R.out.2⟩

end Go.Proofs.Ytphejkcdddkfnaa
