/-
  SampleDistances.
-/
import Derived.Test.YtphejkcdddkfnaaSampleRef
namespace Go.Proofs.Ytphejkcdddkfnaa
open Go.RowKit

set_option maxHeartbeats 800000 in
theorem refDist_no (A : Option Addr) (n c : Nat) (w : World) (hl : 4096 < n) :
    Calls Try.prog 15 #[.slice A n c] w fun e w' => e = .returned (.slice none 0 0) ∧ w = w' := by
  have g : (4096 : Int) < (n : Int) := by omega
  go_enter Try.func15, Try.ntmps15
  go_wp2
  go_ret
  exact ⟨rfl, rfl⟩
theorem distR_no {l : List Int} (h : 4096 < l.length) : distR l = [] := if_pos h
theorem distR_le {l : List Int} (h : l.length ≤ 4096) : distR l = distL l := if_neg (by omega)

set_option maxHeartbeats 800000 in
set_option maxRecDepth 20000 in
theorem sampleDist_le (A : Option Addr) (c : Nat) (l : List Int) (w : World) (HS : SampleSpec w) (h : Ints w w.heap.size .i64 A l) (hz : I64s l) (hc : l.length ≤ c) (hn : l.length ≤ 400) :
    Calls Try.prog 4 #[.slice A l.length c] w fun e w' => e = .returned (.bool true) ∧ Below w.heap.size w w' := by
  have HA := Lib.hid (sampleAwake HS)
  have H1 := HS.dist A c l w (Below.refl _ _) h hz hc (by omega)
  have H2 := Lib.hid (fun (W : World) (hb : Below w.heap.size w W) => refDist_go A c l W ((h.below hb).more hb.size) (by omega))
  rw [distR_le (by omega)] at H1
  have hm : (distL l).length ≤ 140737488355328 := by rw [distL_len]; omega
  have HSI := Lib.hid (fun (W : World) (A0 A1 : Option Addr) (c0 c1 : Nat) (h0 : Ints W W.heap.size .i64 A0 (distL l)) (h1 : Ints W W.heap.size .i64 A1 (distL l)) => sameInts_any A0 A1 c0 c1 (distL l) W h0 h1 hm)
  rw [distL_len] at H1 HSI
  have H1' := Lib.hid H1
  obtain ⟨n, hnn⟩ : ∃ n, n = l.length := ⟨_, rfl⟩
  rw [← hnn] at H1' H2 HSI hn ⊢
  have g1 : (n : Int) ≤ 400 := by omega
  clear HS h hz hc H1 hnn hm
  go_enter Try.func4, Try.ntmps4
  go_wp2_with (first
    | (go_at_call 13; with_reducible (refine Calls.mono H1'.out ?_); rintro e w1 ⟨A1, c1, rfl, hc1, hi1, hb1⟩)
    | (go_at_call 10; with_reducible (refine Calls.mono (HA.out _ hb1) ?_); rintro e w2 ⟨rfl, hb2⟩; have hx2 := chain hb1 hb2; have hi2 := (hi1.below hb2).more hb2.size)
    | (go_at_call 15; with_reducible (refine Calls.mono (H2.out _ hx2) ?_); rintro e w3 ⟨A3, c3, rfl, hi3, hb3⟩; have hx3 := chain hx2 hb3; have hi4 := (hi2.below hb3).more hb3.size)
    | (go_at_call 14; with_reducible (refine Calls.mono (HSI.out _ _ _ _ _ hi4 hi3) ?_); rintro e w4 ⟨rfl, m, rfl⟩))
  go_ret
  exact ⟨rfl, below_drewN hx3 m⟩

set_option maxHeartbeats 800000 in
set_option maxRecDepth 20000 in
theorem sampleDist_mid (A : Option Addr) (c : Nat) (l : List Int) (w : World) (HS : SampleSpec w) (h : Ints w w.heap.size .i64 A l) (hz : I64s l) (hc : l.length ≤ c) (hn : 400 < l.length ∧ l.length ≤ 4096) :
    Calls Try.prog 4 #[.slice A l.length c] w fun e w' => e = .returned (.bool true) ∧ Below w.heap.size w w' := by
  have HA := Lib.hid (sampleAwake HS)
  have H1 := HS.dist A c l w (Below.refl _ _) h hz hc (by omega)
  rw [distR_le (by omega), distL_len] at H1
  have H1' := Lib.hid H1
  obtain ⟨n, hnn⟩ : ∃ n, n = l.length := ⟨_, rfl⟩
  rw [← hnn] at H1' hn ⊢
  have g1 : (400 : Int) < (n : Int) := by omega
  have g2 : (n : Int) ≤ 4096 := by omega
  clear HS h hz hc H1 hnn
  go_enter Try.func4, Try.ntmps4
  go_wp2_with (first
    | (go_at_call 13; with_reducible (refine Calls.mono H1'.out ?_); rintro e w1 ⟨A1, c1, rfl, hc1, hi1, hb1⟩)
    | (go_at_call 10; with_reducible (refine Calls.mono (HA.out _ hb1) ?_); rintro e w2 ⟨rfl, hb2⟩; have hx2 := chain hb1 hb2))
  go_ret
  exact ⟨rfl, hx2⟩

set_option maxHeartbeats 800000 in
set_option maxRecDepth 20000 in
theorem sampleDist_gt (A : Option Addr) (c : Nat) (l : List Int) (w : World) (HS : SampleSpec w) (h : Ints w w.heap.size .i64 A l) (hz : I64s l) (hc : l.length ≤ c) (hm : c ≤ maxLen) (hn : 4096 < l.length) :
    Calls Try.prog 4 #[.slice A l.length c] w fun e w' => e = .returned (.bool true) ∧ Below w.heap.size w w' := by
  have HA := Lib.hid (sampleAwake HS)
  obtain ⟨r, hr⟩ : ∃ r, r = min l.length 5000 := ⟨_, rfl⟩
  have hrl : (l.take r).length = r := by rw [List.length_take]; omega
  have H1 := HS.dist A c (l.take r) w (Below.refl _ _) (h.take r) (fun z hz' => hz z (List.mem_of_mem_take hz')) (by omega) (by omega)
  rw [distR_no (by omega), hrl] at H1
  have H1' := Lib.hid H1
  have H2 := Lib.hid (fun (W : World) => refDist_no A r c W (by omega))
  have HSI := Lib.hid (fun (W : World) (A0 A1 : Option Addr) (c0 c1 : Nat) => sameInts_any A0 A1 c0 c1 [] W (ints_none _ _ _) (ints_none _ _ _) (by decide))
  obtain ⟨n, hnn⟩ : ∃ n, n = l.length := ⟨_, rfl⟩
  rw [← hnn] at hn hr hc ⊢
  unfold maxLen at hm
  by_cases hbig : 5000 < n
  · have hr5 : r = 5000 := by omega
    subst hr5
    have g1 : (5000 : Int) < (n : Int) := by omega
    clear HS h hz H1 hnn hrl hr
    go_enter Try.func4, Try.ntmps4
    go_wp2_with (first
      | (go_at_call 13; with_reducible (refine Calls.mono H1'.out ?_); rintro e w1 ⟨A1, c1, rfl, hc1, hi1, hb1⟩)
      | (go_at_call 10; with_reducible (refine Calls.mono (HA.out _ hb1) ?_); rintro e w2 ⟨rfl, hb2⟩; have hx2 := chain hb1 hb2)
      | (go_at_call 15; with_reducible (refine Calls.mono (H2.out _) ?_); rintro e w3 ⟨rfl, rfl⟩)
      | (go_at_call 14; with_reducible (refine Calls.mono (HSI.out _ _ _ _ _) ?_); rintro e w4 ⟨rfl, m, rfl⟩))
    go_ret
    exact ⟨rfl, below_drewN hx2 m⟩
  · have hr5 : r = n := by omega
    subst hr5
    have g1 : (r : Int) ≤ 5000 := by omega
    have g2 : (4096 : Int) < (r : Int) := by omega
    have g3 : (400 : Int) < (r : Int) := by omega
    clear HS h hz H1 hnn hrl hr
    go_enter Try.func4, Try.ntmps4
    go_wp2_with (first
      | (go_at_call 13; with_reducible (refine Calls.mono H1'.out ?_); rintro e w1 ⟨A1, c1, rfl, hc1, hi1, hb1⟩)
      | (go_at_call 10; with_reducible (refine Calls.mono (HA.out _ hb1) ?_); rintro e w2 ⟨rfl, hb2⟩; have hx2 := chain hb1 hb2)
      | (go_at_call 15; with_reducible (refine Calls.mono (H2.out _) ?_); rintro e w3 ⟨rfl, rfl⟩)
      | (go_at_call 14; with_reducible (refine Calls.mono (HSI.out _ _ _ _ _) ?_); rintro e w4 ⟨rfl, m, rfl⟩))
    go_ret
    exact ⟨rfl, below_drewN hx2 m⟩

/-- SampleDistances. -/
theorem sampleDistances_go (A : Option Addr) (c : Nat) (l : List Int) (w : World) (HS : SampleSpec w) (h : Ints w w.heap.size .i64 A l) (hz : I64s l) (hc : l.length ≤ c) (hm : c ≤ maxLen) :
    Calls Try.prog 4 #[.slice A l.length c] w fun e w' => e = .returned (.bool true) ∧ Below w.heap.size w w' := by
  by_cases h1 : l.length ≤ 400
  · exact sampleDist_le A c l w HS h hz hc h1
  · by_cases h2 : l.length ≤ 4096
    · exact sampleDist_mid A c l w HS h hz hc ⟨by omega, h2⟩
    · exact sampleDist_gt A c l w HS h hz hc hm (by omega)

end Go.Proofs.Ytphejkcdddkfnaa
