/-
  What is asked of the layer sample, as properties of its calls; the law's own 'awake', and SampleHashes.
-/
import Derived.Test.YtphejkcdddkfnaaSampleHash
import Derived.Test.YtphejkcdddkfnaaSame
import Derived.Deep.RegionWith
namespace Go.Proofs.Ytphejkcdddkfnaa
open Go.RowKit

def I64s (l : List Int) : Prop := ∀ z ∈ l, -9223372036854775808 ≤ z ∧ z ≤ 9223372036854775807
structure SampleSpec (w0 : World) : Prop where
  hash : ∀ (v b : Int) (w : World), Below w0.heap.size w0 w → -9223372036854775808 ≤ v ∧ v ≤ 9223372036854775807 → -9223372036854775808 ≤ b ∧ b ≤ 9223372036854775807 →
    Calls Try.prog 9 #[.int .i64 v, .int .i64 b] w fun e w' => e = .returned (.int .i64 (hashN v b : Nat)) ∧ Below w.heap.size w w'
  taken : ∀ (v b o : Int) (w : World), Below w0.heap.size w0 w → -9223372036854775808 ≤ v ∧ v ≤ 9223372036854775807 → -9223372036854775808 ≤ b ∧ b ≤ 9223372036854775807 → -9223372036854775808 ≤ o ∧ o ≤ 9223372036854775807 →
    Calls Try.prog 12 #[.int .i64 v, .int .i64 b, .int .i64 o] w fun e w' => e = .returned (.bool (decide ((hashN v b : Int) < o))) ∧ Below w.heap.size w w'
  dist : ∀ (A : Option Addr) (c : Nat) (l : List Int) (w : World), Below w0.heap.size w0 w → Ints w w.heap.size .i64 A l → I64s l → l.length ≤ c → l.length ≤ 5000 →
    Calls Try.prog 13 #[.slice A l.length c] w fun e w' => ∃ A' c', e = .returned (.slice A' (distR l).length c') ∧ (distR l).length ≤ c' ∧ Ints w' w'.heap.size .i64 A' (distR l) ∧ Below w.heap.size w w'
  hist : ∀ (A : Option Addr) (c : Nat) (ds : List Int) (n : Int) (w : World), Below w0.heap.size w0 w → Ints w w.heap.size .i64 A ds → I64s ds → ds.length ≤ c → -9223372036854775808 ≤ n ∧ n ≤ 9223372036854775807 →
    Calls Try.prog 16 #[.slice A ds.length c, .int .i64 n] w fun e w' => (if n < 0 ∨ 4096 < n ∨ 4096 < ds.length then ∃ A' c', e = .returned (.tuple #[.slice A' 0 c', .int .i64 0, .int .i64 1])
      else ∃ A' c', e = .returned (.tuple #[.slice A' n.toNat c', .int .i64 (histO ds n.toNat : Nat), .int .i64 0]) ∧ n.toNat ≤ c' ∧ Ints w' w'.heap.size .i64 A' (histC ds n.toNat)) ∧ Below w.heap.size w w'

theorem wake_dist : distR [5, 6, 5, 5, 7, 6] = [-1, -1, 1, 0, -1, 2] := by decide +kernel

set_option maxHeartbeats 800000 in
set_option maxRecDepth 20000 in
theorem sampleAwake {w0 : World} (HS : SampleSpec w0) (w : World) (hw : Below w0.heap.size w0 w) : Calls Try.prog 10 #[] w fun e w' => e = .returned (.bool true) ∧ Below w.heap.size w w' := by
  have H1 : Hid (Calls Try.prog 13 #[.slice (some ⟨w.heap.size, 0, none⟩) 6 6] (w.alloc (.cells #[.int .i64 5, .int .i64 6, .int .i64 5, .int .i64 5, .int .i64 7, .int .i64 6] 3)) fun e w' =>
      ∃ b o c', e = .returned (.slice (some ⟨b, o, none⟩) 6 c') ∧ w'.cell? ⟨b, o, none⟩ = some (.int .i64 (-1)) ∧ w'.cell? ⟨b, o + 2, none⟩ = some (.int .i64 1) ∧ w'.cell? ⟨b, o + 3, none⟩ = some (.int .i64 0) ∧ w'.cell? ⟨b, o + 5, none⟩ = some (.int .i64 2) ∧ Below w.heap.size w w') := by
    have hI := Ints.new w 3 .i64 [5, 6, 5, 5, 7, 6] #[.int .i64 5, .int .i64 6, .int .i64 5, .int .i64 5, .int .i64 7, .int .i64 6] rfl
    have h := HS.dist (some ⟨w.heap.size, 0, none⟩) 6 [5, 6, 5, 5, 7, 6] (w.alloc (.cells #[.int .i64 5, .int .i64 6, .int .i64 5, .int .i64 5, .int .i64 7, .int .i64 6] 3)) (hw.alloc hw.size _) (hI.more (by simp)) (by unfold I64s; decide) (Nat.le_refl _) (by decide)
    rw [wake_dist] at h
    refine h.mono fun e w' ⟨A', c', q1, _, q3, q4⟩ => ?_
    obtain ⟨b, o, rfl, _, hc⟩ := q3.at_ (by decide)
    exact ⟨b, o, c', q1, hc 0 (by decide), hc 2 (by decide), hc 3 (by decide), hc 5 (by decide), ((Below.refl _ _).alloc (Nat.le_refl _) _).trans (q4.mono (by simp))⟩
  clear HS hw
  go_enter Try.func10, Try.ntmps10
  go_wp2_with (go_at_call 13; with_reducible (refine Calls.mono H1.out ?_); rintro e w1 ⟨b, o, c', rfl, q0, q1, q2, q3, hb⟩)
  go_ret
  exact ⟨rfl, hb⟩

set_option maxHeartbeats 800000 in
/-- SampleHashes. -/
theorem sampleHashes_go (v b o : Int) (w : World) (HS : SampleSpec w) (hv : -9223372036854775808 ≤ v ∧ v ≤ 9223372036854775807) (hb : -9223372036854775808 ≤ b ∧ b ≤ 9223372036854775807) (ho : -9223372036854775808 ≤ o ∧ o ≤ 9223372036854775807) : Calls Try.prog 3 #[.int .i64 v, .int .i64 b, .int .i64 o] w fun e w' => e = .returned (.bool true) ∧ Below w.heap.size w w' := by
  have HA := Lib.hid (sampleAwake HS)
  have H1 := Lib.hid (fun (W : World) (h : Below w.heap.size w W) => HS.hash v b W h hv hb)
  have H2 := Lib.hid (fun (W : World) => refHash_any v b W)
  have H3 := Lib.hid (fun (W : World) (h : Below w.heap.size w W) => HS.taken v b o W h hv hb ho)
  have hR := hashN_lt v b
  obtain ⟨R, hRR⟩ : ∃ R, R = hashN v b := ⟨_, rfl⟩
  rw [← hRR] at H1 H2 H3 hR
  have r0 : (0 : Int) ≤ (R : Int) := by omega
  have r1 : (R : Int) < 16777216 := by omega
  have hb0 : Below w.heap.size w w := Below.refl _ _
  clear HS hRR hv hb ho hR
  by_cases c : (R : Int) < o
  · rw [decide_eq_true c] at H3
    go_enter Try.func3, Try.ntmps3
    go_wp2_with (first
      | (go_at_call 9; with_reducible (refine Calls.mono (H1.out _ hb0) ?_); rintro e w1 ⟨rfl, hb1⟩; have hx1 := chain hb0 hb1)
      | (go_at_call 10; with_reducible (refine Calls.mono (HA.out _ hx1) ?_); rintro e w2 ⟨rfl, hb2⟩; have hx2 := chain hx1 hb2)
      | (go_at_call 11; with_reducible (refine Calls.mono (H2.out _) ?_); rintro e w3 ⟨rfl, rfl⟩)
      | (go_at_call 12; with_reducible (refine Calls.mono (H3.out _ hx2) ?_); rintro e w4 ⟨rfl, hb4⟩; have hx4 := chain hx2 hb4))
    go_ret
    exact ⟨rfl, hx4⟩
  · rw [decide_eq_false c] at H3
    go_enter Try.func3, Try.ntmps3
    go_wp2_with (first
      | (go_at_call 9; with_reducible (refine Calls.mono (H1.out _ hb0) ?_); rintro e w1 ⟨rfl, hb1⟩; have hx1 := chain hb0 hb1)
      | (go_at_call 10; with_reducible (refine Calls.mono (HA.out _ hx1) ?_); rintro e w2 ⟨rfl, hb2⟩; have hx2 := chain hx1 hb2)
      | (go_at_call 11; with_reducible (refine Calls.mono (H2.out _) ?_); rintro e w3 ⟨rfl, rfl⟩)
      | (go_at_call 12; with_reducible (refine Calls.mono (H3.out _ hx2) ?_); rintro e w4 ⟨rfl, hb4⟩; have hx4 := chain hx2 hb4))
    go_ret
    exact ⟨by have h : decide ((R : Int) < o) = false := decide_eq_false (by omega); simp [h], hx4⟩

end Go.Proofs.Ytphejkcdddkfnaa
