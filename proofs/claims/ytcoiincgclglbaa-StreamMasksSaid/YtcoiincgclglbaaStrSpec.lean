/-
  The law's own 'awake' of layer 6, from what is asked of the layer stream.
-/
import Derived.Test.YtcoiincgclglbaaStrAsk
import Derived.Deep.RegionWith
import Derived.Deep.OwnRows
namespace Go.Proofs.Ytcoiincgclglbaa
open Go.RowKit

def zero16 : List Nat := [0, 0, 0, 0, 0, 0, 0, 0, 0, 0, 0, 0, 0, 0, 0, 0]
theorem zero16_lt : ∀ x ∈ zero16, x < 256 := by decide
theorem counterOf_len (s v : Int) : (counterOf s v).length = 16 := rfl
theorem apply_example : applyN zero16 zero16 [0, 0] = [102, 233] := by decide +kernel

theorem row_lt {w : World} {g : Nat} {o : Obj} (h : w.heap[g]? = some o) : g < w.heap.size := by
  by_cases hlt : g < w.heap.size
  · exact hlt
  · have hn : w.heap[g]? = none := by simp; omega
    rw [hn] at h
    cases h
section
variable (w : World) (a b c : Obj)
theorem al3 : Below w.heap.size w (((w.alloc a).alloc b).alloc c).drew := ((((Below.refl _ _).alloc (Nat.le_refl _) _).alloc (by simp) _).alloc (by simp; omega) _).drew
theorem al3a : (((w.alloc a).alloc b).alloc c).drew.heap[w.heap.size]? = some a := by
  show (((w.alloc a).alloc b).alloc c).heap[w.heap.size]? = some a
  rw [Below.heap_alloc _ _ _ (by simp; omega), Below.heap_alloc _ _ _ (by simp)]
  exact heap_alloc_new _ _
theorem al3b : (((w.alloc a).alloc b).alloc c).drew.heap[w.heap.size + 1]? = some b := by
  show (((w.alloc a).alloc b).alloc c).heap[w.heap.size + 1]? = some b
  rw [Below.heap_alloc _ _ _ (by simp)]
  exact heap_alloc_new' _ _ _ (by simp)
theorem al3c : (((w.alloc a).alloc b).alloc c).drew.heap[w.heap.size + 1 + 1]? = some c := heap_alloc_new' _ _ _ (by simp)
end

set_option maxHeartbeats 800000 in
set_option maxRecDepth 20000 in
theorem strAwake {w0 : World} (HS : StrSpec w0) (w : World) (hw : Below w0.heap.size w0 w) :
    Calls Try.prog 10 #[] w fun e w' => e = .returned (.bool true) ∧ Below w.heap.size w w' := by
  obtain ⟨i0, hi, hz0, hz1, hz2⟩ := info_parts Try.infoU8s
  have H2 := Lib.hid (fun (W : World) (hb : Below w.heap.size w W) => HS.counter 1 2 W (hw.trans (hb.mono hw.size)) (by decide) (by decide) (by decide) (by decide))
  have H1 : Hid (∀ (W : World) (g0 g1 g2 : Nat) (t0 t1 t2 : TypeId), Below w.heap.size w W → W.heap[g0]? = some (.cells (BA zero16) t0 (0, 0)) → W.heap[g1]? = some (.cells (BA zero16) t1 (0, 0)) → W.heap[g2]? = some (.cells (BA [0, 0]) t2 (0, 0)) →
      Calls Try.prog 9 #[.slice (some ⟨g0, 0, none⟩) 16 16, .slice (some ⟨g1, 0, none⟩) 16 16, .slice (some ⟨g2, 0, none⟩) 2 2] W
      fun e w' => ∃ b o c, e = .returned (.tuple #[.slice (some ⟨b, o, none⟩) 2 c, .int .i64 0]) ∧ w'.cell? ⟨b, o, none⟩ = some (.int .u8 102) ∧ w'.cell? ⟨b, o + 1, none⟩ = some (.int .u8 233) ∧ (2 : Int) ≤ c ∧ Below w.heap.size w w') := fun W g0 g1 g2 t0 t1 t2 hb h0 h1 h2 => by
    refine (HS.apply (some ⟨g0, 0, none⟩) (some ⟨g1, 0, none⟩) (some ⟨g2, 0, none⟩) 16 16 2 zero16 zero16 [0, 0] W (hw.trans (hb.mono hw.size)) (ints_of_BA h0 (row_lt h0)) (ints_of_BA h1 (row_lt h1)) (ints_of_BA h2 (row_lt h2)) (fun h => by cases h) zero16_lt zero16_lt (by decide) rfl rfl (Nat.le_refl _) (Nat.le_refl _) (Nat.le_refl _) (by decide)).mono fun e w' ⟨A, c, q1, q2, _, q3, q4⟩ => ?_
    rw [apply_example] at q3
    obtain ⟨b, o, rfl, _, hc⟩ := q3.at_ (by decide)
    exact ⟨b, o, c, q1, hc 0 (by decide), hc 1 (by decide), by have : 2 ≤ c := q2; omega, hb.trans (q4.mono hb.size)⟩
  have hmk : ∀ w : World, (Instr.makeSlice 22 (.int .i64 16) (.int .i64 16)).run Try.prog w = .ok (.slice (some ⟨w.heap.size, 0, none⟩) 16 16) (w.alloc (.cells (BA zero16) 5)) := fun w => by
    have h := run_make_row' (P := Try.prog) 22 5 (.int .u8 0) 1 Try.underlying22 Try.infoU8s rfl .i64 .i64 16 (by decide) (by decide) w
    rw [show madeCells #[Value.int .u8 0] 16 = BA zero16 from Array.toList_inj.1 (by rw [toList_madeCells_one]; rfl)] at h
    exact h
  obtain ⟨Z, hZ⟩ : ∃ Z, Z = BA zero16 := ⟨_, rfl⟩
  rw [← hZ] at hmk H1
  have hb2 : BA [0, 0] = #[.int .u8 0, .int .u8 0] := rfl
  rw [hb2] at H1
  have hb0 : Below w.heap.size w w := Below.refl _ _
  clear HS hw hi hz0 hz1 hz2 hZ hb2
  go_enter Try.func10, Try.ntmps10
  go_wp2
  go_region_with (first
    | (go_at_call 9; with_reducible (refine Calls.mono (H1.out _ _ _ _ 5 5 5 (al3 _ _ _ _) ?h0 ?h1 ?h2) ?_); (case h0 => first | exact al3a _ _ _ _ | exact al3b _ _ _ _ | exact al3c _ _ _ _); (case h1 => first | exact al3a _ _ _ _ | exact al3b _ _ _ _ | exact al3c _ _ _ _); (case h2 => first | exact al3a _ _ _ _ | exact al3b _ _ _ _ | exact al3c _ _ _ _); rintro e w4 ⟨b4, o4, c4, rfl, hq0, hq1, hq2, hb4⟩))
  all_goals
    go_wp2_with (go_at_call 12; with_reducible (refine Calls.mono (H2.out _ hb4) ?_); rintro e w5 ⟨g5, o5, c5, rfl, hc5, _, _, _, hb5⟩)
    go_ret
    exact ⟨rfl, chain hb4 hb5⟩

end Go.Proofs.Ytcoiincgclglbaa
