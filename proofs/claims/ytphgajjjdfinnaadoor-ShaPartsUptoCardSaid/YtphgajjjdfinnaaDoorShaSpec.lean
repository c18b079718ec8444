/-
  The law's own 'awake', from what is asked of the layer sha.
-/
import Derived.Test.YtphgajjjdfinnaaDoorShaRef
import Derived.Test.YtphgajjjdfinnaaDoorShaAsk
import Derived.Lib.SlBytesConst
namespace Go.Proofs.YtphgajjjdfinnaaDoor
open Go.RowKit

theorem shaAwake {w0 : World} (HD : DigestSpec w0) (w : World) (hw0 : Below w0.heap.size w0 w) : Calls Tryd.prog 8 #[] w fun e w' => e = .returned (.bool true) ∧ Below w.heap.size w w' := by
  have kc := fun (w : World) (C : Array Value) (n c : Nat) => Lib.run_convert_bytes_const (P := Tryd.prog) w 22 5 C n c Tryd.underlying22 Tryd.underlying5
  have H1 := Lib.hid (fun (t : TypeId) (fr : Nat × Nat) =>
    HD (some ⟨w.heap.size, 0, none⟩) 3 [97, 98, 99] (w.alloc (.cells #[.int .u8 97, .int .u8 98, .int .u8 99] t fr)) (hw0.alloc hw0.size _)
      ((Ints.newMark w t .u8 (up [97, 98, 99]) _ fr rfl).more (by simp)) (fun h => by cases h) (by intro x hx; simp at hx; omega) (by simp) (by simp))
  have HB := Lib.hid (fun (t : TypeId) (fr : Nat × Nat) => ((Below.refl w.heap.size w).alloc (Nat.le_refl _) (.cells #[.int .u8 97, .int .u8 98, .int .u8 99] t fr)))
  have e0 : (digestN [97, 98, 99]).getD 0 0 = 186 := by decide +kernel
  have e1 : (digestN [97, 98, 99]).getD 1 0 = 120 := by decide +kernel
  have e31 : (digestN [97, 98, 99]).getD 31 0 = 173 := by decide +kernel
  have HC : Hid (∀ (wr : World) (g : Nat) (t : TypeId), wr.heap[g]? = some (.cells (BA (digestN [97, 98, 99])) t (0, 0)) → wr.cell? ⟨g, 0, none⟩ = some (.int .u8 186) ∧ wr.cell? ⟨g, 1, none⟩ = some (.int .u8 120) ∧ wr.cell? ⟨g, 31, none⟩ = some (.int .u8 173)) := fun wr g t h => by
    have h0 := BA_cell h (i := 0) (by decide)
    have h1 := BA_cell h (i := 1) (by decide)
    have h31 := BA_cell h (i := 31) (by decide)
    rw [e0] at h0
    rw [e1] at h1
    rw [e31] at h31
    exact ⟨h0, h1, h31⟩
  have HI : Hid ((Tryd.prog.info? 23).map (·.size) = some (BA (digestN [97, 98, 99])).size) := by unfold Hid; rw [BA_size, digest_len]; kernel_rfl
  have HO : Hid (zero32.size = (BA (digestN [97, 98, 99])).size) := by unfold Hid; rw [BA_size, digest_len]; rfl
  have H1' : Hid ((BA (digestN [97, 98, 99])).all (·.oneCell') = true) := BA_one _
  clear HD hw0 e0 e1 e31
  obtain ⟨D, hD⟩ : ∃ D, D = BA (digestN [97, 98, 99]) := ⟨_, rfl⟩
  rw [← hD] at H1 HC HI HO H1'
  clear hD
  go_enter Tryd.func8, Tryd.ntmps8
  go_wp2_with (first
    | (go_at_call 7; refine Calls.mono (H1.out _ _) ?_; rintro e w1 ⟨rfl, hb1⟩)
    | (refine wpList_store_fresh rfl 23 _ _ rfl w1.heap.size _ rfl rfl 23 zero32 (heap_alloc_new _ _) HI.out HO.out H1'.out (((HB.out _ _).trans (hb1.mono (by simp))).alloc (Nat.le_trans (by simp) hb1.size) _) (Nat.le_trans (by simp) hb1.size) ?_; intro W hW hbW hkW hsW; have hcc := HC.out _ _ _ hW; have hc0 := hcc.1; have hc1 := hcc.2.1; have hc31 := hcc.2.2; clear hcc hkW))
  go_ret
  exact ⟨rfl, hbW⟩

end Go.Proofs.YtphgajjjdfinnaaDoor
