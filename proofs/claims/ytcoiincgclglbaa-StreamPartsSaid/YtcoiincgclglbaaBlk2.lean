/-
  A block of 16 bytes of one's own, as a slice that is handed on.
-/
import Derived.Test.YtcoiincgclglbaaBlk
namespace Go.Proofs.Ytcoiincgclglbaa
open Go.RowKit

theorem Blk.ints {base g cap : Nat} {w : World} {l : List Nat} (h : Blk base w (.slice (some ⟨g, 0, none⟩) 16 cap) l) : Ints w w.heap.size .u8 (some ⟨g, 0, none⟩) (up l) ∧ 16 ≤ cap := by
  obtain ⟨h1, _, B, g', cap', hv, _, _, _, h6⟩ := h
  refine ⟨Ints.of_own (c := cap) (n := 16) (base := B) (t := 5) ?_, own_le h6⟩
  rw [up_len, h1]
  exact h6
theorem Blk.lt {base g cap n : Nat} {w : World} {l : List Nat} (h : Blk base w (.slice (some ⟨g, 0, none⟩) n cap) l) : g < w.heap.size := by
  obtain ⟨_, _, B, g', cap', hv, _, _, h5, _⟩ := h
  injection hv with hA _ _
  injection hA with hA
  injection hA with hA
  omega

end Go.Proofs.Ytcoiincgclglbaa
