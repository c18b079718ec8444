/-
  The landed disk: what is done within an attempt: Read's, Lasting's, Flush's; what Crash asks.
-/
import Derived.Test.YtnbgnllkikajpaaDiskC5
import Derived.Deep.RegionWith
namespace Go.Proofs.Ytnbgnllkikajpaa
open Go.RowKit

section
variable {w : World} {p gl gn : Nat} {V : Value} {z : Int} {DL : DataW Value} {DN : DataW Unit} {s : Dk}

set_option maxHeartbeats 800000 in
theorem read1_no (h : DiskIn w p gl gn V z DL DN s) (b0 b1 b2 : Nat) (n : Int) (hb0 : w.cell? ⟨b0, 0, none⟩ = some (.pointer (some ⟨p, 0, none⟩))) (hb1 : w.cell? ⟨b1, 0, none⟩ = some (.int .i64 n)) (hE : readE s n ≠ 0) :
    Calls Try.prog 29 #[.pointer (some ⟨b0, 0, none⟩), .pointer (some ⟨b1, 0, none⟩), .pointer (some ⟨b2, 0, none⟩)] w fun e w' => e = .panicked (upV (readE s n)) ∧ w' = w := by
  obtain ⟨_, _, _, _, _, c5⟩ := h.cells
  have hnot : ∀ (x : Bool) (w : World), (Op.unary .not (.bool x)).run Try.prog w = .ok (.bool (!x)) w := fun _ _ => rfl
  cases ho : s.off with
  | true =>
    have e : readE s n = 8 := by unfold readE; rw [ho]; rfl
    rw [e]
    rw [ho] at c5
    clear h hE e
    go_enter Try.func29, Try.ntmps29
    go_wp2_with (go_at_call 25; with_reducible (refine Calls.mono (demand_no _ _) ?_); rintro e w1 ⟨rfl, rfl⟩)
    exact ⟨rfl, rfl, rfl⟩
  | false =>
    have hout : outD s n := by
      unfold readE at hE
      rw [ho, if_neg (by decide)] at hE
      by_cases q : outD s n
      · exact q
      · rw [if_neg q] at hE; exact absurd rfl hE
    have e : readE s n = 7 := by unfold readE; rw [ho, if_neg (by decide), if_pos hout]
    rw [e]
    rw [ho] at c5
    have HH := Lib.hid (has_no h n hout)
    clear h hE e hout
    go_enter Try.func29, Try.ntmps29
    go_wp2_with (first
      | (go_at_call 26; with_reducible (refine Calls.mono HH.out ?_); rintro e w1 ⟨rfl, rfl⟩; have h7 := hnot)
      | (go_at_call 25; have h7' := h7; with_reducible (refine Calls.mono (demand_no _ _) ?_); rintro e w1 ⟨rfl, rfl⟩)
      | (go_at_call 25; with_reducible (refine Calls.mono (demand_ok _ _) ?_); rintro e w1 ⟨rfl, rfl⟩))
    exact ⟨rfl, rfl, rfl⟩

set_option maxHeartbeats 1600000 in
set_option maxRecDepth 20000 in
theorem read1_ok (h : DiskIn w p gl gn V z DL DN s) (b0 b1 b2 i : Nat) (hb0 : w.cell? ⟨b0, 0, none⟩ = some (.pointer (some ⟨p, 0, none⟩))) (hb1 : w.cell? ⟨b1, 0, none⟩ = some (.int .i64 (i : Int))) (hb2 : w.heap[b2]? = some (.cells #[.slice none 0 0] 30 (0, 0))) (hE : readE s (i : Int) = 0) :
    Calls Try.prog 29 #[.pointer (some ⟨b0, 0, none⟩), .pointer (some ⟨b1, 0, none⟩), .pointer (some ⟨b2, 0, none⟩)] w fun e w' => e = .returned (.tuple #[]) ∧
      ∃ W, Below w.heap.size w W ∧ w' = (W.alloc (.cells (BA (nowD s i)) 65)).setCell ⟨b2, 0, none⟩ (.slice (some ⟨W.heap.size, 0, none⟩) 64 64) := by
  obtain ⟨_, _, _, _, _, c5⟩ := h.cells
  have ho : s.off = false := by
    cases q : s.off
    · rfl
    · unfold readE at hE; rw [q] at hE; cases hE
  have hout : ¬ outD s (i : Int) := fun q => by unfold readE at hE; rw [ho, if_neg (by decide), if_pos q] at hE; cases hE
  have hi : i < s.last.length := by unfold outD at hout; omega
  rw [ho] at c5
  have HH := Lib.hid (has_yes h (i : Int) hout)
  have HNW := Lib.hid (now_go h i hi)
  obtain ⟨t, ht⟩ : ∃ t, t = nowD s i := ⟨_, rfl⟩
  have htl : t.length = 64 := by rw [ht]; exact (seenP_sec h.ok hi).1
  rw [← ht] at HNW ⊢
  have HBY := Lib.hid (bytes_go t htl)
  have hlt := (Array.getElem?_eq_some_iff.1 hb2).1
  have HS : Hid (∀ W : World, Below w.heap.size w W → (W.alloc (.cells (BA t) 65)).cell? ⟨b2, 0, none⟩ = some (.slice none 0 0) ∧ (W.alloc (.cells (BA t) 65)).frozen? ⟨b2, 0, none⟩ = false) := fun W hb => by
    have hq : (W.alloc (.cells (BA t) 65)).heap[b2]? = some (.cells #[.slice none 0 0] 30 (0, 0)) := (Below.heap_alloc _ _ _ (Nat.lt_of_lt_of_le hlt hb.size)).trans ((hb.block b2 hlt).trans hb2)
    exact ⟨cell_of_row _ _ _ _ _ _ hq, frozen_of_row _ _ _ _ _ hq⟩
  obtain ⟨T, hT⟩ : ∃ T, T = BA t := ⟨_, rfl⟩
  rw [← hT] at HBY HS ⊢
  clear h hE hout hi ho ht htl hT hlt hb2
  go_enter Try.func29, Try.ntmps29
  go_wp2_with (first
    | (go_at_call 26; with_reducible (refine Calls.mono HH.out ?_); rintro e w1 ⟨rfl, rfl⟩)
    | (go_at_call 25; with_reducible (refine Calls.mono (demand_ok _ _) ?_); rintro e w1 ⟨rfl, rfl⟩)
    | (go_at_call 30; with_reducible (refine Calls.mono HNW.out ?_); rintro e w1 ⟨rfl, hb1⟩)
    | (go_at_call 31; with_reducible (refine Calls.mono (HBY.out _) ?_); rintro e w2 ⟨rfl, rfl⟩; have y1 := (HS.out _ hb1).1; have y2 := (HS.out _ hb1).2))
  exact bodyPost_end (results_none rfl _ _ _) rfl ⟨rfl, _, hb1, rfl⟩

set_option maxHeartbeats 800000 in
theorem last1_no (h : DiskIn w p gl gn V z DL DN s) (b0 b1 b2 : Nat) (n : Int) (hb0 : w.cell? ⟨b0, 0, none⟩ = some (.pointer (some ⟨p, 0, none⟩))) (hb1 : w.cell? ⟨b1, 0, none⟩ = some (.int .i64 n)) (hE : lastE s n ≠ 0) :
    Calls Try.prog 37 #[.pointer (some ⟨b0, 0, none⟩), .pointer (some ⟨b1, 0, none⟩), .pointer (some ⟨b2, 0, none⟩)] w fun e w' => e = .panicked (upV (lastE s n)) ∧ w' = w := by
  have hout : outD s n := by
    unfold lastE at hE
    by_cases q : outD s n
    · exact q
    · rw [if_neg q] at hE; exact absurd rfl hE
  have e : lastE s n = 7 := by unfold lastE; rw [if_pos hout]
  rw [e]
  have HH := Lib.hid (has_no h n hout)
  clear h hE e hout
  go_enter Try.func37, Try.ntmps37
  go_wp2_with (first
    | (go_at_call 26; with_reducible (refine Calls.mono HH.out ?_); rintro e w1 ⟨rfl, rfl⟩)
    | (go_at_call 25; with_reducible (refine Calls.mono (demand_no _ _) ?_); rintro e w1 ⟨rfl, rfl⟩))
  exact ⟨rfl, rfl, rfl⟩

set_option maxHeartbeats 1600000 in
set_option maxRecDepth 20000 in
theorem last1_ok (h : DiskIn w p gl gn V z DL DN s) (b0 b1 b2 i : Nat) (hb0 : w.cell? ⟨b0, 0, none⟩ = some (.pointer (some ⟨p, 0, none⟩))) (hb1 : w.cell? ⟨b1, 0, none⟩ = some (.int .i64 (i : Int))) (hb2 : w.heap[b2]? = some (.cells #[.slice none 0 0] 30 (0, 0))) (hE : lastE s (i : Int) = 0) (hne : b2 ≠ b0 ∧ b2 ≠ b1 ∧ b2 ≠ p) :
    Calls Try.prog 37 #[.pointer (some ⟨b0, 0, none⟩), .pointer (some ⟨b1, 0, none⟩), .pointer (some ⟨b2, 0, none⟩)] w fun e w' => e = .returned (.tuple #[]) ∧
      ∃ W, Below w.heap.size w W ∧ w' = (W.alloc (.cells (BA (s.last.getD i [])) 65)).setCell ⟨b2, 0, none⟩ (.slice (some ⟨W.heap.size, 0, none⟩) 64 64) := by
  obtain ⟨_, c1, _, _, _, _⟩ := h.cells
  have hout : ¬ outD s (i : Int) := fun q => by unfold lastE at hE; rw [if_pos q] at hE; cases hE
  have hi : i < s.last.length := by unfold outD at hout; omega
  have HH := Lib.hid (has_yes h (i : Int) hout)
  obtain ⟨t, ht⟩ : ∃ t, t = s.last.getD i [] := ⟨_, rfl⟩
  have htl : t.length = 64 := by rw [ht]; exact (h.ok.sec i hi).1
  have hi6 : (i : Int) < 4096 := by have := h.ok.le; omega
  have hrunA : ∀ W : World, W.heap = w.heap → (Instr.lookup 56 (.map (some gl)) (.int .i64 (i : Int)) false).run Try.prog W = .ok (secV t) W := fun W hW => by
    have hl := mapHeap (w' := W) h.last (by rw [hW])
    obtain ⟨v, ps, hrun, hR⟩ := hl.lookup keyD Try.undMapL (zeroL W) (zd := .held (secV zeroSec)) (zp := []) rfl (keyOfD (x := (i : Int)) (by unfold I64c; omega))
    rw [h.lsays.here i hi, ← ht] at hR
    have hv : v = secV t := by
      unfold heldElem at hR
      injection hR with hR
      injection hR with hR _
      injection hR
    rw [hrun, hv]
  rw [← ht]
  have HBY := Lib.hid (bytes_go t htl)
  have hlt := (Array.getElem?_eq_some_iff.1 hb2).1
  have c20 : w.cell? ⟨b2, 0, none⟩ = some (.slice none 0 0) := cell_of_row _ _ _ _ _ _ hb2
  have hrun := hrunA w.drew rfl
  have hq : (w.alloc (.cells (BA t) 65)).heap[b2]? = some (.cells #[.slice none 0 0] 30 (0, 0)) := (Below.heap_alloc w _ _ hlt).trans hb2
  have y1 : (w.alloc (.cells (BA t) 65)).cell? ⟨b2, 0, none⟩ = some (.slice none 0 0) := cell_of_row _ _ _ _ _ _ hq
  have y2 : (w.alloc (.cells (BA t) 65)).frozen? ⟨b2, 0, none⟩ = false := frozen_of_row _ _ _ _ _ hq
  have y3 : (w.drew.alloc (.cells (BA t) 65)).cell? ⟨b2, 0, none⟩ = some (.slice none 0 0) := y1
  have y4 : (w.drew.alloc (.cells (BA t) 65)).frozen? ⟨b2, 0, none⟩ = false := y2
  have hb : Hid (Below w.heap.size w w.drew) := (Below.refl _ _).drew
  unfold secV at hrun HBY
  have HS : Hid (∀ W : World, W.heap = w.heap ∨ W.heap = (w.alloc (.cells (BA t) 65)).heap ∨ W.heap = ((w.alloc (.cells (BA t) 65)).setCell ⟨b2, 0, none⟩ (.slice (some ⟨w.heap.size, 0, none⟩) 64 64)).heap → W.cell? ⟨b0, 0, none⟩ = some (.pointer (some ⟨p, 0, none⟩)) ∧ W.cell? ⟨p, 1, none⟩ = some (.map (some gl)) ∧ W.cell? ⟨b1, 0, none⟩ = some (.int .i64 (i : Int))) := fun W q => by
    have l0 := World.block_lt_of_cell? w _ hb0
    have l1 := World.block_lt_of_cell? w _ hb1
    have lp := World.block_lt_of_cell? w _ c1
    have key : ∀ b, b < w.heap.size → b2 ≠ b → W.heap[b]? = w.heap[b]? := fun b hb hn => by
      rcases q with q | q | q
      · rw [q]
      · rw [q]; exact Below.heap_alloc w _ _ hb
      · rw [q]; exact (setc_other _ _ _ _ _ hn).trans (Below.heap_alloc w _ _ hb)
    exact ⟨(World.cell?_of_block (key b0 l0 hne.1)).trans hb0, (World.cell?_of_block (key p lp hne.2.2)).trans c1, (World.cell?_of_block (key b1 l1 hne.2.1)).trans hb1⟩
  obtain ⟨T, hT⟩ : ∃ T, T = BA t := ⟨_, rfl⟩
  rw [← hT] at HBY y1 y2 y3 y4 hrun HS ⊢
  clear h hE hout hi ht htl hT hlt hb2 hq hrunA hne
  go_enter Try.func37, Try.ntmps37
  go_wp2_with (first
    | (go_at_call 26; with_reducible (refine Calls.mono HH.out ?_); rintro e w1 ⟨rfl, rfl⟩)
    | (go_at_call 25; with_reducible (refine Calls.mono (demand_ok _ _) ?_); rintro e w1 ⟨rfl, rfl⟩))
  go_region_held3 (fun W => W.cell? ⟨b0, 0, none⟩ = some (.pointer (some ⟨p, 0, none⟩)) ∧ W.cell? ⟨p, 1, none⟩ = some (.map (some gl)) ∧ W.cell? ⟨b1, 0, none⟩ = some (.int .i64 (i : Int)))
    (first
      | exact HS.out _ (.inl rfl)
      | exact HS.out _ (.inr (.inl rfl))
      | exact HS.out _ (.inr (.inr rfl)))
    (first
      | (go_at_call 31; with_reducible (refine Calls.mono (HBY.out _) ?_); rintro e w2 ⟨rfl, rfl⟩))
  exact bodyPost_end (results_none rfl _ _ _) rfl ⟨rfl, _, hb.out, rfl⟩
end

end Go.Proofs.Ytnbgnllkikajpaa
