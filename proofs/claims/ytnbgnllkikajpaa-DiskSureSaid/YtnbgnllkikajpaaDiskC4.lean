/-
  The landed disk: keep.
-/
import Derived.Test.YtnbgnllkikajpaaDiskC3
import Derived.Test.YtnbgnllkikajpaaMapTurn
import Derived.Deep.RegionHeld3
namespace Go.Proofs.Ytnbgnllkikajpaa
open Go.RowKit

section
variable {w w' : World} {p gl gn : Nat} {V : Value} {z : Int} {DL : DataW Value} {DN : DataW Unit} {s : Dk}
/-- The map of what lasts turns. -/
theorem DiskIn.lastTurn (h : DiskIn w p gl gn V z DL DN s) {DL' : DataW Value} {m : Nat} {l' : List (List Nat)} (ho : w'.ownsMap Try.prog 3 heldElem gl m DL') (ht : w.mapTurned w' gl) (hs : SecMap DL' l') (hl : l'.length = s.last.length) (hsec : ∀ i, i < l'.length → Sec (l'.getD i [])) :
    DiskIn w' p gl gn V z DL' DN ⟨l', s.pend, s.lim, s.off⟩ :=
  ⟨⟨by rw [hl]; exact h.ok.pos, by rw [hl]; exact h.ok.le, hsec, fun i hi => by rw [hl]; exact h.ok.pen i hi⟩, by rw [hl]; exact (mt_other ht h.a1.1).trans h.box, mapTight ho, hs, mapHeap h.new (mt_other ht (Ne.symm h.a1.2.2)), h.nsays, own_same h.pend (fun g e => mt_other ht (fun e2 => h.a2.2.1 (e2 ▸ e))), h.lim, h.zi, h.a1, h.a2⟩

theorem rangeAt_list {w : World} {g : Nat} {C : Array Value} {t : TypeId} {fr : Nat × Nat} (h : w.heap[g]? = some (.cells C t fr)) {cs : List Value} (hc : ∀ (j : Nat) (v : Value), cs[j]? = some v → C[j]? = some v) : w.rangeAt g 0 cs := fun j v hv => by
  rw [Nat.zero_add, cell_of_row w g j C t fr h]; exact hc j v hv
theorem wrV_sec (i : Nat) {t : List Nat} (ht : t.length = 64) : (∀ (j : Nat) (v : Value), (BA t).toList[j]? = some v → (wrV (i, t)).toArray[j]? = some v) ∧ (wrV (i, t)).toArray[64]? = some (.int .i64 (i : Int)) := by
  have hl : (BA t).toList.length = 64 := by rw [Array.length_toList, BA_size, ht]
  refine ⟨fun j v hv => ?_, ?_⟩
  · have hj : j < (BA t).toList.length := by
      rcases Nat.lt_or_ge j (BA t).toList.length with q | q
      · exact q
      · rw [List.getElem?_eq_none q] at hv; cases hv
    rw [List.getElem?_toArray]
    unfold wrV
    rw [List.getElem?_append_left hj]; exact hv
  · rw [List.getElem?_toArray]
    show ((BA t).toList ++ [Value.int .i64 (i : Int)])[64]? = _
    rw [List.getElem?_append_right (by omega), hl]; rfl

set_option maxHeartbeats 1600000 in
set_option maxRecDepth 20000 in
theorem keep_go (h : DiskIn w p gl gn V z DL DN s) (i : Nat) (hi : i < s.last.length) (t : List Nat) (ht : Sec t) :
    Calls Try.prog 39 #[.pointer (some ⟨p, 0, none⟩), .agg (wrV (i, t)).toArray] w fun e w' => e = .returned (.tuple #[]) ∧ (∃ DL', DiskIn w' p gl gn V z DL' DN ⟨s.last.set i t, s.pend, s.lim, s.off⟩) ∧ Away (ownD p gl gn V) w w' := by
  have hi6 : (i : Int) < 4096 := by have := h.ok.le; omega
  have hkey := Lib.hid (keyOfD (x := (i : Int)) (by unfold I64c; omega))
  obtain ⟨g1, g2⟩ := wrV_sec i ht.1
  obtain ⟨C, hC⟩ : ∃ C, C = (wrV (i, t)).toArray := ⟨_, rfl⟩
  rw [← hC] at g1 g2 ⊢
  have hBk := fun W : World => blank_go t ht.1 W
  have hinL : (Try.prog.info? 65).map (·.size) = some (BA t).toList.length := by rw [Array.length_toList, BA_size, ht.1]; exact Try.infS
  have hu := Try.und64
  have hb0 : Below w.heap.size w (w.alloc (.cells C 67)) := (Below.refl _ _).alloc (Nat.le_refl _) _
  have hb1 : Below w.heap.size w ((w.alloc (.cells C 67)).alloc (.cells (BA t) 65)) := hb0.alloc (by simp) _
  have y0 := heap_alloc_new w (.cells C 67)
  have y1 : ((w.alloc (.cells C 67)).alloc (.cells (BA t) 65)).heap[w.heap.size]? = some (.cells C 67 (0, 0)) := (Below.heap_alloc _ _ _ (by simp)).trans y0
  have h1 := h.later hb1
  have hlen : (s.last.set i t).length = s.last.length := List.length_set
  have hsec : ∀ j, j < (s.last.set i t).length → Sec ((s.last.set i t).getD j []) := fun j hj => by
    rw [hlen] at hj
    rw [set_getD _ _ _ _ hj]
    split
    · exact ht
    · exact h.ok.sec j hj
  have hmx : Maps.size DL < maxLen := by
    have := h.lsays.keys.size (h.last.tidy keyD)
    have := h.ok.le
    unfold maxLen; omega
  have HR0 := Lib.hid (rangeAt_list (cs := (BA t).toList) y0 g1)
  have hA : Away (ownD p gl gn V) w ((w.alloc (.cells C 67)).alloc (.cells (BA t) 65)) := al_away (al_away (Away.refl _ w) _) _
  obtain ⟨W, hW⟩ : ∃ W, W = (w.alloc (.cells C 67)).alloc (.cells (BA t) 65) := ⟨_, rfl⟩
  rw [← hW] at hb1 y1 h1 hA
  obtain ⟨_, d1, _⟩ := h1.cells
  have d2 : W.cell? ⟨w.heap.size, 64, none⟩ = some (.int .i64 (i : Int)) := by rw [cell_of_row _ _ _ _ _ _ y1]; exact g2
  have dR : W.rangeAt w.heap.size 0 (BA t).toList := rangeAt_list y1 g1
  have hne : w.heap.size ≠ gl := fun e => by have := h.lt gl own_l; omega
  have HM := Lib.hid h1.last
  have HS : Hid (∀ W3 : World, W.drew.mapTurned W3 gl → W3.cell? ⟨p, 1, none⟩ = some (.map (some gl)) ∧ W3.cell? ⟨w.heap.size, 64, none⟩ = some (.int .i64 (i : Int)) ∧ W3.rangeAt w.heap.size 0 (BA t).toList) := fun W3 q =>
    ⟨(World.cell?_of_block (mt_other q h.a1.1)).trans d1, (World.cell?_of_block (mt_other q hne)).trans d2, fun j v hv => (World.cell?_of_block (mt_other q hne)).trans (dR j v hv)⟩
  have HD := Lib.hid hW
  by_cases hz : (t == zeroSec) = true
  · have HE : Hid (∀ (W3 : World) (m : Nat), W3.ownsMap Try.prog 3 heldElem gl m (DL.del (.int .i64 (i : Int))) → W.drew.mapTurned W3 gl → (∃ DL', DiskIn W3 p gl gn V z DL' DN ⟨s.last.set i t, s.pend, s.lim, s.off⟩) ∧ Away (ownD p gl gn V) w W3) := fun W3 m q1 q2 => by
      have e : t = zeroSec := by simpa using hz
      exact ⟨⟨_, (h1.keep (w' := W.drew) (fun _ _ => rfl)).lastTurn q1 q2 (by rw [e]; exact h.lsays.del) hlen hsec⟩, mt_away (away_drew1 hA) q2 own_l⟩
    rw [hz] at hBk
    obtain ⟨s2, hs2⟩ : ∃ s2, s2 = (⟨s.last.set i t, s.pend, s.lim, s.off⟩ : Dk) := ⟨_, rfl⟩
    rw [← hs2] at HE ⊢
    obtain ⟨T, hTT⟩ : ∃ T, T = BA t := ⟨_, rfl⟩
    unfold secV at hBk
    simp only [← hTT] at hBk HR0 HS dR hinL HD
    have HBk := Lib.hid hBk
    clear h h1 g1 g2 hC hb0 y0 y1 hlen hsec hmx hA hb1 hs2 hTT hz hi ht hBk hW
    go_enter Try.func39, Try.ntmps39
    go_wp2_with (first
      | (refine wpList_load_mid rfl 65 _ rfl w.heap.size 0 (by first | rfl | simp) T.toList _ HR0.out hu rfl hinL ?_; rw [Array.toArray_toList])
      | (go_at_call 40; with_reducible (refine Calls.mono (HBk.out _) ?_); rintro e w1 ⟨rfl, rfl⟩; rw [← HD.out]))
    go_region_held3 (fun W => W.cell? ⟨p, 1, none⟩ = some (.map (some gl)) ∧ W.cell? ⟨w.heap.size, 64, none⟩ = some (.int .i64 (i : Int)) ∧ W.rangeAt w.heap.size 0 T.toList)
      (first
        | exact ⟨d1, d2, dR⟩
        | exact HS.out _ ht3)
      (first
        | (refine step_deleteH rfl _ _ 56 rfl _ keyD Try.undMapL rfl HM.out _ _ rfl hkey.out ?_
           intro w3 ho3 ht3))
    exact bodyPost_end (results_none rfl _ _ _) rfl ⟨rfl, HE.out _ _ ho3 ht3⟩
  · have HE : Hid (∀ (W3 : World) (m : Nat), W3.ownsMap Try.prog 3 heldElem gl m (DL.put (.int .i64 (i : Int)) (.held (secV t))) → W.drew.mapTurned W3 gl → (∃ DL', DiskIn W3 p gl gn V z DL' DN ⟨s.last.set i t, s.pend, s.lim, s.off⟩) ∧ Away (ownD p gl gn V) w W3) := fun W3 m q1 q2 =>
      ⟨⟨_, (h1.keep (w' := W.drew) (fun _ _ => rfl)).lastTurn q1 q2 (h.lsays.put (h.last.isMap) hi t) hlen hsec⟩, mt_away (away_drew1 hA) q2 own_l⟩
    rw [eq_false_of_ne_true hz] at hBk
    obtain ⟨s2, hs2⟩ : ∃ s2, s2 = (⟨s.last.set i t, s.pend, s.lim, s.off⟩ : Dk) := ⟨_, rfl⟩
    rw [← hs2] at HE ⊢
    obtain ⟨T, hTT⟩ : ∃ T, T = BA t := ⟨_, rfl⟩
    unfold secV at hBk HE
    simp only [← hTT] at hBk HR0 HS dR hinL HD HE
    have HBk := Lib.hid hBk
    obtain ⟨W3, hrun3, ho3, ht3⟩ := World.ownsMap.store (w := W.drew) (t := 56) (e := 65) (val := .agg T) (d := .held (.agg T)) (ps := []) h1.last keyD Try.undMapL hmx hkey.out rfl
    have R := Lib.hid (HE.out W3 _ ho3 ht3)
    have S3 := Lib.hid (HS.out W3 ht3)
    clear ho3 ht3
    clear h h1 g1 g2 hC hb0 y0 y1 hlen hsec hmx hA hb1 hs2 hTT hz hi ht hBk hW
    go_enter Try.func39, Try.ntmps39
    go_wp2_with (first
      | (refine wpList_load_mid rfl 65 _ rfl w.heap.size 0 (by first | rfl | simp) T.toList _ HR0.out hu rfl hinL ?_; rw [Array.toArray_toList])
      | (go_at_call 40; with_reducible (refine Calls.mono (HBk.out _) ?_); rintro e w1 ⟨rfl, rfl⟩; rw [← HD.out]))
    go_region_held3 (fun W => W.cell? ⟨p, 1, none⟩ = some (.map (some gl)) ∧ W.cell? ⟨w.heap.size, 64, none⟩ = some (.int .i64 (i : Int)) ∧ W.rangeAt w.heap.size 0 T.toList)
      (first
        | exact ⟨d1, d2, dR⟩
        | exact S3.out)
      (first
        | fail)
    exact bodyPost_end (results_none rfl _ _ _) rfl ⟨rfl, R.out⟩
end

end Go.Proofs.Ytnbgnllkikajpaa
