/-
  The words that stand now.
-/
import Derived.Test.YtocnbhefjhammaaDoorShaC3
import Derived.Test.YtocnbhefjhammaaDoorShaLaid
namespace Go.Proofs.YtocnbhefjhammaaDoor
open Go.RowKit

def none8 : List Nat := List.replicate 8 0
/-- The first j words have what is added. -/
def sumTo (l : List Nat) (j : Nat) : List Nat := (List.range 8).map fun i => if i < j then add32 (shaH.list.getD i 0) (l.getD i 0) else shaH.list.getD i 0
theorem sumTo_len (l : List Nat) (j : Nat) : (sumTo l j).length = 8 := by simp [sumTo]
theorem sumTo_zero (l : List Nat) : sumTo l 0 = shaH.list := rfl
theorem sumTo_at (l : List Nat) (j i : Nat) (h : i < 8) : (sumTo l j).getD i 0 = if i < j then add32 (shaH.list.getD i 0) (l.getD i 0) else shaH.list.getD i 0 := by
  rw [List.getD_eq_getElem?_getD, List.getElem?_eq_getElem (by rw [sumTo_len]; exact h), Option.getD_some]
  simp [sumTo]
theorem sumTo_next (l : List Nat) (j : Nat) : (sumTo l j).set j (add32 (shaH.list.getD j 0) (l.getD j 0)) = sumTo l (j + 1) := by
  apply List.ext_getElem
  · simp [sumTo]
  · intro i h1 h2
    have hi : i < 8 := by rw [sumTo_len] at h2; exact h2
    rw [List.getElem_set]
    simp only [sumTo, List.getElem_map, List.getElem_range]
    by_cases e : j = i
    · subst e; simp
    · rw [if_neg e]
      by_cases hlt : i < j
      · rw [if_pos hlt, if_pos (by omega)]
      · rw [if_neg hlt, if_neg (by omega)]
/-- An array's value at an index. -/
theorem run_index_agg {P : Program} {t e : TypeId} {n : Nat} {i : TypeInfo} (hu : P.underlying t = some (.array n e)) (he : P.plainKey e = true) (hi : P.info? e = some i) (hs : i.size = 1) (w : World) (cs : Array Value) (j : Nat) (v : Value) (hj : j < n) (hc : cs[j]? = some v) :
    (Instr.index t (.agg cs) (.int .i64 (j : Int))).run P w = .ok v w := by
  have hp := run_part_plain (P := P) w he (xs := cs) (off := j * 1) (by rw [Nat.mul_one]; exact hc)
  simp [Instr.index, asIntOf, run_underlying hu, sizeOf, typeInfo, hi, hs, hj]
  simpa using hp

set_option maxHeartbeats 800000 in
/-- 'sums'. -/
theorem sums_any (g : Nat) (l : List Nat) (w : World) (hL : Laid w) (hl : l.length = 8) (h : ∀ i, i < 8 → w.cell? ⟨g, i, none⟩ = some (.int .u32 (l.getD i 0 : Nat))) :
    Calls Tryd.prog 35 #[.pointer (some ⟨g, 0, none⟩)] w fun e w' => e = .returned (.agg (U (sumTo l 8))) ∧ Below w.heap.size w w' := by
  have hg : g < w.heap.size := World.block_lt_of_cell? w _ (h 0 (by decide))
  have hz := (zero_of_info (P := Tryd.prog) (t := 59) (v := .agg (U none8)) (n := 8) (by kernel_rfl)).1
  have hu := Tryd.underlying59
  have HL := Lib.hid (fun w' (hb : Below w.heap.size w w') => (hL.to hb).firstRange)
  have HR := Lib.hid (fun w' (hb : Below w.heap.size w w') => range_of_cells (w := w') hl fun i hi => (hb.cell hg).trans (h i hi))
  have hi1 : (Tryd.prog.info? 59).map (·.size) = some (shaH.list.map fun z : Nat => Value.int .u32 (z : Int)).length := by kernel_rfl
  have hi2 : (Tryd.prog.info? 59).map (·.size) = some (l.map fun z : Nat => Value.int .u32 (z : Int)).length := by rw [List.length_map, hl]; kernel_rfl
  clear h
  go_enter Tryd.func35, Tryd.ntmps35
  go_wp2_with (first
    | (with_reducible (refine wpList_load_mid rfl 59 (.global _) rfl 1 0 rfl _ _ (HL.out _ ?hb) hu rfl hi1 ?_); (case hb => exact (Below.refl _ _).alloc (Nat.le_refl _) _))
    | (refine wpList_store_fresh rfl 59 _ _ rfl (w.heap.size + 1) (U shaH.list) rfl rfl 59 (U none8) (heap_alloc_new' _ _ _ (by simp)) hi1 rfl (U_one _) (((Below.refl w.heap.size w).alloc (Nat.le_refl _) _).alloc (by simp) _) (by omega) ?_; intro W hW hbW hkW hsW)
    | (with_reducible (refine wpList_load_mid rfl 59 _ rfl g 0 rfl _ _ (HR.out _ hbW) hu rfl hi2 ?_)))
  have rW3 : Row W (w.heap.size + 1) 59 shaH.list := hW
  have rW2 : Row W w.heap.size 59 none8 := by
    refine (hkW _ (by omega)).trans ?_
    exact (Row.new' w _ _ none8 rfl rfl).alloc _
  have hcx : ∀ j, j < 8 → (l.map fun z : Nat => Value.int .u32 (z : Int)).toArray[j]? = some (.int .u32 (l.getD j 0 : Nat)) := fun j hj => by
    have := U_at l j (by omega)
    exact this
  have hcs : (l.map fun z : Nat => Value.int .u32 (z : Int)).toArray.size = 8 := by simp [hl]
  obtain ⟨C, hC⟩ : ∃ C, C = (l.map fun z : Nat => Value.int .u32 (z : Int)).toArray := ⟨_, rfl⟩
  rw [← hC] at hcx hcs
  simp only [← hC]
  have HC := Lib.hid hcx
  obtain ⟨i0, hi0, hz0, hz1, hz2⟩ := info_parts Tryd.infoU32
  have HI := Lib.hid (fun (w : World) (j : Nat) (v : Value) (hj : j < 8) (hc : C[j]? = some v) => run_index_agg (P := Tryd.prog) (t := 59) hu (by kernel_rfl) hi0 hz1 w C j v hj hc)
  clear hC hcx hW hkW hsW hi2 HL HR
  go_loopw [11] (fun i wr => ∃ j : Nat, j ≤ 8 ∧ i = .int .i64 j ∧ Below w.heap.size w wr ∧ Row wr w.heap.size 59 none8 ∧ Row wr (w.heap.size + 1) 59 (sumTo l j)) (fun i _ => 8 - (intOf i).toNat)
  case atStart => exact ⟨0, by omega, rfl, hbW, rW2, by rw [sumTo_zero]; exact rW3⟩
  case round =>
    clear hbW rW2 rW3
    obtain ⟨j, hj, rfl, hbel, hr2, hr3⟩ := hrel
    by_cases hlt : j < 8
    · have hx := HI.out wr j _ hlt (HC.out j hlt)
      have hlj := hr3.lt
      have hc3 := hr3.cell (i := j) (by rw [sumTo_len]; exact hlt)
      have hf3 := hr3.free j
      rw [sumTo_at l j j hlt, if_neg (Nat.lt_irrefl _)] at hc3
      have HN := Lib.hid (sumTo_next l j)
      obtain ⟨y, hy⟩ : ∃ y, y = shaH.list.getD j 0 := ⟨_, rfl⟩
      obtain ⟨x, hxe⟩ : ∃ x, x = l.getD j 0 := ⟨_, rfl⟩
      rw [← hy] at hc3 HN
      rw [← hxe] at hx HN
      have e1 : ((y : Int) + (x : Int)) % 4294967296 = ((add32 y x : Nat) : Int) := by unfold add32; omega
      have HE := Lib.hid e1
      have R := Lib.hid (And.intro hbel (And.intro hr2 hr3))
      have hj8 : (j : Int) < 8 := by omega
      clear hy hxe hr2 hr3 hbel e1
      go_wp2
      obtain ⟨hbel, hr2, hr3⟩ := R.out
      have R2 : Below w.heap.size w (wr.setCell ⟨w.heap.size + 1, j, none⟩ (.int .u32 (((y : Int) + (x : Int)) % 4294967296))) ∧ Row (wr.setCell ⟨w.heap.size + 1, j, none⟩ (.int .u32 (((y : Int) + (x : Int)) % 4294967296))) w.heap.size 59 none8 ∧
          Row (wr.setCell ⟨w.heap.size + 1, j, none⟩ (.int .u32 (((y : Int) + (x : Int)) % 4294967296))) (w.heap.size + 1) 59 (sumTo l (j + 1)) := by
        rw [HE.out]
        exact ⟨hbel.setCell (by simp only []; omega) _, hr2.other _ _ (by simp only []; omega), by rw [← HN.out]; exact hr3.set j _⟩
      clear hbel hr2 hr3 R hx hc3 hf3
      go_roundw
      case rel => exact ⟨j + 1, by omega, by go_num, R2⟩
      case measure => simp [intOf]; omega
    · have hj9 : j = 8 := by omega
      subst hj9
      have hi : (Tryd.prog.info? 59).map (·.size) = some (U (sumTo l 8)).size := by rw [U_size, sumTo_len]; kernel_rfl
      have ho : (U none8).size = (U (sumTo l 8)).size := by rw [U_size, U_size, sumTo_len]; rfl
      go_wp2_with (first
        | (refine wpList_load_row rfl 59 _ rfl (w.heap.size + 1) rfl 59 _ (0, 0) _ hr3 hu rfl hi ?_)
        | (refine wpList_store_row rfl 59 _ _ rfl w.heap.size _ rfl rfl 59 _ hr2 hi ho (U_one _) ?_))
      refine bodyPost_ret (v := .agg (U (sumTo l 8))) ?_ rfl ⟨rfl, below_setRow hbel (Nat.le_refl _) _⟩
      exact results_cell_row rfl _ _ w.heap.size 59 _ (0, 0) _ rfl (hr2.laid _) hu rfl hi

end Go.Proofs.YtocnbhefjhammaaDoor
