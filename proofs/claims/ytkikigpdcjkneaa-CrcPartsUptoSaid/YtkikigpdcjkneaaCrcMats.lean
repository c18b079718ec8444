/-
  What so many bytes 0 do, as a row of registers (the methods of and twice, oneZero): its every call. The table of bytes.
-/
import Derived.Test.YtkikigpdcjkneaaCrcRows
namespace Go.Proofs.Ytkikigpdcjkneaa
open Go.RowKit

def none32 : List Nat := List.replicate 32 0
theorem of_mat (m r : Nat) (w : World) (hr : r < 2 ^ 32) :
    Calls Try.prog 21 #[.agg (U (mat m)), .int .u32 (r : Int)] w fun e w' => e = .returned (.int .u32 (bitsN m r : Nat)) ∧ Below w.heap.size w w' :=
  of_any (mat m) r m w hr (mat_length m) (mat_at m)
theorem mat_cell {w : World} {g m : Nat} {t : TypeId} (h : Row w g t (mat m)) {j : Nat} (hj : j < 32) : w.cell? ⟨g, j, none⟩ = some (.int .u32 (bitsN m (2 ^ j) : Nat)) := by
  rw [h.cell (by rw [mat_length]; exact hj), mat_at m j hj]
theorem upTo_length {l zs : List Nat} {j : Nat} (hl : l.length = 32) (hz : zs.length = 32) (hj : j ≤ 32) : (upTo l zs j).length = 32 := by
  simp [upTo, hl, hz]; omega

theorem Row.new' (w : World) (t : TypeId) (g : Nat) (zs : List Nat) {cs : Array Value} (hg : g = w.heap.size) (hc : cs = U zs) : Row (w.alloc (.cells cs t)) g t zs := by
  subst hg hc
  exact Row.new w t zs

theorem twice_any (m : Nat) (w : World) :
    Calls Try.prog 22 #[.agg (U (mat m))] w fun e w' => e = .returned (.agg (U (mat (m + m)))) ∧ Below w.heap.size w w' := by
  have HO := Lib.hid (of_mat m)
  have HL := Lib.hid (bitsN_add m m)
  go_enter Try.func22, Try.ntmps22
  go_wp2
  go_loopw [5] (fun i wr => ∃ j : Nat, j ≤ 32 ∧ i = .int .i64 j ∧ Below w.heap.size w wr ∧ Row wr w.heap.size 41 (mat m) ∧ Row wr (w.heap.size + 1) 41 none32 ∧ Row wr (w.heap.size + 1 + 1) 41 (upTo (mat (m + m)) none32 j)) (fun i _ => 32 - (intOf i).toNat)
  case atStart =>
    refine ⟨0, by omega, rfl, ?_, ?_, ?_, ?_⟩
    · exact (((Below.refl _ _).alloc (Nat.le_refl _) _).alloc (by simp) _).alloc (by simp; omega) _
    · exact ((Row.new w _ (mat m)).alloc _).alloc _
    · exact (Row.new' (w.alloc _) _ _ none32 (by simp) rfl).alloc _
    · exact Row.new' ((w.alloc _).alloc _) _ _ none32 (by simp) rfl
  case round =>
    obtain ⟨j, hj, rfl, hbel, hr1, hr2, hr3⟩ := hrel
    by_cases hj8 : j < 32
    · have hlen := upTo_length (l := mat (m + m)) (zs := none32) (mat_length _) rfl hj
      have hx := bitsN_lt (n := m) (Nat.pow_lt_pow_right (a := 2) (by decide) hj8)
      have hc1 := mat_cell hr1 hj8
      have hl1 := hr1.lt
      have hl3 := hr3.lt
      have HS := Lib.hid fun (w' : World) (he : w'.heap[w.heap.size]? = wr.heap[w.heap.size]?) =>
        have hq : Row w' w.heap.size 41 (mat m) := he.trans hr1
        (⟨hq.range, mat_cell hq hj8⟩ :
          w'.rangeAt w.heap.size 0 ((mat m).map fun z : Nat => Value.int .u32 (z : Int)) ∧ w'.cell? ⟨w.heap.size, j, none⟩ = some (.int .u32 (bitsN m (2 ^ j) : Nat)))
      have HD := Lib.hid fun w' (hb : Below wr.heap.size wr w') =>
        (⟨(hr3.below hb hr3.lt).cell (by rw [hlen]; exact hj8), (hr3.below hb hr3.lt).free j⟩ :
          w'.cell? ⟨w.heap.size + 1 + 1, j, none⟩ = some (.int .u32 ((upTo (mat (m + m)) none32 j).getD j 0 : Nat)) ∧ w'.frozen? ⟨w.heap.size + 1 + 1, j, none⟩ = false)
      have HN := Lib.hid (upTo_next (mat (m + m)) none32 j (by rw [mat_length]; exact hj8) hj8)
      rw [mat_at _ j hj8, bitsN_add] at HN
      obtain ⟨y, hy⟩ : ∃ y, y = (upTo (mat (m + m)) none32 j).getD j 0 := ⟨_, rfl⟩
      obtain ⟨x, hxe⟩ : ∃ x, x = bitsN m (2 ^ j) := ⟨_, rfl⟩
      rw [← hy] at HD
      rw [← hxe] at HS HN hx
      obtain ⟨L, hL⟩ : ∃ L, L = (mat m).map fun z : Nat => Value.int .u32 (z : Int) := ⟨_, rfl⟩
      have HO' := Lib.hid (fun wq => HO.out x wq hx)
      unfold U at HO'
      rw [← hL] at HS HO'
      have hi : (Try.prog.info? 41).map (·.size) = some L.length := by rw [hL, List.length_map, mat_length]; rfl
      have hu := Try.underlying41
      have R := Lib.hid (And.intro hbel (And.intro hr1 (And.intro hr2 hr3)))
      clear hy hxe hL HO HL hlen hr1 hr2 hr3 hbel hc1
      go_wp2
      go_region_held3 (fun w' => w'.rangeAt w.heap.size 0 L ∧ w'.cell? ⟨w.heap.size, j, none⟩ = some (.int .u32 (x : Nat)))
        (first
          | exact HS.out _ rfl
          | exact HS.out _ (hbq.block _ hl1)
          | exact HS.out _ ((heap_setCell_other _ _ _ _ (by simp only []; omega)).trans (hbq.block _ hl1)))
        (first
          | (go_at_call 21; refine Calls.mono (HO'.out _) ?_; rintro e wq ⟨rfl, hbq⟩; have hd1 := (HD.out _ (((Below.refl _ _).drew).trans hbq)).1; have hd2 := (HD.out _ (((Below.refl _ _).drew).trans hbq)).2))
      have hb2 : Below wr.heap.size wr wq := ((Below.refl _ _).drew).trans hbq
      obtain ⟨hbel, hr1, hr2, hr3⟩ := R.out
      have R2 : Below w.heap.size w (wq.setCell ⟨w.heap.size + 1 + 1, j, none⟩ (.int .u32 (bitsN m x : Nat))) ∧ Row (wq.setCell ⟨w.heap.size + 1 + 1, j, none⟩ (.int .u32 (bitsN m x : Nat))) w.heap.size 41 (mat m) ∧
          Row (wq.setCell ⟨w.heap.size + 1 + 1, j, none⟩ (.int .u32 (bitsN m x : Nat))) (w.heap.size + 1) 41 none32 ∧ Row (wq.setCell ⟨w.heap.size + 1 + 1, j, none⟩ (.int .u32 (bitsN m x : Nat))) (w.heap.size + 1 + 1) 41 (upTo (mat (m + m)) none32 (j + 1)) :=
        ⟨(chain hbel hb2).setCell (by simp only []; omega) _, (hr1.below hb2 hr1.lt).other _ _ (by simp only []; omega), (hr2.below hb2 hr2.lt).other _ _ (by simp only []; omega), by rw [← HN.out]; exact (hr3.below hb2 hr3.lt).set j _⟩
      clear hbel hr1 hr2 hr3 hb2 hbq hi hu
      go_wp2
      go_roundw
      case rel => exact ⟨j + 1, by omega, by go_num, R2⟩
      case measure => simp [intOf]; omega
    · have hj9 : j = 32 := by omega
      subst hj9
      have e3 : upTo (mat (m + m)) none32 32 = mat (m + m) := rfl
      rw [e3] at hr3
      have hu := Try.underlying41
      have hi : (Try.prog.info? 41).map (·.size) = some (U (mat (m + m))).size := by rw [U_size, mat_length]; rfl
      have ho : (U none32).size = (U (mat (m + m))).size := by rw [U_size, U_size, mat_length]; rfl
      go_wp2_with (first
        | (refine wpList_load_row rfl 41 _ rfl (w.heap.size + 1 + 1) rfl 41 _ (0, 0) _ hr3 hu rfl hi ?_)
        | (refine wpList_store_row rfl 41 _ _ rfl (w.heap.size + 1) _ rfl rfl 41 _ hr2 hi ho (U_one _) ?_))
      refine bodyPost_ret (v := .agg (U (mat (m + m)))) ?_ rfl ⟨rfl, below_setRow hbel (by omega) _⟩
      exact results_cell_row rfl _ _ (w.heap.size + 1) 41 _ (0, 0) _ rfl (hr2.laid _) hu rfl hi

theorem pow32 {j : Nat} (h : j < 32) : (2 : Int) ^ j % 4294967296 = ((2 ^ j : Nat) : Int) := by
  have hp : 2 ^ j < 4294967296 := Nat.pow_lt_pow_right (a := 2) (n := 32) (by decide) h
  have e : ((2 ^ j % 4294967296 : Nat) : Int) = ((2 ^ j : Nat) : Int) := by rw [Nat.mod_eq_of_lt hp]
  rw [Int.natCast_emod, Int.natCast_pow] at e
  rw [Int.natCast_pow]
  exact e

theorem oneZero_any (w : World) :
    Calls Try.prog 20 #[] w fun e w' => e = .returned (.agg (U (mat 8))) ∧ Below w.heap.size w w' := by
  have HE := Lib.hid eight_any
  go_enter Try.func20, Try.ntmps20
  go_wp2
  go_loopw [3] (fun i wr => ∃ j : Nat, j ≤ 32 ∧ i = .int .i64 j ∧ Below w.heap.size w wr ∧ Row wr w.heap.size 41 none32 ∧ Row wr (w.heap.size + 1) 41 (upTo (mat 8) none32 j)) (fun i _ => 32 - (intOf i).toNat)
  case atStart =>
    refine ⟨0, by omega, rfl, ?_, ?_, ?_⟩
    · exact ((Below.refl _ _).alloc (Nat.le_refl _) _).alloc (by simp) _
    · exact (Row.new' w _ _ none32 rfl rfl).alloc _
    · exact Row.new' (w.alloc _) _ _ none32 (by simp) rfl
  case round =>
    obtain ⟨j, hj, rfl, hbel, hr2, hr3⟩ := hrel
    by_cases hj8 : j < 32
    · have hlen := upTo_length (l := mat 8) (zs := none32) (mat_length _) rfl hj
      have hp : 2 ^ j < 2 ^ 32 := Nat.pow_lt_pow_right (by decide) hj8
      have hl3 := hr3.lt
      have hc3 := hr3.cell (i := j) (by rw [hlen]; exact hj8)
      have hf3 := hr3.free j
      have HN := Lib.hid (upTo_next (mat 8) none32 j (by rw [mat_length]; exact hj8) hj8)
      rw [mat_at _ j hj8] at HN
      obtain ⟨y, hy⟩ : ∃ y, y = (upTo (mat 8) none32 j).getD j 0 := ⟨_, rfl⟩
      rw [← hy] at hc3
      have ep := pow32 hj8
      have H := fun w => HE.out (2 ^ j) w hp
      rw [← ep] at H
      have HE' := Lib.hid H
      have eb : byteStep (2 ^ j) = bitsN 8 (2 ^ j) := rfl
      rw [eb] at HE'
      have R := Lib.hid (And.intro hbel (And.intro hr2 hr3))
      clear hy HE hlen hr2 hr3 hbel H ep eb
      go_wp2_with (go_at_call 23; refine Calls.mono (HE'.out _) ?_; rintro e w' ⟨rfl, rfl⟩)
      obtain ⟨hbel, hr2, hr3⟩ := R.out
      have R2 : Below w.heap.size w (wr.setCell ⟨w.heap.size + 1, j, none⟩ (.int .u32 (bitsN 8 (2 ^ j) : Nat))) ∧ Row (wr.setCell ⟨w.heap.size + 1, j, none⟩ (.int .u32 (bitsN 8 (2 ^ j) : Nat))) w.heap.size 41 none32 ∧
          Row (wr.setCell ⟨w.heap.size + 1, j, none⟩ (.int .u32 (bitsN 8 (2 ^ j) : Nat))) (w.heap.size + 1) 41 (upTo (mat 8) none32 (j + 1)) :=
        ⟨hbel.setCell (by simp only []; omega) _, hr2.other _ _ (by simp only []; omega), by rw [← HN.out]; exact hr3.set j _⟩
      clear hbel hr2 hr3
      go_roundw
      case rel => exact ⟨j + 1, by omega, by go_num, R2⟩
      case measure => simp [intOf]; omega
    · have hj9 : j = 32 := by omega
      subst hj9
      have e3 : upTo (mat 8) none32 32 = mat 8 := rfl
      rw [e3] at hr3
      have hu := Try.underlying41
      have hi : (Try.prog.info? 41).map (·.size) = some (U (mat 8)).size := by rw [U_size, mat_length]; rfl
      have ho : (U none32).size = (U (mat 8)).size := by rw [U_size, U_size, mat_length]; rfl
      go_wp2_with (first
        | (refine wpList_load_row rfl 41 _ rfl (w.heap.size + 1) rfl 41 _ (0, 0) _ hr3 hu rfl hi ?_)
        | (refine wpList_store_row rfl 41 _ _ rfl w.heap.size _ rfl rfl 41 _ hr2 hi ho (U_one _) ?_))
      refine bodyPost_ret (v := .agg (U (mat 8))) ?_ rfl ⟨rfl, below_setRow hbel (by omega) _⟩
      exact results_cell_row rfl _ _ w.heap.size 41 _ (0, 0) _ rfl (hr2.laid _) hu rfl hi

/-- What each byte makes of a register of it alone. -/
def tab : List Nat := (List.range 256).map byteStep
def none256 : List Nat := List.replicate 256 0
theorem tab_at (i : Nat) (h : i < 256) : tab.getD i 0 = byteStep i := by simp [tab, List.getD_eq_getElem?_getD, h]
theorem power_add (j k : Nat) (h : k < 2 ^ j) : byteStep (2 ^ j + k) = byteStep (2 ^ j) ^^^ byteStep k := by
  have e := bit_next 8 (2 ^ j + k) j (by rw [Nat.add_div_left _ (Nat.two_pow_pos j), Nat.div_eq_of_lt h])
  rw [Nat.mod_eq_of_lt (by rw [Nat.pow_succ]; omega), Nat.add_mod_left, Nat.mod_eq_of_lt h, Nat.xor_comm] at e
  exact e
theorem upTo_at (l zs : List Nat) (j i : Nat) (hi : i < j) (hl : j ≤ l.length) : (upTo l zs j).getD i 0 = l.getD i 0 := by
  simp only [upTo, List.getD_eq_getElem?_getD]
  rw [List.getElem?_append_left (by rw [List.length_take]; omega), List.getElem?_take, if_pos hi]

end Go.Proofs.Ytkikigpdcjkneaa
