/-
  The words that stand now, as bytes.
-/
import Derived.Test.YtocnbhefjhammaaDoorShaC5
import Derived.Test.YtocnbhefjhammaaDoorJoin
import Derived.Test.YtocnbhefjhammaaDoorShaDigest
namespace Go.Proofs.YtocnbhefjhammaaDoor
open Go.RowKit

theorem bytes4 (x : Nat) : bytesOf (x : Int) (4 : Int).toNat = up (be4s x) := by
  have e : bytesOf (x : Int) (4 : Int).toNat = [(x : Int) / 256 ^ 3 % 256, (x : Int) / 256 ^ 2 % 256, (x : Int) / 256 ^ 1 % 256, (x : Int) / 256 ^ 0 % 256] := rfl
  rw [e]
  simp [up, be4s]
theorem put4 (x : Nat) (h : x < 2 ^ 32) : fieldsE [(x : Int)] [4] = 0 ∧ fieldsB [(x : Int)] [4] = up (be4s x) := by
  have h1 : szs [4] = true := by decide
  have hf : fitB (x : Int) 4 = true := by
    unfold fitB
    have : (256 : Int) ^ (4 : Int).toNat = 4294967296 := by decide
    rw [this, decide_eq_true_eq]; omega
  have e : fieldsE [(x : Int)] [4] = 0 := by
    unfold fieldsE
    rw [if_pos ⟨h1, rfl⟩, if_pos (by simp [hf])]
  refine ⟨e, ?_⟩
  unfold fieldsB
  rw [if_pos e]
  simp only [List.zip_cons_cons, List.zip_nil_right, List.flatMap_cons, List.flatMap_nil, List.append_nil]
  exact bytes4 x
theorem outTo_len (s : List Nat) (j : Nat) (h : j ≤ s.length) : (outTo s j).length = 4 * j := by
  induction j with
  | zero => simp [outTo]
  | succ j ih =>
    have hj : j < s.length := by omega
    have e : outTo s (j + 1) = outTo s j ++ be4s s[j] := by
      unfold outTo
      rw [List.take_succ_eq_append_getElem hj, List.flatMap_append]; simp
    rw [e, List.length_append, ih (by omega)]
    show 4 * j + 4 = _
    omega
theorem outTo_next (s : List Nat) (j : Nat) (h : j < s.length) : outTo s (j + 1) = outTo s j ++ be4s (s.getD j 0) := by
  unfold outTo
  rw [List.take_succ_eq_append_getElem h, List.flatMap_append]
  simp [List.getD_eq_getElem?_getD, List.getElem?_eq_getElem h]
/-- A row of bytes behind a copy into it. -/
theorem copied (l m z : List Nat) (o n : Nat) (ho : o = l.length) (hn : n = m.length) : ((BA (l ++ z)).toList.take o ++ ((m.map fun x : Nat => Value.int .u8 (x : Int)) ++ (BA (l ++ z)).toList.drop (o + n))).toArray = BA (l ++ m ++ z.drop n) := by
  subst ho hn
  simp [BA, List.drop_append]

set_option maxHeartbeats 800000 in
set_option maxRecDepth 100000 in
/-- 'digest'. -/
theorem stateDigest_any (g : Nat) (l : List Nat) (w : World) (hL : Laid w) (hl : l.length = 8) (h : ∀ i, i < 8 → w.cell? ⟨g, i, none⟩ = some (.int .u32 (l.getD i 0 : Nat))) :
    Calls Tryd.prog 30 #[.pointer (some ⟨g, 0, none⟩)] w fun e w' => e = .returned (.agg (BA ((sumTo l 8).flatMap be4s))) ∧ Below w.heap.size w w' := by
  have hg : g < w.heap.size := World.block_lt_of_cell? w _ (h 0 (by decide))
  have HS := Lib.hid (fun (W : World) (hb : Below w.heap.size w W) => sums_any g l W (hL.to hb) hl fun i hi => (hb.cell hg).trans (h i hi))
  have hz := (zero_of_info (P := Tryd.prog) (t := 24) (v := .agg (BA (List.replicate 32 0))) (n := 32) (by kernel_rfl)).1
  have hu := Tryd.underlying24
  have hln := sumTo_len l 8
  have HLT := Lib.hid (fun j => getD_lt (m := 2 ^ 32) (by decide) (sumTo_lt l 8) j)
  have hsx := fun j (hj : j < 8) => U_at (sumTo l 8) j (by rw [hln]; exact hj)
  obtain ⟨s, hs⟩ : ∃ s, s = sumTo l 8 := ⟨_, rfl⟩
  rw [← hs] at HS HLT hsx hln ⊢
  obtain ⟨C, hC⟩ : ∃ C, C = U s := ⟨_, rfl⟩
  rw [← hC] at HS hsx
  have HSX := Lib.hid hsx
  obtain ⟨i0, hi0, hz0, hz1, hz2⟩ := info_parts Tryd.infoU32
  have HI := Lib.hid (fun (w : World) (j : Nat) (v : Value) (hj : j < 8) (hc : C[j]? = some v) => run_index_agg (P := Tryd.prog) (t := 59) Tryd.underlying59 (by kernel_rfl) hi0 hz1 w C j v hj hc)
  clear hsx hC hs hL hl h hg hz0 hz1 hz2 hi0
  go_enter Tryd.func30, Tryd.ntmps30
  go_wp2_with (go_at_call 35; with_reducible (refine Calls.mono (HS.out _ ?hb) ?_); (case hb => exact ((Below.refl _ _).alloc (Nat.le_refl _) _).alloc (by simp) _); rintro e w1 ⟨rfl, hb1⟩)
  have hb1s := hb1.size
  simp only [World.size_alloc] at hb1s
  go_loopw [10] (fun i wr => ∃ j : Nat, j ≤ 8 ∧ i = .int .i64 j ∧ Below w.heap.size w wr ∧ wr.heap[w.heap.size]? = some (.cells (BA (List.replicate 32 0)) 24 (0, 0)) ∧ wr.heap[w.heap.size + 1]? = some (.cells (BA (outTo s j ++ List.replicate (32 - 4 * j) 0)) 24 (0, 0)) ∧ w.heap.size + 1 < wr.heap.size) (fun i _ => 8 - (intOf i).toNat)
  case atStart =>
    refine ⟨0, by omega, rfl, ?_, ?_, ?_, by omega⟩
    · exact (((Below.refl _ _).alloc (Nat.le_refl _) _).alloc (by simp) _).trans (hb1.mono (by simp; omega))
    · refine (hb1.block _ (by simp; omega)).trans ?_
      exact (((Below.refl (w.heap.size + 1) (w.alloc _)).alloc (by simp) _).block w.heap.size (by simp)).trans (heap_alloc_new _ _)
    · refine (hb1.block _ (by simp)).trans ?_
      exact heap_alloc_new' _ _ _ (by simp)
  case round =>
    clear hb1 hb1s
    obtain ⟨j, hj, rfl, hbel, hr2, hr3, hsz⟩ := hrel
    by_cases hlt : j < 8
    · have hx := HI.out wr j _ hlt (HSX.out j hlt)
      have hx1 := HLT.out j
      have HN := Lib.hid (outTo_next s j (by rw [hln]; exact hlt))
      have HOL := Lib.hid (outTo_len s j (by omega))
      obtain ⟨x, hxe⟩ : ∃ x, x = s.getD j 0 := ⟨_, rfl⟩
      rw [← hxe] at hx hx1 HN
      have hp := put4 x hx1
      have HP : Hid (Calls Tryd.prog 20 #[.int .u64 (x : Int), .int .i64 4] wr fun e w' => ∃ A c, e = .returned (.tuple #[.slice A 4 c, .int .i64 0]) ∧ 4 ≤ c ∧ Ints w' w'.heap.size .u8 A (up (be4s x)) ∧ Below wr.heap.size wr w') := by
        have := put_any (x : Int) 4 wr (by omega)
        rw [hp.1, hp.2] at this
        exact this.mono fun e w' ⟨A, c, h1, h2, h3, h4⟩ => ⟨A, c, h1, h2, h3, h4⟩
      have n0 : (4 * (j : Int)).toNat = 4 * j := by omega
      have z0 : (0 : Int) ≤ 4 * (j : Int) := by omega
      have y0 : 4 * (j : Int) ≤ 32 := by omega
      have v1 : IntKind.i64.wrap (4 * (j : Int)) = 4 * (j : Int) := IntWalk.i64_in _ (by omega)
      have p0 : IntKind.u64.wrap (x : Int) = (x : Int) := IntWalk.u64_in _ (by omega)
      have hj8 : (j : Int) < 8 := by omega
      have R := Lib.hid (And.intro hbel (And.intro hr2 (And.intro hr3 hsz)))
      clear hp hxe hbel hr2 hr3 hsz
      have h4 : (be4s x).length = 4 := by simp [be4s]
      have hll : (outTo s j).length = 4 * j := HOL.out
      go_wp2_with (first
        | (go_at_call 20; with_reducible (refine Calls.mono HP.out ?_); rintro e w1 ⟨A, c, rfl, hc4, hi4, hb1⟩; obtain ⟨b2, o2, e2, hb2, hcell⟩ := hi4.at_ (by rw [up_len]; simp [be4s]); subst e2; have hr3' := (hb1.block _ R.out.2.2.2).trans R.out.2.2.1)
        | (with_reducible (refine wpList_copy_off (o := ⟨some 24, _, _, _, _, _⟩) rfl (.tmp 22) (.tmp 23) 22 22 rfl 5 Tryd.underlying22 (by kernel_rfl) (w.heap.size + 1) (4 * j) (32 - 4 * j) (32 - 4 * j) ⟨b2, o2, none⟩ 4 c rfl rfl (BA (outTo s j ++ List.replicate (32 - 4 * j) 0)) 24 hr3' ((be4s x).map fun z : Nat => Value.int .u8 (z : Int)) ?hn ?hsrc ?hfit ?h1 ?_)))
      case hn => rw [List.length_map, h4]; exact (Nat.min_eq_left (by omega)).symm
      case hsrc =>
        intro i v hv
        have hi : i < 4 := by
          rcases Nat.lt_or_ge i 4 with h | h
          · exact h
          · rw [List.getElem?_eq_none (by rw [List.length_map, h4]; exact h)] at hv; cases hv
        rw [Addr.add_mid, hcell i (by rw [up_len, h4]; exact hi), up_getD, ← hv, List.getElem?_map, List.getElem?_eq_getElem (by rw [h4]; exact hi)]
        simp [List.getD_eq_getElem?_getD, List.getElem?_eq_getElem (show i < (be4s x).length by rw [h4]; exact hi)]
      case hfit => rw [List.length_map, h4, BA_size, List.length_append, hll, List.length_replicate]; omega
      case h1 => intro v hv; obtain ⟨z, _, rfl⟩ := List.mem_map.1 hv; rfl
      intro W hW oW
      obtain ⟨hbel, hr2, hr3, hsz⟩ := R.out
      have hW3 : W.heap[w.heap.size + 1]? = some (.cells (BA (outTo s (j + 1) ++ List.replicate (32 - 4 * (j + 1)) 0)) 24 (0, 0)) := by
        have h := hW.out
        rw [copied _ _ _ _ 4 hll.symm h4.symm, List.drop_replicate, ← HN.out, show 32 - 4 * j - 4 = 32 - 4 * (j + 1) by omega] at h
        exact h
      have R2 : Below w.heap.size w W ∧ W.heap[w.heap.size]? = some (.cells (BA (List.replicate 32 0)) 24 (0, 0)) ∧ W.heap[w.heap.size + 1]? = some (.cells (BA (outTo s (j + 1) ++ List.replicate (32 - 4 * (j + 1)) 0)) 24 (0, 0)) ∧ w.heap.size + 1 < W.heap.size :=
        ⟨oW.below (chain hbel hb1) (by intro k hk; omega), (oW.block _ (by have := hb1.size; omega) (by omega)).trans ((hb1.block _ (by omega)).trans hr2), hW3, by have := hb1.size; have := oW.size; omega⟩
      clear hbel hr2 hr3 hsz hr3' hW oW hW3 hb1 hi4 hcell hb2 R
      go_wp2
      go_roundw
      case rel => exact ⟨j + 1, by omega, by go_num, R2⟩
      case measure => simp [intOf]; omega
    · have hj9 : j = 8 := by omega
      subst hj9
      have eo : outTo s 8 = s.flatMap be4s := by unfold outTo; rw [List.take_of_length_le (by omega)]
      rw [show 32 - 4 * 8 = 0 from rfl, List.replicate_zero, List.append_nil, eo] at hr3
      have hsl : (s.flatMap be4s).length = 32 := by rw [← eo, outTo_len s 8 (by omega)]
      have hi : (Tryd.prog.info? 24).map (·.size) = some (BA (s.flatMap be4s)).size := by rw [BA_size, hsl]; kernel_rfl
      have ho : (BA (List.replicate 32 0)).size = (BA (s.flatMap be4s)).size := by rw [BA_size, BA_size, hsl]; rfl
      go_wp2_with (first
        | (refine wpList_load_row rfl 24 _ rfl (w.heap.size + 1) rfl 24 _ (0, 0) _ hr3 hu rfl hi ?_)
        | (refine wpList_store_row rfl 24 _ _ rfl w.heap.size _ rfl rfl 24 _ hr2 hi ho (BA_one _) ?_))
      refine bodyPost_ret (v := .agg (BA (s.flatMap be4s))) ?_ rfl ⟨rfl, below_setRow hbel (Nat.le_refl _) _⟩
      exact results_cell_row rfl _ _ w.heap.size 24 _ (0, 0) _ rfl (setRow_heap _ _ _ _ _ _ hr2) hu rfl hi

end Go.Proofs.YtocnbhefjhammaaDoor
