/-
  One more block. 'join' of the layer pack: whatever the sizes and the numbers are, what it answers; nothing that was there is changed. 'Put' of the layer pack: whatever the size and the number are, what it answers; nothing that was there is changed.
-/
import Derived.Test.YtanpfodmmeagaaaDoorShaC3G
import Derived.Test.YtanpfodmmeagaaaDoorWordsG
namespace Go.Proofs.YtanpfodmmeagaaaDoor
open Go.RowKit

theorem store_cells {C C' : Array Value} {i : Nat} {v : Value} (h : C' = C.setIfInBounds i v) (hi : i < C.size) (j : Nat) : C'[j]? = if i = j then some v else C[j]? := by
  subst h
  rw [Array.getElem?_setIfInBounds]
  by_cases e : i = j
  · subst e; simp [hi]
  · simp [e]
/-- The first eight cells of a block are these numbers, the others are those of K. -/
structure Head (w : World) (g : Nat) (t : TypeId) (l : List Nat) (K : List Value) : Prop where
  len : l.length = 8
  row : w.heap[g]? = some (.cells ((l.map fun z : Nat => Value.int .u32 (z : Int)) ++ K).toArray t (0, 0))
section
variable {w w' : World} {g : Nat} {t : TypeId} {l : List Nat} {K : List Value}
theorem Head.cell (h : Head w g t l K) (i : Nat) (hi : i < 8) : w.cell? ⟨g, i, none⟩ = some (.int .u32 (l.getD i 0 : Nat)) := by
  rw [cell_of_row w g i _ t _ h.row, List.getElem?_toArray, List.getElem?_append_left (by rw [List.length_map, h.len]; exact hi), List.getElem?_map, List.getElem?_eq_getElem (by rw [h.len]; exact hi)]
  simp [List.getD_eq_getElem?_getD, List.getElem?_eq_getElem (show i < l.length by rw [h.len]; exact hi)]
theorem Head.free (h : Head w g t l K) (i : Nat) : w.frozen? ⟨g, i, none⟩ = false := frozen_of_row w g i _ t h.row
theorem Head.lt (h : Head w g t l K) : g < w.heap.size := World.block_lt_of_cell? w _ (h.cell 0 (by decide))
theorem Head.set (h : Head w g t l K) (i z : Nat) (hi : i < 8) : Head (w.setCell ⟨g, i, none⟩ (.int .u32 (z : Int))) g t (l.set i z) K := by
  refine ⟨by rw [List.length_set, h.len], ?_⟩
  rw [heap_setCell_same w g i _ t _ h.row]
  congr 2
  rw [List.setIfInBounds_toArray, List.set_append_left _ _ (by rw [List.length_map, h.len]; exact hi), List.map_set]
theorem Head.keep (h : Head w g t l K) (hb : w'.heap[g]? = w.heap[g]?) : Head w' g t l K := ⟨h.len, hb.trans h.row⟩
theorem Head.to (h : Head w g t l K) (hb : Below w.heap.size w w') : Head w' g t l K := h.keep (hb.block g h.lt)
end

/-- What is added behind a block. -/
def takeN (l b : List Nat) : Eight := roundsTo ⟨(sumTo l 8).getD 0 0, (sumTo l 8).getD 1 0, (sumTo l 8).getD 2 0, (sumTo l 8).getD 3 0, (sumTo l 8).getD 4 0, (sumTo l 8).getD 5 0, (sumTo l 8).getD 6 0, (sumTo l 8).getD 7 0⟩ shaK (wordsTo b 64) 64
def eightOf (l : List Nat) : Eight := ⟨l.getD 0 0, l.getD 1 0, l.getD 2 0, l.getD 3 0, l.getD 4 0, l.getD 5 0, l.getD 6 0, l.getD 7 0⟩
theorem eightOf_list {l : List Nat} (h : l.length = 8) : (eightOf l).list = l := by
  match l, h with
  | [_, _, _, _, _, _, _, _], _ => rfl
theorem eightOf_ok {l : List Nat} (h : ∀ x ∈ l, x < 2 ^ 32) : (eightOf l).ok :=
  ⟨getD_lt (by decide) h 0, getD_lt (by decide) h 1, getD_lt (by decide) h 2, getD_lt (by decide) h 3, getD_lt (by decide) h 4, getD_lt (by decide) h 5, getD_lt (by decide) h 6, getD_lt (by decide) h 7⟩
theorem sumTo_lt (l : List Nat) (j : Nat) : ∀ x ∈ sumTo l j, x < 2 ^ 32 := by
  intro x hx
  simp only [sumTo, List.mem_map, List.mem_range] at hx
  obtain ⟨i, hi, rfl⟩ := hx
  split
  · exact add32_lt _ _
  · exact getD_lt (by decide) (by decide) i
/-- The first j of what is added have a block's. -/
def addTo (l : List Nat) (s : Eight) (j : Nat) : List Nat := (List.range 8).map fun i => if i < j then add32 (l.getD i 0) (s.list.getD i 0) else l.getD i 0
theorem addTo_len (l : List Nat) (s : Eight) (j : Nat) : (addTo l s j).length = 8 := by simp [addTo]
theorem addTo_zero {l : List Nat} (s : Eight) (h : l.length = 8) : addTo l s 0 = l := by
  match l, h with
  | [_, _, _, _, _, _, _, _], _ => rfl
theorem addTo_at (l : List Nat) (s : Eight) (j i : Nat) (h : i < 8) : (addTo l s j).getD i 0 = if i < j then add32 (l.getD i 0) (s.list.getD i 0) else l.getD i 0 := by
  rw [List.getD_eq_getElem?_getD, List.getElem?_eq_getElem (by rw [addTo_len]; exact h), Option.getD_some]
  simp [addTo]
theorem addTo_next (l : List Nat) (s : Eight) (j : Nat) : (addTo l s j).set j (add32 (l.getD j 0) (s.list.getD j 0)) = addTo l s (j + 1) := by
  apply List.ext_getElem
  · simp [addTo]
  · intro i h1 h2
    have hi : i < 8 := by rw [addTo_len] at h2; exact h2
    rw [List.getElem_set]
    simp only [addTo, List.getElem_map, List.getElem_range]
    by_cases e : j = i
    · subst e; simp
    · rw [if_neg e]
      by_cases hlt : i < j
      · rw [if_pos hlt, if_pos (by omega)]
      · rw [if_neg hlt, if_neg (by omega)]

set_option maxHeartbeats 1600000 in
set_option maxRecDepth 100000 in
/-- 'take'. -/
theorem take_any (g : Nat) (t : TypeId) (l b : List Nat) (K : List Value) (w : World) (hL : Laid w) (hb : ∀ x ∈ b, x < 256) (hlb : b.length = 64) (h : Head w g t l K) :
    Calls Tryd.prog 76 #[.pointer (some ⟨g, 0, none⟩), .agg (BA b)] w fun e w' => e = .returned (.tuple #[]) ∧ Head w' g t (addTo l (roundsTo (eightOf (sumTo l 8)) shaK (wordsTo b 64) 64) 8) K ∧ Off (· = g) w w' := by
  have HS := Lib.hid (fun (W : World) (hb : Below w.heap.size w W) => sums_any g l W (hL.to hb) h.len fun i hi => (h.to hb).cell i hi)
  have HNU := Lib.hid (fun (W : World) => numbers_any b W hb hlb)
  have HBY := Lib.hid hb
  have hbb : (w.alloc (.cells (BA b) 64)).heap[w.heap.size]? = some (.cells (BA b) 64 (0, 0)) := heap_alloc_new _ _
  have HBB := Lib.hid hbb
  have hcs : (BA b).size = 64 := by rw [BA_size, hlb]
  have hi64 : (Tryd.prog.info? 64).map (·.size) = some (BA b).size := by rw [hcs]; kernel_rfl
  have hu64 := Tryd.underlying64
  have huw := Tryd.underlying120
  have hgl := h.lt
  clear hbb hb hlb
  obtain ⟨C, hC⟩ : ∃ C, C = BA b := ⟨_, rfl⟩
  rw [← hC] at HNU HBB hcs hi64 ⊢
  have HC := Lib.hid hC
  have hso : (Tryd.prog.info? 120).map (·.size) = some (U (sumTo l 8)).size := by rw [U_size, sumTo_len]; kernel_rfl
  have hz := (zero_of_info (P := Tryd.prog) (t := 120) (v := .agg (U none8)) (n := 8) (by kernel_rfl)).1
  have hsz : (U none8).size = (U (sumTo l 8)).size := by rw [U_size, U_size, sumTo_len]; rfl
  clear hC
  go_enter Tryd.func76, Tryd.ntmps76
  go_wp2_with (first
    | (go_at_call 82; with_reducible (refine Calls.mono (HS.out _ ?hb) ?_); (case hb => exact (Below.refl _ _).alloc (Nat.le_refl _) _); rintro e w1 ⟨rfl, hb1⟩)
    | (refine wpList_store_fresh rfl 120 _ _ rfl w1.heap.size (U (sumTo l 8)) rfl rfl 120 (U none8) (heap_alloc_new _ _) hso hsz (U_one _) ((((Below.refl w.heap.size w).alloc (Nat.le_refl _) _).trans (hb1.mono (by simp))).alloc (Nat.le_trans (by simp) hb1.size) _) (Nat.le_trans (by simp) hb1.size) ?_; intro W hW hbW hkW hsW; have hc := (hkW w.heap.size (by have := hb1.size; simp at this; omega)).trans (((Below.refl w1.heap.size w1).alloc (Nat.le_refl _) _).block w.heap.size (by have := hb1.size; simp at this; omega)) |>.trans ((hb1.block _ (by simp)).trans HBB.out))
    | (refine wpList_load_row rfl 64 _ rfl w.heap.size rfl 64 C (0, 0) _ hc hu64 rfl hi64 ?_)
    | (go_at_call 83; with_reducible (refine Calls.mono (HNU.out _) ?_); rintro e w2 ⟨rfl, hb2⟩))
  have hb3 : Below w.heap.size w w2 := hbW.trans (hb2.mono hbW.size)
  have hgc : w.heap.size < w1.heap.size := by have := hb1.size; simp at this; omega
  have rW : Row w2 w1.heap.size 120 (sumTo l 8) := Row.below (w := W) hW hb2 (by rw [hsW]; simp)
  obtain ⟨gc, hgce⟩ : ∃ gc, gc = w1.heap.size := ⟨_, rfl⟩
  simp only [← hgce] at hgc rW ⊢
  have hws : (U (wordsTo b 64)).size = 64 := by rw [U_size, wordsTo_len]
  have HWX := Lib.hid (fun j (hj : j < 64) => U_at (wordsTo b 64) j (by rw [wordsTo_len]; exact hj))
  have HWL := Lib.hid (fun j => getD_lt (m := 2 ^ 32) (by decide) (wordsTo_lt (b := b) HBY.out 64) j)
  obtain ⟨N, hN⟩ : ∃ N, N = U (wordsTo b 64) := ⟨_, rfl⟩
  rw [← hN] at HWX hws
  simp only [← hN]
  obtain ⟨i0, hi0, hz0, hz1, hz2⟩ := info_parts Tryd.infoU32
  have HI := Lib.hid (fun (w : World) (j : Nat) (v : Value) (hj : j < 64) (hc : N[j]? = some v) => run_index_agg (P := Tryd.prog) (t := 131) Tryd.underlying131 (by kernel_rfl) hi0 hz1 w N j v hj hc)
  have HLD := Lib.hid hL
  have HH := Lib.hid h
  have hs0 := eightOf_list (sumTo_len l 8)
  have hok0 := eightOf_ok (sumTo_lt l 8)
  obtain ⟨s0, hs0e⟩ : ∃ s0, s0 = eightOf (sumTo l 8) := ⟨_, rfl⟩
  rw [← hs0e] at hs0 hok0
  rw [← hs0] at rW
  have HS0 := Lib.hid hs0e
  clear hN hs0 hs0e hW hkW hsW hbW hb2 hc hb1 hgce HS HNU HBB hi64 hu64 hso hsz hz hz0 hz2 hL h
  go_loopw [13] (fun i wr => ∃ t : Nat, t ≤ 64 ∧ i = .int .i64 t ∧ Below w.heap.size w wr ∧ Row wr gc 120 (roundsTo s0 shaK (wordsTo b 64) t).list) (fun i _ => 64 - (intOf i).toNat)
  case atStart => exact ⟨0, by omega, rfl, hb3, rW⟩
  case round =>
    clear hb3 rW
    obtain ⟨t, ht, rfl, hbel, hrow⟩ := hrel
    by_cases hlt : t < 64
    · have hx := HI.out wr t _ hlt (HWX.out t hlt)
      have hk := (HLD.out.to hbel).roots t hlt
      have hok := roundsTo_ok hok0 shaK (wordsTo b 64) t
      have hnext : roundsTo s0 shaK (wordsTo b 64) (t + 1) = stepN (roundsTo s0 shaK (wordsTo b 64) t) (add32 ((wordsTo b 64).getD t 0) (shaK.getD t 0)) := by rw [stepN_round]; rfl
      obtain ⟨st, hst⟩ : ∃ st, st = roundsTo s0 shaK (wordsTo b 64) t := ⟨_, rfl⟩
      obtain ⟨kt, hkt⟩ : ∃ n, n = shaK.getD t 0 := ⟨_, rfl⟩
      obtain ⟨wt, hwt⟩ : ∃ n, n = (wordsTo b 64).getD t 0 := ⟨_, rfl⟩
      rw [← hst] at hrow hok hnext
      rw [← hkt] at hk hnext
      rw [← hwt] at hx hnext
      have e1 : ((wt : Int) + (kt : Int)) % 4294967296 = ((add32 wt kt : Nat) : Int) := by unfold add32; omega
      have HST := Lib.hid (step_any gc st (add32 wt kt) wr hok hrow)
      rw [← e1] at HST
      have HNX := Lib.hid hnext
      have HB := Lib.hid hbel
      have ht64 : (t : Int) < 64 := by omega
      clear hst hkt hwt e1 hnext hbel hrow hok
      go_wp2_with (go_at_call 84; with_reducible (refine Calls.mono HST.out ?_); rintro e wq ⟨rfl, hrq, hoq⟩)
      have R2 : Below w.heap.size w wq ∧ Row wq gc 120 (roundsTo s0 shaK (wordsTo b 64) (t + 1)).list :=
        ⟨hoq.below HB.out (by intro k hk; omega), by rw [HNX.out]; exact hrq⟩
      clear hrq hoq hx hk
      go_roundw
      case rel => exact ⟨t + 1, by omega, by go_num, R2⟩
      case measure => simp [intOf]; omega
    · have ht64 : t = 64 := by omega
      subst ht64
      have hok := roundsTo_ok hok0 shaK (wordsTo b 64) 64
      have HRR : Hid (roundsTo s0 shaK (wordsTo b 64) 64 = roundsTo (eightOf (sumTo l 8)) shaK (wordsTo b 64) 64) := by unfold Hid; rw [HS0.out]
      obtain ⟨st, hst⟩ : ∃ st, st = roundsTo s0 shaK (wordsTo b 64) 64 := ⟨_, rfl⟩
      rw [← hst] at hrow hok HRR
      have hi8 : (Tryd.prog.info? 120).map (·.size) = some (U st.list).size := by rw [U_size]; kernel_rfl
      have hgl2 : g < w.heap.size := HH.out.lt
      have hh2 : Head wr g t l K := HH.out.to hbel
      have HOF : Hid (Off (· = g) w wr) := Off.of_below hbel
      clear hst hbel HI HWX hws
      go_wp2_with (refine wpList_load_row rfl 120 _ rfl gc rfl 120 _ (0, 0) _ hrow huw rfl hi8 ?_)
      have hcx := fun j (hj : j < 8) => U_at st.list j (by exact hj)
      have hcs2 : (U st.list).size = 8 := rfl
      obtain ⟨D, hD⟩ : ∃ D, D = U st.list := ⟨_, rfl⟩
      rw [← hD] at hcx hcs2
      simp only [← hD]
      have HX := Lib.hid hcx
      have HI := Lib.hid (fun (w : World) (j : Nat) (v : Value) (hj : j < 8) (hc : D[j]? = some v) => run_index_agg (P := Tryd.prog) (t := 120) huw (by kernel_rfl) hi0 hz1 w D j v hj hc)
      clear hD hcx hi8 hrow
      go_loopw [25] (fun i wr => ∃ j : Nat, j ≤ 8 ∧ i = .int .i64 j ∧ Head wr g t (addTo l st j) K ∧ Off (· = g) w wr) (fun i _ => 8 - (intOf i).toNat)
      case atStart => exact ⟨0, by omega, rfl, by rw [addTo_zero st HH.out.len]; exact hh2, HOF.out⟩
      case round =>
        clear hh2 HOF
        obtain ⟨j, hj, rfl, hhd, hoff⟩ := hrel
        by_cases hlt : j < 8
        · have hx := HI.out wr j _ hlt (HX.out j hlt)
          have hc3 : wr.cell? ⟨g, j, none⟩ = some (.int .u32 (l.getD j 0 : Nat)) := by
            rw [hhd.cell j hlt, addTo_at l st j j hlt, if_neg (Nat.lt_irrefl _)]
          have hf3 := hhd.free j
          have HN := Lib.hid (addTo_next l st j)
          have HSET := Lib.hid (fun z => hhd.set j z hlt)
          obtain ⟨y, hy⟩ : ∃ y, y = l.getD j 0 := ⟨_, rfl⟩
          obtain ⟨x, hxe⟩ : ∃ x, x = st.list.getD j 0 := ⟨_, rfl⟩
          rw [← hy] at hc3 HN
          rw [← hxe] at hx HN
          have e1 : ((y : Int) + (x : Int)) % 4294967296 = ((add32 y x : Nat) : Int) := by unfold add32; omega
          have HE := Lib.hid e1
          have HO := Lib.hid hoff
          have hj8 : (j : Int) < 8 := by omega
          have hc4 : wr.drew.cell? ⟨g, j, none⟩ = some (.int .u32 (y : Int)) := hc3
          have hf4 : wr.drew.frozen? ⟨g, j, none⟩ = false := hf3
          clear hy hxe hhd hoff e1
          go_wp2
          go_still_tail 11, (by kernel_rfl)
          change wpList _ _ _ _ _ wr.drew
          have R2 : Head (wr.setCell ⟨g, j, none⟩ (.int .u32 (((y : Int) + (x : Int)) % 4294967296))).drew g t (addTo l st (j + 1)) K ∧ Off (· = g) w (wr.setCell ⟨g, j, none⟩ (.int .u32 (((y : Int) + (x : Int)) % 4294967296))).drew := by
            rw [HE.out, ← HN.out]
            exact ⟨(HSET.out (add32 y x)).keep rfl, (HO.out.set j _).drew⟩
          clear hx hc3 hf3
          go_wp2
          go_roundw
          case rel => exact ⟨j + 1, by omega, by go_num, R2⟩
          case measure => simp [intOf]; omega
        · have hj9 : j = 8 := by omega
          subst hj9
          have R : Head wr g t (addTo l (roundsTo (eightOf (sumTo l 8)) shaK (wordsTo b 64) 64) 8) K := by rw [← HRR.out]; exact hhd
          go_wp2
          refine bodyPost_end (results_none rfl _ _ _) rfl ⟨rfl, R, hoff⟩

end Go.Proofs.YtanpfodmmeagaaaDoor

namespace Go.Proofs.YtanpfodmmeagaaaDoor
open Go.RowKit

theorem Made.nil {w w' : World} {E : Int} (hb : Below w.heap.size w w') : Made w E [] (.returned (.tuple #[.slice none 0 0, .int .i64 E])) w' :=
  ⟨none, 0, rfl, Nat.le_refl _, Ints.nil _ _ _ _, hb⟩
/-- The sizes, or how many there are, are refused. -/
theorem join_arg (A1 A2 : Option Addr) (c1 c2 B : Nat) (sizes list : List Int) (w : World) (hs : Ints w B .i64 A1 sizes) (h : szs sizes = false ∨ list.length ≠ sizes.length) :
    Calls Tryd.prog 44 #[.slice A1 sizes.length c1, .slice A2 list.length c2] w (Made w 1 []) := by
  by_cases hz : szs sizes = false
  · go_enter Tryd.func44, Tryd.ntmps44
    go_wp2_with (go_at_call 67; refine (extent_no A1 c1 B sizes _ hs hz).mono ?_; rintro e w' ⟨rfl, rfl⟩)
    go_ret2
    exact Made.nil (Below.refl _ _)
  · have hz' : szs sizes = true := by simpa using hz
    have hl : list.length ≠ sizes.length := h.resolve_left hz
    have hl1 : ((list.length : Int) == (sizes.length : Int)) = false := by simp; omega
    have hl2 : ((list.length : Int) != (sizes.length : Int)) = true := by simp; omega
    clear h hz hl
    have HZ := Lib.hid hz'
    clear hz'
    go_enter Tryd.func44, Tryd.ntmps44
    go_wp2_with (go_at_call 67; refine (extent_yes A1 c1 B sizes _ hs HZ.out).mono ?_; rintro e w' ⟨rfl, rfl⟩)
    go_ret2
    exact Made.nil (Below.refl _ _)

/-- The same, and the bytes lie in a row of the call's own. -/
def MadeOwn (w : World) (E : Int) (l : List Int) (e : Ending) (w' : World) : Prop :=
  ∃ A c, e = .returned (.tuple #[.slice A l.length c, .int .i64 E]) ∧ l.length ≤ c ∧ Ints w' w'.heap.size .u8 A l ∧ Below w.heap.size w w' ∧ (E = 0 → w'.ownsRow w.heap.size 5 1 (.slice A l.length c) l.length (l.map (Value.int .u8)))
theorem MadeOwn.made {w w' : World} {E : Int} {l : List Int} {e : Ending} (h : MadeOwn w E l e w') : Made w E l e w' := by
  obtain ⟨A, c, h1, h2, h3, h4, _⟩ := h
  exact ⟨A, c, h1, h2, h3, h4⟩
set_option maxHeartbeats 800000 in
/-- The sizes are sound, as many as the numbers. -/
theorem join_own (A1 A2 : Option Addr) (c1 c2 : Nat) (sizes list : List Int) (w : World) (hs : Ints w w.heap.size .i64 A1 sizes) (hn : Ints w w.heap.size .u64 A2 list)
    (hb : ∀ z ∈ list, 0 ≤ z ∧ z ≤ 18446744073709551615) (hz : szs sizes = true) (hl : list.length = sizes.length) :
    Calls Tryd.prog 44 #[.slice A1 sizes.length c1, .slice A2 list.length c2] w (MadeOwn w (fieldsE list sizes) (fieldsB list sizes)) := by
  obtain ⟨i0, hi, hz0, hz1, hz2⟩ := info_parts Tryd.infoU8
  have hz3 := hz
  simp only [szs, Bool.and_eq_true, decide_eq_true_eq] at hz3
  obtain ⟨hz4, hz5⟩ := hz3
  have htot := total_bd sizes hz5
  obtain ⟨T, hT⟩ : ∃ T : Nat, (T : Int) = total sizes := ⟨(total sizes).toNat, by omega⟩
  have hT1 : T ≤ 32768 := by omega
  have HT := Lib.hid hT
  have HZ := Lib.hid hz
  have HZ5 := Lib.hid hz5
  have HL := Lib.hid hl
  have HB := Lib.hid hb
  have hext : ∀ W : World, Ints W w.heap.size .i64 A1 sizes → Calls Tryd.prog 67 #[.slice A1 sizes.length c1] W fun e w' => e = .returned (.tuple #[.int .i64 T, .int .i64 0]) ∧ W = w' := fun W hW => by
    have := extent_yes A1 c1 w.heap.size sizes W hW hz
    rw [← hT] at this
    exact this
  have hl1 : ((list.length : Int) == (sizes.length : Int)) = true := by simp; omega
  have hl2 : ((list.length : Int) != (sizes.length : Int)) = false := by simp; omega
  have hlb : list.length ≤ 4096 := by omega
  clear hT hz hz5 hl hb htot
  have HX := Lib.hid hext
  clear hext
  go_enter Tryd.func44, Tryd.ntmps44
  go_wp2_with (first
    | (go_at_call 67; refine (HX.out _ hs).mono ?_; rintro e w' ⟨rfl, rfl⟩)
    | (at_make; refine wpList_make_own _ rfl _ _ 24 rfl w.heap.size 5 i0 (.int .u8 0) 1 Tryd.underlying24 hi hz0 hz1 .i64 .i64 (T : Int) T rfl rfl rfl (by rw [hz2]; omega) (by unfold maxLen; omega) (Nat.le_refl _) ?_; intro w1 hown1 hg1))
  have hbel1 : Below w.heap.size w w1 := (Below.refl _ _).grown hg1 (Nat.le_refl _) (fun _ h => by cases h)
  clear hg1
  go_loopw [8, 28] (fun v i wr => ∃ k : Nat, k ≤ list.length ∧ i = .int .i64 k ∧ wr.ownsRow w.heap.size 5 1 v (fieldsTo list sizes k).length ((fieldsTo list sizes k).map (Value.int .u8)) ∧
      Below w.heap.size w wr ∧ Hid (((list.zip sizes).take k).all (fun p => fitB p.1 p.2) = true)) (fun _ i _ => list.length - (intOf i).toNat)
  case atStart => exact ⟨0, Nat.zero_le _, rfl, by simpa [fieldsTo_zero] using hown1, hbel1, by simp [Hid]⟩
  case round =>
    obtain ⟨k, hk, rfl, hown, hbel, hall⟩ := hrel
    clear hown1 hbel1
    by_cases hlt : k < list.length
    · have hlt2 : k < sizes.length := by have := HL.out; omega
      obtain ⟨b1, o1, rfl, _, hc1⟩ := hs.below hbel k hlt2
      obtain ⟨b2, o2, rfl, _, hc2⟩ := hn.below hbel k hlt
      have hm : szOk (sizes.getD k 0) = true := List.all_eq_true.1 HZ5.out _ (getD_mem hlt2)
      have hm2 : 1 ≤ sizes.getD k 0 ∧ sizes.getD k 0 ≤ 8 := by simpa only [szOk, decide_eq_true_eq] using hm
      have hx := HB.out _ (getD_mem hlt)
      have hfl := fieldsTo_len list sizes HZ5.out k
      have HF := Lib.hid (fieldsTo_succ list sizes k hlt hlt2)
      have HA := Lib.hid (zip_take_snoc list sizes k hlt hlt2)
      have HR := Lib.hid (fieldsE_range HZ.out HL.out k hlt)
      obtain ⟨x, hx'⟩ : ∃ x, x = list.getD k 0 := ⟨_, rfl⟩
      obtain ⟨s, hs'⟩ : ∃ s : Nat, (s : Int) = sizes.getD k 0 := ⟨(sizes.getD k 0).toNat, by omega⟩
      rw [← hx'] at hc2 hx HF HA HR
      rw [← hs'] at hc1 hm2 HF HA HR
      clear hx' hs' hm
      obtain ⟨ys, hys⟩ : ∃ ys, ys = fieldsTo list sizes k := ⟨_, rfl⟩
      rw [← hys] at hown hfl HF
      clear hys
      by_cases hf : fitB x s = true
      · go_wp2_with (first
          | (go_at_call 68; refine (fits_any x s _ hx hm2).mono ?_; rintro e w' ⟨rfl, rfl⟩)
          | (go_at_call 69; refine (add_any w.heap.size _ ys x s _ hown hbel.size (by omega) (by omega)).mono ?_; rintro e w2 ⟨v2, rfl, hown2, hbel2⟩))
        go_roundw
        case rel =>
          refine ⟨k + 1, by omega, by go_num, ?_, hbel.trans hbel2, ?_⟩
          · rw [HF.out]; exact hown2
          · unfold Hid; rw [HA.out, List.all_append, hall.out, List.all_cons, hf]; rfl
        case measure => simp [intOf]; omega
      · have hf' : fitB x s = false := by simpa using hf
        clear hf
        go_wp2_with (go_at_call 68; refine (fits_any x s _ hx hm2).mono ?_; rintro e w' ⟨rfl, rfl⟩)
        go_ret2
        have R := HR.out hf'
        rw [R.1, R.2]
        exact ⟨none, 0, rfl, Nat.le_refl _, Ints.nil _ _ _ _, hbel, fun h => by cases h⟩
    · have : k = list.length := by omega
      subst this
      go_wp2
      go_ret2
      have R := fieldsE_ok HZ.out HL.out hall.out
      obtain ⟨A, c, hv⟩ := own_slice hown
      subst hv
      rw [R.1, R.2]
      exact ⟨A, c, rfl, own_le hown, Ints.of_own hown, hbel, fun _ => hown⟩

theorem join_go (A1 A2 : Option Addr) (c1 c2 : Nat) (sizes list : List Int) (w : World) (hs : Ints w w.heap.size .i64 A1 sizes) (hn : Ints w w.heap.size .u64 A2 list)
    (hb : ∀ z ∈ list, 0 ≤ z ∧ z ≤ 18446744073709551615) (hz : szs sizes = true) (hl : list.length = sizes.length) :
    Calls Tryd.prog 44 #[.slice A1 sizes.length c1, .slice A2 list.length c2] w (Made w (fieldsE list sizes) (fieldsB list sizes)) :=
  (join_own A1 A2 c1 c2 sizes list w hs hn hb hz hl).mono fun _ _ h => h.made

/-- 'join', whatever it is given. -/
theorem join_any (A1 A2 : Option Addr) (c1 c2 : Nat) (sizes list : List Int) (w : World) (hs : Ints w w.heap.size .i64 A1 sizes) (hn : Ints w w.heap.size .u64 A2 list)
    (hb : ∀ z ∈ list, 0 ≤ z ∧ z ≤ 18446744073709551615) :
    Calls Tryd.prog 44 #[.slice A1 sizes.length c1, .slice A2 list.length c2] w (Made w (fieldsE list sizes) (fieldsB list sizes)) := by
  by_cases h : szs sizes = false ∨ list.length ≠ sizes.length
  · have R := fieldsE_arg h
    rw [R.1, R.2]
    exact join_arg A1 A2 c1 c2 _ sizes list w hs h
  · have h1 : szs sizes = true := by
      cases e : szs sizes
      · exact absurd (Or.inl e) h
      · rfl
    have h2 : list.length = sizes.length := by
      rcases Nat.decEq list.length sizes.length with e | e
      · exact absurd (Or.inr e) h
      · exact e
    exact join_go A1 A2 c1 c2 sizes list w hs hn hb h1 h2

theorem Made.below {w0 w w' : World} {E : Int} {l : List Int} {e : Ending} (h : Made w E l e w') (hb : Below w0.heap.size w0 w) : Made w0 E l e w' := by
  obtain ⟨A, c, he, hc, hi, hw⟩ := h
  exact ⟨A, c, he, hc, hi, hb.trans (hw.mono hb.size)⟩

end Go.Proofs.YtanpfodmmeagaaaDoor

namespace Go.Proofs.YtanpfodmmeagaaaDoor
open Go.RowKit

/-- 'Put'. -/
theorem put_any (n s : Int) (w : World) (hn : 0 ≤ n ∧ n ≤ 18446744073709551615) :
    Calls Tryd.prog 30 #[.int .u64 n, .int .i64 s] w (Made w (fieldsE [n] [s]) (fieldsB [n] [s])) := by
  have HJ : ∀ t1 t2 : Nat, Hid (Calls Tryd.prog 44 #[.slice (some ⟨w.heap.size, 0, none⟩) 1 1, .slice (some ⟨w.heap.size + 1, 0, none⟩) 1 1] ((w.alloc (.cells #[.int .i64 s] t1)).alloc (.cells #[.int .u64 n] t2))
      (Made w (fieldsE [n] [s]) (fieldsB [n] [s]))) := fun t1 t2 => by
    have hb : Below w.heap.size w ((w.alloc (.cells #[.int .i64 s] t1)).alloc (.cells #[.int .u64 n] t2)) := ((Below.refl _ _).alloc (Nat.le_refl _) _).alloc (by simp) _
    refine Calls.mono (join_any (some ⟨w.heap.size, 0, none⟩) (some ⟨w.heap.size + 1, 0, none⟩) 1 1 [s] [n] _ ?_ ?_ ?_) fun e w' h => h.below hb
    · exact ((Ints.new w t1 .i64 [s] #[.int .i64 s] rfl).alloc (by simp) _).more (by simp)
    · have := Ints.new (w.alloc (.cells #[.int .i64 s] t1)) t2 .u64 [n] #[.int .u64 n] rfl
      simp only [World.size_alloc] at this ⊢
      exact this
    · intro z hz
      simp only [List.mem_singleton] at hz
      subst hz; exact hn
  go_enter Tryd.func30, Tryd.ntmps30
  go_wp2_with (go_at_call 44; refine Calls.mono (HJ _ _).out ?_; rintro e w1 ⟨A, c, rfl, hcap, hi, hbel⟩)
  go_ret2
  exact ⟨A, c, rfl, hcap, hi, hbel⟩

end Go.Proofs.YtanpfodmmeagaaaDoor
