/-
  The layer mac: a key of full length; the digest of a full key and parts.
-/
import Derived.Test.YtocnbhefjhammaaDoorMacC1
import Derived.Test.YtocnbhefjhammaaDoorShaC2
namespace Go.Proofs.YtocnbhefjhammaaDoor
open Go.RowKit

theorem copied0 (m z : List Nat) : ((BA z).toList.take 0 ++ ((m.map fun x : Nat => Value.int .u8 (x : Int)) ++ (BA z).toList.drop (0 + m.length))).toArray = BA (m ++ z.drop m.length) := by
  simp [BA]
theorem copied1 (m z : List Nat) : ((m.map fun x : Nat => Value.int .u8 (x : Int)) ++ (BA z).toList.drop m.length).toArray = BA (m ++ z.drop m.length) := by
  simp [BA]
theorem full_drop (m : List Nat) : m ++ (List.replicate 64 0).drop m.length = fullN m := by
  rw [List.drop_replicate]; rfl

theorem keyN_short {key : List Nat} (h : key.length ≤ 64) : keyN key = key := if_neg (by omega)
def zero64 : List Nat := List.replicate 64 0
section
variable (w : World)
/-- A world with two new blocks of zeros. -/
def two0 (w : World) : World := (w.alloc (.cells (BA zero64) 36)).alloc (.cells (BA zero64) 36)
theorem two0_below : Below w.heap.size w (two0 w) := ((Below.refl _ _).alloc (Nat.le_refl _) _).alloc (by simp) _
theorem two0_first : (two0 w).heap[w.heap.size]? = some (.cells (BA zero64) 36 (0, 0)) := (Below.heap_alloc _ _ _ (by simp)).trans (heap_alloc_new _ _)
theorem two0_second : (two0 w).heap[w.heap.size + 1]? = some (.cells (BA zero64) 36 (0, 0)) := heap_alloc_new' _ _ _ (by simp)
end

set_option maxHeartbeats 800000 in
set_option maxRecDepth 100000 in
/-- 'fill', of a key that is not too long. -/
theorem fill_short (A : Option Addr) (c : Nat) (key : List Nat) (w : World) (hr : Ints w w.heap.size .u8 A (up key)) (hm : key.length ≤ 64) :
    Calls Tryd.prog 15 #[.slice A key.length c] w fun e w' => e = .returned (.agg (BA (fullN (keyN key)))) ∧ Below w.heap.size w w' := by
  have hz := (zero_of_info (P := Tryd.prog) (t := 36) (v := .agg (BA zero64)) (n := 64) (by kernel_rfl)).1
  have hu := Tryd.underlying36
  have hb0 := two0_below w
  have hr0 := two0_first w
  have hr1 := two0_second w
  unfold two0 at hb0 hr0 hr1
  have hfl := fullN_len (l := key) hm
  rw [keyN_short hm]
  have hi : (Tryd.prog.info? 36).map (·.size) = some (BA (fullN key)).size := by rw [BA_size, hfl]; kernel_rfl
  have ho : (BA zero64).size = (BA (fullN key)).size := by rw [BA_size, BA_size, hfl]; rfl
  have h1 := BA_one (fullN key)
  have HFD := Lib.hid (full_drop key)
  have HF0 : Hid (key = [] → BA zero64 = BA (fullN key)) := by intro h; rw [h]; rfl
  obtain ⟨F, hF⟩ : ∃ F, F = fullN key := ⟨_, rfl⟩
  rw [← hF] at hi ho h1 HFD HF0 ⊢
  obtain ⟨Z, hZ⟩ : ∃ Z, Z = zero64 := ⟨_, rfl⟩
  have HFZ : Hid (key ++ Z.drop key.length = F) := by unfold Hid; rw [hZ]; exact HFD.out
  have hZl : Z.length = 64 := by rw [hZ]; rfl
  rw [← hZ] at hz hb0 hr0 hr1 ho HF0
  have HR := Lib.hid hr
  clear hF hZ hfl HFD hr
  by_cases h0 : key = []
  · have hF0 := HF0.out h0
    have hk0 : key.length = 0 := by rw [h0]; rfl
    rw [hF0] at hz hb0 hr0 hr1
    rw [hk0]
    clear h0 HF0 HFZ HR hF0 ho
    go_enter Tryd.func15, Tryd.ntmps15
    go_wp2_with (first
      | (refine wpList_copy_nothing rfl _ _ 22 22 rfl 5 Tryd.underlying22 (by kernel_rfl) _ _ 64 64 0 c rfl rfl rfl ?_)
      | (refine wpList_load_row rfl 36 _ rfl (w.heap.size + 1) rfl 36 _ (0, 0) _ hr1 hu rfl hi ?_)
      | (refine wpList_store_row rfl 36 _ _ rfl w.heap.size _ rfl rfl 36 _ hr0 hi rfl h1 ?_))
    refine bodyPost_ret (v := .agg (BA F)) ?_ rfl ⟨rfl, below_setRow hb0 (Nat.le_refl _) _⟩
    exact results_cell_row rfl _ _ w.heap.size 36 _ (0, 0) _ rfl (setRow_heap _ _ _ _ _ _ hr0) hu rfl hi
  · have hk0 : 0 < key.length := List.length_pos_iff.2 h0
    obtain ⟨b, off, rfl, hb, hc⟩ := HR.out.at_ (by rw [up_len]; exact hk0)
    have HC : Hid (∀ i v, (key.map fun z : Nat => Value.int .u8 (z : Int))[i]? = some v → ((w.alloc (.cells (BA Z) 36)).alloc (.cells (BA Z) 36)).cell? ((⟨b, off, none⟩ : Addr).add i) = some v) := by
      intro i v hv
      have hi : i < key.length := by
        rcases Nat.lt_or_ge i key.length with h | h
        · exact h
        · rw [List.getElem?_eq_none (by rw [List.length_map]; exact h)] at hv; cases hv
      rw [Addr.add_mid, hb0.cell (p := ⟨b, off + i, none⟩) hb, hc i (by rw [up_len]; exact hi), up_getD, ← hv, List.getElem?_map, List.getElem?_eq_getElem hi]
      simp [List.getD_eq_getElem?_getD, List.getElem?_eq_getElem hi]
    clear hc HR h0
    go_enter Tryd.func15, Tryd.ntmps15
    go_wp2_with (with_reducible (refine wpList_copy_off rfl _ _ 22 22 rfl 5 Tryd.underlying22 (by kernel_rfl) (w.heap.size + 1) 0 64 64 ⟨b, off, none⟩ key.length c rfl rfl (BA Z) 36 hr1 (key.map fun z : Nat => Value.int .u8 (z : Int)) ?hn HC.out ?hfit ?h1 ?_))
    case hn => rw [List.length_map]; exact (Nat.min_eq_left hm).symm
    case hfit => rw [List.length_map, BA_size]; omega
    case h1 => intro v hv; obtain ⟨z, _, rfl⟩ := List.mem_map.1 hv; rfl
    intro W hW oW
    have hW1 : W.heap[w.heap.size + 1]? = some (.cells (BA F) 36 (0, 0)) := by
      have h := hW.out
      rw [copied1, HFZ.out] at h
      exact h
    have hW0 := (oW.block w.heap.size (by simp; omega) (by omega)).trans hr0
    have hbW := oW.below hb0 (by intro k hk; omega)
    clear hW oW HC hr0 hr1 hb0
    go_wp2_with (first
      | (refine wpList_load_row rfl 36 _ rfl (w.heap.size + 1) rfl 36 _ (0, 0) _ hW1 hu rfl hi ?_)
      | (refine wpList_store_row rfl 36 _ _ rfl w.heap.size _ rfl rfl 36 _ hW0 hi ho h1 ?_))
    refine bodyPost_ret (v := .agg (BA F)) ?_ rfl ⟨rfl, below_setRow hbW (Nat.le_refl _) _⟩
    exact results_cell_row rfl _ _ w.heap.size 36 _ (0, 0) _ rfl (setRow_heap _ _ _ _ _ _ hW0) hu rfl hi

theorem lt_of_row {w : World} {g : Nat} {o : Obj} (h : w.heap[g]? = some o) : g < w.heap.size := by
  by_cases hlt : g < w.heap.size
  · exact hlt
  · have hn : w.heap[g]? = none := by simp; omega
    rw [hn] at h
    cases h
theorem row_of_alloc {w : World} {g : Nat} {cs : Array Value} {t : TypeId} {fr : Nat × Nat} (h : w.heap[g]? = some (.cells cs t fr)) (o : Obj) : (w.alloc o).heap[g]? = some (.cells cs t fr) := by
  by_cases hlt : g < w.heap.size
  · exact (Below.heap_alloc w o g hlt).trans h
  · have hn : w.heap[g]? = none := by simp; omega
    rw [hn] at h
    cases h
theorem cells_src {W : World} {g : Nat} {t : TypeId} {fr : Nat × Nat} {l : List Nat} (h : W.heap[g]? = some (.cells (BA l) t fr)) : ∀ i v, (l.map fun z : Nat => Value.int .u8 (z : Int))[i]? = some v → W.cell? ((⟨g, 0, none⟩ : Addr).add i) = some v := by
  intro i v hv
  have hi : i < l.length := by
    rcases Nat.lt_or_ge i l.length with h | h
    · exact h
    · rw [List.getElem?_eq_none (by rw [List.length_map]; exact h)] at hv; cases hv
  rw [Addr.add_mid, Nat.zero_add, BA_cell h hi, ← hv, List.getElem?_map, List.getElem?_eq_getElem hi]
  simp [List.getD_eq_getElem?_getD, List.getElem?_eq_getElem hi]
theorem keyN_long {key : List Nat} (h : 64 < key.length) : keyN key = digestN key := if_pos h

set_option maxHeartbeats 800000 in
set_option maxRecDepth 100000 in
/-- 'fill', of a key that is too long. -/
theorem fill_long {w0 : World} (HD : DigestSpec w0) (A : Option Addr) (c : Nat) (key : List Nat) (w : World) (hw0 : Below w0.heap.size w0 w) (hr : Ints w w.heap.size .u8 A (up key)) (hA : A = none → c = 0) (hb : ∀ x ∈ key, x < 256) (hc : key.length ≤ c) (hm : key.length ≤ 140737488355000) (hlong : 64 < key.length) :
    Calls Tryd.prog 15 #[.slice A key.length c] w fun e w' => e = .returned (.agg (BA (fullN (keyN key)))) ∧ Below w.heap.size w w' := by
  have hz := (zero_of_info (P := Tryd.prog) (t := 36) (v := .agg (BA zero64)) (n := 64) (by kernel_rfl)).1
  have hz32 := (zero_of_info (P := Tryd.prog) (t := 24) (v := .agg zero32) (n := 32) (by kernel_rfl)).1
  have hu := Tryd.underlying36
  have hb0 : ∀ o, Below w.heap.size w (w.alloc o) := fun o => (Below.refl _ _).alloc (Nat.le_refl _) o
  have hr0 : (w.alloc (.cells (BA zero64) 36)).heap[w.heap.size]? = some (.cells (BA zero64) 36 (0, 0)) := heap_alloc_new _ _
  have H1 := Lib.hid (fun o : Obj => HD A c key (w.alloc o) (hw0.alloc hw0.size _) ((hr.alloc (Nat.le_refl _) o).more (by simp)) hA hb hc hm)
  have hfl := fullN_len (l := digestN key) (by rw [digestN_len]; decide)
  rw [keyN_long hlong]
  have hdl := digestN_len key
  have hi : (Tryd.prog.info? 36).map (·.size) = some (BA (fullN (digestN key))).size := by rw [BA_size, hfl]; kernel_rfl
  have ho : (BA zero64).size = (BA (fullN (digestN key))).size := by rw [BA_size, BA_size, hfl]; rfl
  have h1 := BA_one (fullN (digestN key))
  have hi32 : (Tryd.prog.info? 24).map (·.size) = some (BA (digestN key)).size := by rw [BA_size, hdl]; kernel_rfl
  have ho32 : zero32.size = (BA (digestN key)).size := by rw [BA_size, hdl]; rfl
  have h132 := BA_one (digestN key)
  have HFD := Lib.hid (full_drop (digestN key))
  have HBA := Lib.hid (fun (W : World) (g : Nat) (h : W.heap[g]? = some (.cells (BA (digestN key)) 24 (0, 0))) (i : Nat) (hi : i < 32) => BA_cell (i := i) h (by rw [hdl]; exact hi))
  have HL : Hid (64 < key.length) := hlong
  have hl1 : (64 : Int) < (key.length : Int) := by omega
  obtain ⟨F, hF⟩ : ∃ F, F = fullN (digestN key) := ⟨_, rfl⟩
  rw [← hF] at hi ho h1 HFD ⊢
  obtain ⟨D, hD⟩ : ∃ D, D = digestN key := ⟨_, rfl⟩
  rw [← hD] at HFD hi32 ho32 h132 HBA H1 hdl
  obtain ⟨Z, hZ⟩ : ∃ Z, Z = zero64 := ⟨_, rfl⟩
  have HFZ : Hid (D ++ Z.drop D.length = F) := by unfold Hid; rw [hZ]; exact HFD.out
  have hZl : Z.length = 64 := by rw [hZ]; rfl
  rw [← hZ] at hz hr0 ho
  obtain ⟨Y, hY⟩ : ∃ Y, Y = zero32 := ⟨_, rfl⟩
  rw [← hY] at hz32 ho32
  clear hF hZ hfl HFD hD hY hr hb hc hm hlong hw0 HD hA
  go_enter Tryd.func15, Tryd.ntmps15
  go_wp2_with (first
    | (go_at_call 14; with_reducible (refine Calls.mono (H1.out _) ?_); rintro e w1 ⟨rfl, hb1⟩; have hs1 := hb1.size; simp only [World.size_alloc] at hs1 hb1)
    | (refine wpList_store_fresh rfl 24 _ _ rfl w1.heap.size (BA D) rfl rfl 24 Y (heap_alloc_new _ _) hi32 ho32 h132 (((hb0 _).trans (hb1.mono (Nat.le_succ _))).alloc (by omega) _) (by omega) ?_; intro W hW hbW hkW hsW; simp only [World.size_alloc] at hsW; have hr2 : (W.alloc (.cells (BA Z) 36)).heap[w1.heap.size + 1]? = some (.cells (BA Z) 36 (0, 0)) := heap_alloc_new' _ _ _ hsW.symm; have HC := Lib.hid (cells_src (W := W.alloc (.cells (BA Z) 36)) (row_of_alloc hW _)))
    | (with_reducible (refine wpList_copy_off rfl _ _ 22 22 rfl 5 Tryd.underlying22 (by kernel_rfl) (w1.heap.size + 1) 0 64 64 ⟨w1.heap.size, 0, none⟩ 32 32 rfl rfl (BA Z) 36 hr2 (D.map fun z : Nat => Value.int .u8 (z : Int)) ?hn HC.out ?hfit ?h1 ?_)))
  case hn => rw [List.length_map, hdl]; rfl
  case hfit => rw [List.length_map, BA_size]; omega
  case h1 => intro v hv; obtain ⟨z, _, rfl⟩ := List.mem_map.1 hv; rfl
  intro W2 hW2 oW
  have hX1 : W2.heap[w1.heap.size + 1]? = some (.cells (BA F) 36 (0, 0)) := by
    have h := hW2.out
    rw [← hdl, copied1, HFZ.out] at h
    exact h
  have hX0 : W2.heap[w.heap.size]? = some (.cells (BA Z) 36 (0, 0)) := by
    refine (oW.block w.heap.size (by simp; omega) (by omega)).trans ((Below.heap_alloc _ _ _ (by omega)).trans ((hkW _ (by omega)).trans ((Below.heap_alloc _ _ _ (by omega)).trans ?_)))
    exact (hb1.block _ (by omega)).trans hr0
  have hbX := oW.below (hbW.alloc hbW.size _) (by intro k hk; omega)
  clear hW2 oW HC hr0 hr2 hW hkW hbW hb1 hs1 hsW
  go_wp2_with (first
    | (refine wpList_load_row rfl 36 _ rfl (w1.heap.size + 1) rfl 36 _ (0, 0) _ hX1 hu rfl hi ?_)
    | (refine wpList_store_row rfl 36 _ _ rfl w.heap.size _ rfl rfl 36 _ hX0 hi ho h1 ?_))
  refine bodyPost_ret (v := .agg (BA F)) ?_ rfl ⟨rfl, below_setRow hbX (Nat.le_refl _) _⟩
  exact results_cell_row rfl _ _ w.heap.size 36 _ (0, 0) _ rfl (setRow_heap _ _ _ _ _ _ hX0) hu rfl hi

end Go.Proofs.YtocnbhefjhammaaDoor
