/-
  The document's own Encode (stowageref15). Written by wip/gen/line_ref2.py.
-/
import Derived.Test.YtbfchclfonicmaaLineRef
import Derived.Test.YtbfchclfonicmaaArrs
import Derived.Deep.MidRow
import Derived.Lib.AppendStr
namespace Go.Proofs.Ytbfchclfonicmaa
open Go.RowKit

/-- The cells of a line, and of its record. -/
theorem ln_cells {W W' : World} {q : Nat} {l : Ln} {t : TypeId} (h : W.heap[q]? = some (.cells (lnV l) t (0, 0))) (hb : Below W.heap.size W W') :
    W'.cell? ⟨q, 0, none⟩ = some (.int .i64 l.g) ∧ W'.cell? ⟨q, 1, none⟩ = some (.int .i64 l.s) ∧ W'.cell? ⟨q, 2, none⟩ = some (.bool l.last) ∧ W'.rangeAt q 3 (rcV l.r).toList := by
  have h := (hb.block q (Array.getElem?_eq_some_iff.1 h).1).trans h
  refine ⟨?_, ?_, ?_, ?_⟩
  · rw [cell_of_row _ _ _ _ _ _ h]; rfl
  · rw [cell_of_row _ _ _ _ _ _ h]; rfl
  · rw [cell_of_row _ _ _ _ _ _ h]; rfl
  · intro j v hj
    rw [cell_of_row _ _ _ _ _ _ h]
    match j, hj with
    | 0, hj => exact hj
    | 1, hj => exact hj
    | 2, hj => exact hj
    | 3, hj => exact hj
    | 4, hj => exact hj
    | 5, hj => exact hj
    | j + 6, hj => simp [rcV] at hj
theorem rc_cells {W W' : World} {q : Nat} {r : Rc} {t : TypeId} (h : W.heap[q]? = some (.cells (rcV r) t (0, 0))) (hb : Below W.heap.size W W') :
    W'.cell? ⟨q, 0, none⟩ = some (.int .i64 r.k) ∧ W'.cell? ⟨q, 1, none⟩ = some (.int .i64 r.a) ∧ W'.cell? ⟨q, 2, none⟩ = some (.int .i64 r.b) ∧ W'.cell? ⟨q, 3, none⟩ = some (.int .i64 r.c) ∧ W'.cell? ⟨q, 4, none⟩ = some (.int .i64 r.d) ∧ W'.cell? ⟨q, 5, none⟩ = some (.string r.key) := by
  have h := (hb.block q (Array.getElem?_eq_some_iff.1 h).1).trans h
  refine ⟨?_, ?_, ?_, ?_, ?_, ?_⟩ <;> (rw [cell_of_row _ _ _ _ _ _ h]; rfl)
theorem Try.infoRec : (Try.prog.info? 23).map (·.size) = some 6 := by kernel_rfl
theorem rcV_one (r : Rc) : (rcV r).all (·.oneCell') = true := by simp [rcV, Value.oneCell']

theorem strCells_keyI (s : ByteArray) : Lib.strCells s = (keyI s).map (Value.int .u8) := by
  unfold Lib.strCells keyI; rw [List.map_map]; rfl
/-- Which number is the first one out of range. -/
theorem range_first {l : Ln} (h : rangeL l = false) : (inN l.g 2147483647 = false) ∨ (inN l.g 2147483647 = true ∧ inN l.s 2147483647 = false) ∨ (inN l.g 2147483647 = true ∧ inN l.s 2147483647 = true ∧ inN l.r.k 9 = false) ∨ (inN l.g 2147483647 = true ∧ inN l.s 2147483647 = true ∧ inN l.r.k 9 = true ∧ inN l.r.a 1099511627776 = false) ∨ (inN l.g 2147483647 = true ∧ inN l.s 2147483647 = true ∧ inN l.r.k 9 = true ∧ inN l.r.a 1099511627776 = true ∧ inN l.r.b 1099511627776 = false) ∨ (inN l.g 2147483647 = true ∧ inN l.s 2147483647 = true ∧ inN l.r.k 9 = true ∧ inN l.r.a 1099511627776 = true ∧ inN l.r.b 1099511627776 = true ∧ inN l.r.c 1099511627776 = false) ∨ (inN l.g 2147483647 = true ∧ inN l.s 2147483647 = true ∧ inN l.r.k 9 = true ∧ inN l.r.a 1099511627776 = true ∧ inN l.r.b 1099511627776 = true ∧ inN l.r.c 1099511627776 = true ∧ inN l.r.d 1099511627776 = false) := by
  unfold rangeL at h
  cases h0 : inN l.g 2147483647
  · exact .inl rfl
  cases h1 : inN l.s 2147483647
  · exact .inr (.inl ⟨rfl, rfl⟩)
  cases h2 : inN l.r.k 9
  · exact .inr (.inr (.inl ⟨rfl, rfl, rfl⟩))
  cases h3 : inN l.r.a 1099511627776
  · exact .inr (.inr (.inr (.inl ⟨rfl, rfl, rfl, rfl⟩)))
  cases h4 : inN l.r.b 1099511627776
  · exact .inr (.inr (.inr (.inr (.inl ⟨rfl, rfl, rfl, rfl, rfl⟩))))
  cases h5 : inN l.r.c 1099511627776
  · exact .inr (.inr (.inr (.inr (.inr (.inl ⟨rfl, rfl, rfl, rfl, rfl, rfl⟩)))))
  cases h6 : inN l.r.d 1099511627776
  · exact .inr (.inr (.inr (.inr (.inr (.inr (⟨rfl, rfl, rfl, rfl, rfl, rfl, rfl⟩))))))
  rw [h0, h1, h2, h3, h4, h5, h6] at h
  cases h

set_option maxHeartbeats 800000 in
set_option maxRecDepth 20000 in
theorem refEnc_no0 (l : Ln) (w : World) (d0 : inN l.g 2147483647 = false) :
    Calls Try.prog 11 #[.agg (lnV l)] w fun e w' => e = .returned (.tuple #[.slice none 0 0, .int .i64 7]) ∧ Below w.heap.size w w' := by
  have H0 := Lib.hid (fun W => refIn_any l.g 2147483647 W)
  rw [d0] at H0
  have hinf : (Try.prog.info? 23).map (·.size) = some (rcV l.r).size := Try.infoRec
  have hinf2 : (Try.prog.info? 23).map (·.size) = some (rcV l.r).toList.length := Try.infoRec
  have hone := rcV_one l.r
  have HRA : Hid ((w.alloc (.cells (lnV l) 25)).rangeAt w.heap.size 3 (rcV l.r).toList) := (ln_cells (heap_alloc_new w (.cells (lnV l) 25)) (Below.refl _ _)).2.2.2
  have HLN : Hid (∀ W W' : World, W.heap[w.heap.size]? = some (.cells (lnV l) 25 (0, 0)) → Below W.heap.size W W' → W'.cell? ⟨w.heap.size, 0, none⟩ = some (.int .i64 l.g) ∧ W'.cell? ⟨w.heap.size, 1, none⟩ = some (.int .i64 l.s) ∧ W'.cell? ⟨w.heap.size, 2, none⟩ = some (.bool l.last)) :=
    fun W W' h hb => ⟨(ln_cells h hb).1, (ln_cells h hb).2.1, (ln_cells h hb).2.2.1⟩
  have HRC : Hid (∀ W W' : World, W.heap[w.heap.size + 1]? = some (.cells (rcV l.r) 23 (0, 0)) → Below W.heap.size W W' → W'.cell? ⟨w.heap.size + 1, 0, none⟩ = some (.int .i64 l.r.k) ∧ W'.cell? ⟨w.heap.size + 1, 1, none⟩ = some (.int .i64 l.r.a) ∧ W'.cell? ⟨w.heap.size + 1, 2, none⟩ = some (.int .i64 l.r.b) ∧ W'.cell? ⟨w.heap.size + 1, 3, none⟩ = some (.int .i64 l.r.c) ∧ W'.cell? ⟨w.heap.size + 1, 4, none⟩ = some (.int .i64 l.r.d) ∧ W'.cell? ⟨w.heap.size + 1, 5, none⟩ = some (.string l.r.key)) :=
    fun W W' h hb => rc_cells h hb
  have HZ : Hid (((w.alloc (.cells (lnV l) 25)).alloc (.cells #[.int .i64 0, .int .i64 0, .int .i64 0, .int .i64 0, .int .i64 0, .string ⟨#[]⟩] 23)).heap[w.heap.size + 1]? = some (.cells #[.int .i64 0, .int .i64 0, .int .i64 0, .int .i64 0, .int .i64 0, .string ⟨#[]⟩] 23 (0, 0))) := by
    have := heap_alloc_new (w.alloc (.cells (lnV l) 25)) (.cells #[.int .i64 0, .int .i64 0, .int .i64 0, .int .i64 0, .int .i64 0, .string ⟨#[]⟩] 23)
    rwa [show (w.alloc (.cells (lnV l) 25)).heap.size = w.heap.size + 1 by simp] at this
  have HQ : Hid (∀ o, ((w.alloc (.cells (lnV l) 25)).alloc o).heap[w.heap.size]? = some (.cells (lnV l) 25 (0, 0))) := fun o => by
    rw [Below.heap_alloc _ _ _ (by simp)]; exact heap_alloc_new _ _
  have HB : Hid (∀ o o', Below w.heap.size w ((w.alloc o).alloc o')) := fun o o' => ((Below.refl _ _).alloc (Nat.le_refl _) _).alloc (by simp) _
  obtain ⟨L, hL⟩ : ∃ L, L = lnV l := ⟨_, rfl⟩
  simp only [← hL] at HRA HLN HZ HQ
  rw [← hL]
  obtain ⟨R, hR⟩ : ∃ L, L = rcV l.r := ⟨_, rfl⟩
  rw [← hR] at hinf hinf2 hone HRA
  simp only [← hR] at HRC
  have hRT : R.toList.toArray = R := Array.toArray_toList
  obtain ⟨C, hC⟩ : ∃ L, L = R.toList := ⟨_, rfl⟩
  rw [← hC] at hinf2 HRA hRT
  have hold : Hid (6 = R.size) := by rw [hR]; rfl
  clear d0 hL hR hC
  go_enter Try.func11, Try.ntmps11
  go_wp2_with (first
    | (refine wpList_load_mid rfl 23 _ rfl w.heap.size 3 rfl C _ HRA.out Try.underlying23 rfl hinf2 ?_; rw [hRT])
    | (refine wpList_store_fresh rfl 23 _ _ rfl (w.heap.size + 1) R rfl rfl 23 _ HZ.out hinf hold.out hone (HB.out _ _) (Nat.le_succ _) ?_; intro W hW hbW hkW hsW
       have hqW := (hkW _ (Nat.ne_of_lt (Nat.lt_succ_self _))).trans (HQ.out _)
       obtain ⟨l0, l1, l2⟩ := HLN.out W W hqW (Below.refl _ _)
       obtain ⟨r0, r1, r2, r3, r4, r5⟩ := HRC.out W W hW (Below.refl _ _)
       have HW := Lib.hid hW
       have HQW := Lib.hid hqW
       clear hW hkW hsW hqW)
    | (go_at_call_of 24 (Value.int .i64 l.g); with_reducible (refine Calls.mono (H0.out _) ?_); rintro e w1 ⟨rfl, rfl⟩))
  go_ret2
  exact ⟨rfl, hbW⟩

set_option maxHeartbeats 800000 in
set_option maxRecDepth 20000 in
theorem refEnc_no1 (l : Ln) (w : World) (d0 : inN l.g 2147483647 = true) (d1 : inN l.s 2147483647 = false) :
    Calls Try.prog 11 #[.agg (lnV l)] w fun e w' => e = .returned (.tuple #[.slice none 0 0, .int .i64 7]) ∧ Below w.heap.size w w' := by
  have H0 := Lib.hid (fun W => refIn_any l.g 2147483647 W)
  rw [d0] at H0
  have H1 := Lib.hid (fun W => refIn_any l.s 2147483647 W)
  rw [d1] at H1
  have hinf : (Try.prog.info? 23).map (·.size) = some (rcV l.r).size := Try.infoRec
  have hinf2 : (Try.prog.info? 23).map (·.size) = some (rcV l.r).toList.length := Try.infoRec
  have hone := rcV_one l.r
  have HRA : Hid ((w.alloc (.cells (lnV l) 25)).rangeAt w.heap.size 3 (rcV l.r).toList) := (ln_cells (heap_alloc_new w (.cells (lnV l) 25)) (Below.refl _ _)).2.2.2
  have HLN : Hid (∀ W W' : World, W.heap[w.heap.size]? = some (.cells (lnV l) 25 (0, 0)) → Below W.heap.size W W' → W'.cell? ⟨w.heap.size, 0, none⟩ = some (.int .i64 l.g) ∧ W'.cell? ⟨w.heap.size, 1, none⟩ = some (.int .i64 l.s) ∧ W'.cell? ⟨w.heap.size, 2, none⟩ = some (.bool l.last)) :=
    fun W W' h hb => ⟨(ln_cells h hb).1, (ln_cells h hb).2.1, (ln_cells h hb).2.2.1⟩
  have HRC : Hid (∀ W W' : World, W.heap[w.heap.size + 1]? = some (.cells (rcV l.r) 23 (0, 0)) → Below W.heap.size W W' → W'.cell? ⟨w.heap.size + 1, 0, none⟩ = some (.int .i64 l.r.k) ∧ W'.cell? ⟨w.heap.size + 1, 1, none⟩ = some (.int .i64 l.r.a) ∧ W'.cell? ⟨w.heap.size + 1, 2, none⟩ = some (.int .i64 l.r.b) ∧ W'.cell? ⟨w.heap.size + 1, 3, none⟩ = some (.int .i64 l.r.c) ∧ W'.cell? ⟨w.heap.size + 1, 4, none⟩ = some (.int .i64 l.r.d) ∧ W'.cell? ⟨w.heap.size + 1, 5, none⟩ = some (.string l.r.key)) :=
    fun W W' h hb => rc_cells h hb
  have HZ : Hid (((w.alloc (.cells (lnV l) 25)).alloc (.cells #[.int .i64 0, .int .i64 0, .int .i64 0, .int .i64 0, .int .i64 0, .string ⟨#[]⟩] 23)).heap[w.heap.size + 1]? = some (.cells #[.int .i64 0, .int .i64 0, .int .i64 0, .int .i64 0, .int .i64 0, .string ⟨#[]⟩] 23 (0, 0))) := by
    have := heap_alloc_new (w.alloc (.cells (lnV l) 25)) (.cells #[.int .i64 0, .int .i64 0, .int .i64 0, .int .i64 0, .int .i64 0, .string ⟨#[]⟩] 23)
    rwa [show (w.alloc (.cells (lnV l) 25)).heap.size = w.heap.size + 1 by simp] at this
  have HQ : Hid (∀ o, ((w.alloc (.cells (lnV l) 25)).alloc o).heap[w.heap.size]? = some (.cells (lnV l) 25 (0, 0))) := fun o => by
    rw [Below.heap_alloc _ _ _ (by simp)]; exact heap_alloc_new _ _
  have HB : Hid (∀ o o', Below w.heap.size w ((w.alloc o).alloc o')) := fun o o' => ((Below.refl _ _).alloc (Nat.le_refl _) _).alloc (by simp) _
  obtain ⟨L, hL⟩ : ∃ L, L = lnV l := ⟨_, rfl⟩
  simp only [← hL] at HRA HLN HZ HQ
  rw [← hL]
  obtain ⟨R, hR⟩ : ∃ L, L = rcV l.r := ⟨_, rfl⟩
  rw [← hR] at hinf hinf2 hone HRA
  simp only [← hR] at HRC
  have hRT : R.toList.toArray = R := Array.toArray_toList
  obtain ⟨C, hC⟩ : ∃ L, L = R.toList := ⟨_, rfl⟩
  rw [← hC] at hinf2 HRA hRT
  have hold : Hid (6 = R.size) := by rw [hR]; rfl
  clear d0 d1 hL hR hC
  go_enter Try.func11, Try.ntmps11
  go_wp2_with (first
    | (refine wpList_load_mid rfl 23 _ rfl w.heap.size 3 rfl C _ HRA.out Try.underlying23 rfl hinf2 ?_; rw [hRT])
    | (refine wpList_store_fresh rfl 23 _ _ rfl (w.heap.size + 1) R rfl rfl 23 _ HZ.out hinf hold.out hone (HB.out _ _) (Nat.le_succ _) ?_; intro W hW hbW hkW hsW
       have hqW := (hkW _ (Nat.ne_of_lt (Nat.lt_succ_self _))).trans (HQ.out _)
       obtain ⟨l0, l1, l2⟩ := HLN.out W W hqW (Below.refl _ _)
       obtain ⟨r0, r1, r2, r3, r4, r5⟩ := HRC.out W W hW (Below.refl _ _)
       have HW := Lib.hid hW
       have HQW := Lib.hid hqW
       clear hW hkW hsW hqW)
    | (go_at_call_of 24 (Value.int .i64 l.g); with_reducible (refine Calls.mono (H0.out _) ?_); rintro e w1 ⟨rfl, rfl⟩)
    | (go_at_call_of 24 (Value.int .i64 l.s); with_reducible (refine Calls.mono (H1.out _) ?_); rintro e w1 ⟨rfl, rfl⟩))
  go_ret2
  exact ⟨rfl, hbW⟩

set_option maxHeartbeats 800000 in
set_option maxRecDepth 20000 in
theorem refEnc_no2 (l : Ln) (w : World) (d0 : inN l.g 2147483647 = true) (d1 : inN l.s 2147483647 = true) (d2 : inN l.r.k 9 = false) :
    Calls Try.prog 11 #[.agg (lnV l)] w fun e w' => e = .returned (.tuple #[.slice none 0 0, .int .i64 7]) ∧ Below w.heap.size w w' := by
  have H0 := Lib.hid (fun W => refIn_any l.g 2147483647 W)
  rw [d0] at H0
  have H1 := Lib.hid (fun W => refIn_any l.s 2147483647 W)
  rw [d1] at H1
  have H2 := Lib.hid (fun W => refIn_any l.r.k 9 W)
  rw [d2] at H2
  have hinf : (Try.prog.info? 23).map (·.size) = some (rcV l.r).size := Try.infoRec
  have hinf2 : (Try.prog.info? 23).map (·.size) = some (rcV l.r).toList.length := Try.infoRec
  have hone := rcV_one l.r
  have HRA : Hid ((w.alloc (.cells (lnV l) 25)).rangeAt w.heap.size 3 (rcV l.r).toList) := (ln_cells (heap_alloc_new w (.cells (lnV l) 25)) (Below.refl _ _)).2.2.2
  have HLN : Hid (∀ W W' : World, W.heap[w.heap.size]? = some (.cells (lnV l) 25 (0, 0)) → Below W.heap.size W W' → W'.cell? ⟨w.heap.size, 0, none⟩ = some (.int .i64 l.g) ∧ W'.cell? ⟨w.heap.size, 1, none⟩ = some (.int .i64 l.s) ∧ W'.cell? ⟨w.heap.size, 2, none⟩ = some (.bool l.last)) :=
    fun W W' h hb => ⟨(ln_cells h hb).1, (ln_cells h hb).2.1, (ln_cells h hb).2.2.1⟩
  have HRC : Hid (∀ W W' : World, W.heap[w.heap.size + 1]? = some (.cells (rcV l.r) 23 (0, 0)) → Below W.heap.size W W' → W'.cell? ⟨w.heap.size + 1, 0, none⟩ = some (.int .i64 l.r.k) ∧ W'.cell? ⟨w.heap.size + 1, 1, none⟩ = some (.int .i64 l.r.a) ∧ W'.cell? ⟨w.heap.size + 1, 2, none⟩ = some (.int .i64 l.r.b) ∧ W'.cell? ⟨w.heap.size + 1, 3, none⟩ = some (.int .i64 l.r.c) ∧ W'.cell? ⟨w.heap.size + 1, 4, none⟩ = some (.int .i64 l.r.d) ∧ W'.cell? ⟨w.heap.size + 1, 5, none⟩ = some (.string l.r.key)) :=
    fun W W' h hb => rc_cells h hb
  have HZ : Hid (((w.alloc (.cells (lnV l) 25)).alloc (.cells #[.int .i64 0, .int .i64 0, .int .i64 0, .int .i64 0, .int .i64 0, .string ⟨#[]⟩] 23)).heap[w.heap.size + 1]? = some (.cells #[.int .i64 0, .int .i64 0, .int .i64 0, .int .i64 0, .int .i64 0, .string ⟨#[]⟩] 23 (0, 0))) := by
    have := heap_alloc_new (w.alloc (.cells (lnV l) 25)) (.cells #[.int .i64 0, .int .i64 0, .int .i64 0, .int .i64 0, .int .i64 0, .string ⟨#[]⟩] 23)
    rwa [show (w.alloc (.cells (lnV l) 25)).heap.size = w.heap.size + 1 by simp] at this
  have HQ : Hid (∀ o, ((w.alloc (.cells (lnV l) 25)).alloc o).heap[w.heap.size]? = some (.cells (lnV l) 25 (0, 0))) := fun o => by
    rw [Below.heap_alloc _ _ _ (by simp)]; exact heap_alloc_new _ _
  have HB : Hid (∀ o o', Below w.heap.size w ((w.alloc o).alloc o')) := fun o o' => ((Below.refl _ _).alloc (Nat.le_refl _) _).alloc (by simp) _
  obtain ⟨L, hL⟩ : ∃ L, L = lnV l := ⟨_, rfl⟩
  simp only [← hL] at HRA HLN HZ HQ
  rw [← hL]
  obtain ⟨R, hR⟩ : ∃ L, L = rcV l.r := ⟨_, rfl⟩
  rw [← hR] at hinf hinf2 hone HRA
  simp only [← hR] at HRC
  have hRT : R.toList.toArray = R := Array.toArray_toList
  obtain ⟨C, hC⟩ : ∃ L, L = R.toList := ⟨_, rfl⟩
  rw [← hC] at hinf2 HRA hRT
  have hold : Hid (6 = R.size) := by rw [hR]; rfl
  clear d0 d1 d2 hL hR hC
  go_enter Try.func11, Try.ntmps11
  go_wp2_with (first
    | (refine wpList_load_mid rfl 23 _ rfl w.heap.size 3 rfl C _ HRA.out Try.underlying23 rfl hinf2 ?_; rw [hRT])
    | (refine wpList_store_fresh rfl 23 _ _ rfl (w.heap.size + 1) R rfl rfl 23 _ HZ.out hinf hold.out hone (HB.out _ _) (Nat.le_succ _) ?_; intro W hW hbW hkW hsW
       have hqW := (hkW _ (Nat.ne_of_lt (Nat.lt_succ_self _))).trans (HQ.out _)
       obtain ⟨l0, l1, l2⟩ := HLN.out W W hqW (Below.refl _ _)
       obtain ⟨r0, r1, r2, r3, r4, r5⟩ := HRC.out W W hW (Below.refl _ _)
       have HW := Lib.hid hW
       have HQW := Lib.hid hqW
       clear hW hkW hsW hqW)
    | (go_at_call_of 24 (Value.int .i64 l.g); with_reducible (refine Calls.mono (H0.out _) ?_); rintro e w1 ⟨rfl, rfl⟩)
    | (go_at_call_of 24 (Value.int .i64 l.s); with_reducible (refine Calls.mono (H1.out _) ?_); rintro e w1 ⟨rfl, rfl⟩)
    | (go_at_call_of 24 (Value.int .i64 l.r.k); with_reducible (refine Calls.mono (H2.out _) ?_); rintro e w1 ⟨rfl, rfl⟩))
  go_ret2
  exact ⟨rfl, hbW⟩

set_option maxHeartbeats 800000 in
set_option maxRecDepth 20000 in
theorem refEnc_no3 (l : Ln) (w : World) (d0 : inN l.g 2147483647 = true) (d1 : inN l.s 2147483647 = true) (d2 : inN l.r.k 9 = true) (d3 : inN l.r.a 1099511627776 = false) :
    Calls Try.prog 11 #[.agg (lnV l)] w fun e w' => e = .returned (.tuple #[.slice none 0 0, .int .i64 7]) ∧ Below w.heap.size w w' := by
  have H0 := Lib.hid (fun W => refIn_any l.g 2147483647 W)
  rw [d0] at H0
  have H1 := Lib.hid (fun W => refIn_any l.s 2147483647 W)
  rw [d1] at H1
  have H2 := Lib.hid (fun W => refIn_any l.r.k 9 W)
  rw [d2] at H2
  have H3 := Lib.hid (fun W => refIn_any l.r.a 1099511627776 W)
  rw [d3] at H3
  have hinf : (Try.prog.info? 23).map (·.size) = some (rcV l.r).size := Try.infoRec
  have hinf2 : (Try.prog.info? 23).map (·.size) = some (rcV l.r).toList.length := Try.infoRec
  have hone := rcV_one l.r
  have HRA : Hid ((w.alloc (.cells (lnV l) 25)).rangeAt w.heap.size 3 (rcV l.r).toList) := (ln_cells (heap_alloc_new w (.cells (lnV l) 25)) (Below.refl _ _)).2.2.2
  have HLN : Hid (∀ W W' : World, W.heap[w.heap.size]? = some (.cells (lnV l) 25 (0, 0)) → Below W.heap.size W W' → W'.cell? ⟨w.heap.size, 0, none⟩ = some (.int .i64 l.g) ∧ W'.cell? ⟨w.heap.size, 1, none⟩ = some (.int .i64 l.s) ∧ W'.cell? ⟨w.heap.size, 2, none⟩ = some (.bool l.last)) :=
    fun W W' h hb => ⟨(ln_cells h hb).1, (ln_cells h hb).2.1, (ln_cells h hb).2.2.1⟩
  have HRC : Hid (∀ W W' : World, W.heap[w.heap.size + 1]? = some (.cells (rcV l.r) 23 (0, 0)) → Below W.heap.size W W' → W'.cell? ⟨w.heap.size + 1, 0, none⟩ = some (.int .i64 l.r.k) ∧ W'.cell? ⟨w.heap.size + 1, 1, none⟩ = some (.int .i64 l.r.a) ∧ W'.cell? ⟨w.heap.size + 1, 2, none⟩ = some (.int .i64 l.r.b) ∧ W'.cell? ⟨w.heap.size + 1, 3, none⟩ = some (.int .i64 l.r.c) ∧ W'.cell? ⟨w.heap.size + 1, 4, none⟩ = some (.int .i64 l.r.d) ∧ W'.cell? ⟨w.heap.size + 1, 5, none⟩ = some (.string l.r.key)) :=
    fun W W' h hb => rc_cells h hb
  have HZ : Hid (((w.alloc (.cells (lnV l) 25)).alloc (.cells #[.int .i64 0, .int .i64 0, .int .i64 0, .int .i64 0, .int .i64 0, .string ⟨#[]⟩] 23)).heap[w.heap.size + 1]? = some (.cells #[.int .i64 0, .int .i64 0, .int .i64 0, .int .i64 0, .int .i64 0, .string ⟨#[]⟩] 23 (0, 0))) := by
    have := heap_alloc_new (w.alloc (.cells (lnV l) 25)) (.cells #[.int .i64 0, .int .i64 0, .int .i64 0, .int .i64 0, .int .i64 0, .string ⟨#[]⟩] 23)
    rwa [show (w.alloc (.cells (lnV l) 25)).heap.size = w.heap.size + 1 by simp] at this
  have HQ : Hid (∀ o, ((w.alloc (.cells (lnV l) 25)).alloc o).heap[w.heap.size]? = some (.cells (lnV l) 25 (0, 0))) := fun o => by
    rw [Below.heap_alloc _ _ _ (by simp)]; exact heap_alloc_new _ _
  have HB : Hid (∀ o o', Below w.heap.size w ((w.alloc o).alloc o')) := fun o o' => ((Below.refl _ _).alloc (Nat.le_refl _) _).alloc (by simp) _
  obtain ⟨L, hL⟩ : ∃ L, L = lnV l := ⟨_, rfl⟩
  simp only [← hL] at HRA HLN HZ HQ
  rw [← hL]
  obtain ⟨R, hR⟩ : ∃ L, L = rcV l.r := ⟨_, rfl⟩
  rw [← hR] at hinf hinf2 hone HRA
  simp only [← hR] at HRC
  have hRT : R.toList.toArray = R := Array.toArray_toList
  obtain ⟨C, hC⟩ : ∃ L, L = R.toList := ⟨_, rfl⟩
  rw [← hC] at hinf2 HRA hRT
  have hold : Hid (6 = R.size) := by rw [hR]; rfl
  clear d0 d1 d2 d3 hL hR hC
  go_enter Try.func11, Try.ntmps11
  go_wp2_with (first
    | (refine wpList_load_mid rfl 23 _ rfl w.heap.size 3 rfl C _ HRA.out Try.underlying23 rfl hinf2 ?_; rw [hRT])
    | (refine wpList_store_fresh rfl 23 _ _ rfl (w.heap.size + 1) R rfl rfl 23 _ HZ.out hinf hold.out hone (HB.out _ _) (Nat.le_succ _) ?_; intro W hW hbW hkW hsW
       have hqW := (hkW _ (Nat.ne_of_lt (Nat.lt_succ_self _))).trans (HQ.out _)
       obtain ⟨l0, l1, l2⟩ := HLN.out W W hqW (Below.refl _ _)
       obtain ⟨r0, r1, r2, r3, r4, r5⟩ := HRC.out W W hW (Below.refl _ _)
       have HW := Lib.hid hW
       have HQW := Lib.hid hqW
       clear hW hkW hsW hqW)
    | (go_at_call_of 24 (Value.int .i64 l.g); with_reducible (refine Calls.mono (H0.out _) ?_); rintro e w1 ⟨rfl, rfl⟩)
    | (go_at_call_of 24 (Value.int .i64 l.s); with_reducible (refine Calls.mono (H1.out _) ?_); rintro e w1 ⟨rfl, rfl⟩)
    | (go_at_call_of 24 (Value.int .i64 l.r.k); with_reducible (refine Calls.mono (H2.out _) ?_); rintro e w1 ⟨rfl, rfl⟩)
    | (go_at_call_of 24 (Value.int .i64 l.r.a); with_reducible (refine Calls.mono (H3.out _) ?_); rintro e w1 ⟨rfl, rfl⟩))
  go_ret2
  exact ⟨rfl, hbW⟩

set_option maxHeartbeats 800000 in
set_option maxRecDepth 20000 in
theorem refEnc_no4 (l : Ln) (w : World) (d0 : inN l.g 2147483647 = true) (d1 : inN l.s 2147483647 = true) (d2 : inN l.r.k 9 = true) (d3 : inN l.r.a 1099511627776 = true) (d4 : inN l.r.b 1099511627776 = false) :
    Calls Try.prog 11 #[.agg (lnV l)] w fun e w' => e = .returned (.tuple #[.slice none 0 0, .int .i64 7]) ∧ Below w.heap.size w w' := by
  have H0 := Lib.hid (fun W => refIn_any l.g 2147483647 W)
  rw [d0] at H0
  have H1 := Lib.hid (fun W => refIn_any l.s 2147483647 W)
  rw [d1] at H1
  have H2 := Lib.hid (fun W => refIn_any l.r.k 9 W)
  rw [d2] at H2
  have H3 := Lib.hid (fun W => refIn_any l.r.a 1099511627776 W)
  rw [d3] at H3
  have H4 := Lib.hid (fun W => refIn_any l.r.b 1099511627776 W)
  rw [d4] at H4
  have hinf : (Try.prog.info? 23).map (·.size) = some (rcV l.r).size := Try.infoRec
  have hinf2 : (Try.prog.info? 23).map (·.size) = some (rcV l.r).toList.length := Try.infoRec
  have hone := rcV_one l.r
  have HRA : Hid ((w.alloc (.cells (lnV l) 25)).rangeAt w.heap.size 3 (rcV l.r).toList) := (ln_cells (heap_alloc_new w (.cells (lnV l) 25)) (Below.refl _ _)).2.2.2
  have HLN : Hid (∀ W W' : World, W.heap[w.heap.size]? = some (.cells (lnV l) 25 (0, 0)) → Below W.heap.size W W' → W'.cell? ⟨w.heap.size, 0, none⟩ = some (.int .i64 l.g) ∧ W'.cell? ⟨w.heap.size, 1, none⟩ = some (.int .i64 l.s) ∧ W'.cell? ⟨w.heap.size, 2, none⟩ = some (.bool l.last)) :=
    fun W W' h hb => ⟨(ln_cells h hb).1, (ln_cells h hb).2.1, (ln_cells h hb).2.2.1⟩
  have HRC : Hid (∀ W W' : World, W.heap[w.heap.size + 1]? = some (.cells (rcV l.r) 23 (0, 0)) → Below W.heap.size W W' → W'.cell? ⟨w.heap.size + 1, 0, none⟩ = some (.int .i64 l.r.k) ∧ W'.cell? ⟨w.heap.size + 1, 1, none⟩ = some (.int .i64 l.r.a) ∧ W'.cell? ⟨w.heap.size + 1, 2, none⟩ = some (.int .i64 l.r.b) ∧ W'.cell? ⟨w.heap.size + 1, 3, none⟩ = some (.int .i64 l.r.c) ∧ W'.cell? ⟨w.heap.size + 1, 4, none⟩ = some (.int .i64 l.r.d) ∧ W'.cell? ⟨w.heap.size + 1, 5, none⟩ = some (.string l.r.key)) :=
    fun W W' h hb => rc_cells h hb
  have HZ : Hid (((w.alloc (.cells (lnV l) 25)).alloc (.cells #[.int .i64 0, .int .i64 0, .int .i64 0, .int .i64 0, .int .i64 0, .string ⟨#[]⟩] 23)).heap[w.heap.size + 1]? = some (.cells #[.int .i64 0, .int .i64 0, .int .i64 0, .int .i64 0, .int .i64 0, .string ⟨#[]⟩] 23 (0, 0))) := by
    have := heap_alloc_new (w.alloc (.cells (lnV l) 25)) (.cells #[.int .i64 0, .int .i64 0, .int .i64 0, .int .i64 0, .int .i64 0, .string ⟨#[]⟩] 23)
    rwa [show (w.alloc (.cells (lnV l) 25)).heap.size = w.heap.size + 1 by simp] at this
  have HQ : Hid (∀ o, ((w.alloc (.cells (lnV l) 25)).alloc o).heap[w.heap.size]? = some (.cells (lnV l) 25 (0, 0))) := fun o => by
    rw [Below.heap_alloc _ _ _ (by simp)]; exact heap_alloc_new _ _
  have HB : Hid (∀ o o', Below w.heap.size w ((w.alloc o).alloc o')) := fun o o' => ((Below.refl _ _).alloc (Nat.le_refl _) _).alloc (by simp) _
  obtain ⟨L, hL⟩ : ∃ L, L = lnV l := ⟨_, rfl⟩
  simp only [← hL] at HRA HLN HZ HQ
  rw [← hL]
  obtain ⟨R, hR⟩ : ∃ L, L = rcV l.r := ⟨_, rfl⟩
  rw [← hR] at hinf hinf2 hone HRA
  simp only [← hR] at HRC
  have hRT : R.toList.toArray = R := Array.toArray_toList
  obtain ⟨C, hC⟩ : ∃ L, L = R.toList := ⟨_, rfl⟩
  rw [← hC] at hinf2 HRA hRT
  have hold : Hid (6 = R.size) := by rw [hR]; rfl
  clear d0 d1 d2 d3 d4 hL hR hC
  go_enter Try.func11, Try.ntmps11
  go_wp2_with (first
    | (refine wpList_load_mid rfl 23 _ rfl w.heap.size 3 rfl C _ HRA.out Try.underlying23 rfl hinf2 ?_; rw [hRT])
    | (refine wpList_store_fresh rfl 23 _ _ rfl (w.heap.size + 1) R rfl rfl 23 _ HZ.out hinf hold.out hone (HB.out _ _) (Nat.le_succ _) ?_; intro W hW hbW hkW hsW
       have hqW := (hkW _ (Nat.ne_of_lt (Nat.lt_succ_self _))).trans (HQ.out _)
       obtain ⟨l0, l1, l2⟩ := HLN.out W W hqW (Below.refl _ _)
       obtain ⟨r0, r1, r2, r3, r4, r5⟩ := HRC.out W W hW (Below.refl _ _)
       have HW := Lib.hid hW
       have HQW := Lib.hid hqW
       clear hW hkW hsW hqW)
    | (go_at_call_of 24 (Value.int .i64 l.g); with_reducible (refine Calls.mono (H0.out _) ?_); rintro e w1 ⟨rfl, rfl⟩)
    | (go_at_call_of 24 (Value.int .i64 l.s); with_reducible (refine Calls.mono (H1.out _) ?_); rintro e w1 ⟨rfl, rfl⟩)
    | (go_at_call_of 24 (Value.int .i64 l.r.k); with_reducible (refine Calls.mono (H2.out _) ?_); rintro e w1 ⟨rfl, rfl⟩)
    | (go_at_call_of 24 (Value.int .i64 l.r.a); with_reducible (refine Calls.mono (H3.out _) ?_); rintro e w1 ⟨rfl, rfl⟩)
    | (go_at_call_of 24 (Value.int .i64 l.r.b); with_reducible (refine Calls.mono (H4.out _) ?_); rintro e w1 ⟨rfl, rfl⟩))
  go_ret2
  exact ⟨rfl, hbW⟩

set_option maxHeartbeats 800000 in
set_option maxRecDepth 20000 in
theorem refEnc_no5 (l : Ln) (w : World) (d0 : inN l.g 2147483647 = true) (d1 : inN l.s 2147483647 = true) (d2 : inN l.r.k 9 = true) (d3 : inN l.r.a 1099511627776 = true) (d4 : inN l.r.b 1099511627776 = true) (d5 : inN l.r.c 1099511627776 = false) :
    Calls Try.prog 11 #[.agg (lnV l)] w fun e w' => e = .returned (.tuple #[.slice none 0 0, .int .i64 7]) ∧ Below w.heap.size w w' := by
  have H0 := Lib.hid (fun W => refIn_any l.g 2147483647 W)
  rw [d0] at H0
  have H1 := Lib.hid (fun W => refIn_any l.s 2147483647 W)
  rw [d1] at H1
  have H2 := Lib.hid (fun W => refIn_any l.r.k 9 W)
  rw [d2] at H2
  have H3 := Lib.hid (fun W => refIn_any l.r.a 1099511627776 W)
  rw [d3] at H3
  have H4 := Lib.hid (fun W => refIn_any l.r.b 1099511627776 W)
  rw [d4] at H4
  have H5 := Lib.hid (fun W => refIn_any l.r.c 1099511627776 W)
  rw [d5] at H5
  have hinf : (Try.prog.info? 23).map (·.size) = some (rcV l.r).size := Try.infoRec
  have hinf2 : (Try.prog.info? 23).map (·.size) = some (rcV l.r).toList.length := Try.infoRec
  have hone := rcV_one l.r
  have HRA : Hid ((w.alloc (.cells (lnV l) 25)).rangeAt w.heap.size 3 (rcV l.r).toList) := (ln_cells (heap_alloc_new w (.cells (lnV l) 25)) (Below.refl _ _)).2.2.2
  have HLN : Hid (∀ W W' : World, W.heap[w.heap.size]? = some (.cells (lnV l) 25 (0, 0)) → Below W.heap.size W W' → W'.cell? ⟨w.heap.size, 0, none⟩ = some (.int .i64 l.g) ∧ W'.cell? ⟨w.heap.size, 1, none⟩ = some (.int .i64 l.s) ∧ W'.cell? ⟨w.heap.size, 2, none⟩ = some (.bool l.last)) :=
    fun W W' h hb => ⟨(ln_cells h hb).1, (ln_cells h hb).2.1, (ln_cells h hb).2.2.1⟩
  have HRC : Hid (∀ W W' : World, W.heap[w.heap.size + 1]? = some (.cells (rcV l.r) 23 (0, 0)) → Below W.heap.size W W' → W'.cell? ⟨w.heap.size + 1, 0, none⟩ = some (.int .i64 l.r.k) ∧ W'.cell? ⟨w.heap.size + 1, 1, none⟩ = some (.int .i64 l.r.a) ∧ W'.cell? ⟨w.heap.size + 1, 2, none⟩ = some (.int .i64 l.r.b) ∧ W'.cell? ⟨w.heap.size + 1, 3, none⟩ = some (.int .i64 l.r.c) ∧ W'.cell? ⟨w.heap.size + 1, 4, none⟩ = some (.int .i64 l.r.d) ∧ W'.cell? ⟨w.heap.size + 1, 5, none⟩ = some (.string l.r.key)) :=
    fun W W' h hb => rc_cells h hb
  have HZ : Hid (((w.alloc (.cells (lnV l) 25)).alloc (.cells #[.int .i64 0, .int .i64 0, .int .i64 0, .int .i64 0, .int .i64 0, .string ⟨#[]⟩] 23)).heap[w.heap.size + 1]? = some (.cells #[.int .i64 0, .int .i64 0, .int .i64 0, .int .i64 0, .int .i64 0, .string ⟨#[]⟩] 23 (0, 0))) := by
    have := heap_alloc_new (w.alloc (.cells (lnV l) 25)) (.cells #[.int .i64 0, .int .i64 0, .int .i64 0, .int .i64 0, .int .i64 0, .string ⟨#[]⟩] 23)
    rwa [show (w.alloc (.cells (lnV l) 25)).heap.size = w.heap.size + 1 by simp] at this
  have HQ : Hid (∀ o, ((w.alloc (.cells (lnV l) 25)).alloc o).heap[w.heap.size]? = some (.cells (lnV l) 25 (0, 0))) := fun o => by
    rw [Below.heap_alloc _ _ _ (by simp)]; exact heap_alloc_new _ _
  have HB : Hid (∀ o o', Below w.heap.size w ((w.alloc o).alloc o')) := fun o o' => ((Below.refl _ _).alloc (Nat.le_refl _) _).alloc (by simp) _
  obtain ⟨L, hL⟩ : ∃ L, L = lnV l := ⟨_, rfl⟩
  simp only [← hL] at HRA HLN HZ HQ
  rw [← hL]
  obtain ⟨R, hR⟩ : ∃ L, L = rcV l.r := ⟨_, rfl⟩
  rw [← hR] at hinf hinf2 hone HRA
  simp only [← hR] at HRC
  have hRT : R.toList.toArray = R := Array.toArray_toList
  obtain ⟨C, hC⟩ : ∃ L, L = R.toList := ⟨_, rfl⟩
  rw [← hC] at hinf2 HRA hRT
  have hold : Hid (6 = R.size) := by rw [hR]; rfl
  clear d0 d1 d2 d3 d4 d5 hL hR hC
  go_enter Try.func11, Try.ntmps11
  go_wp2_with (first
    | (refine wpList_load_mid rfl 23 _ rfl w.heap.size 3 rfl C _ HRA.out Try.underlying23 rfl hinf2 ?_; rw [hRT])
    | (refine wpList_store_fresh rfl 23 _ _ rfl (w.heap.size + 1) R rfl rfl 23 _ HZ.out hinf hold.out hone (HB.out _ _) (Nat.le_succ _) ?_; intro W hW hbW hkW hsW
       have hqW := (hkW _ (Nat.ne_of_lt (Nat.lt_succ_self _))).trans (HQ.out _)
       obtain ⟨l0, l1, l2⟩ := HLN.out W W hqW (Below.refl _ _)
       obtain ⟨r0, r1, r2, r3, r4, r5⟩ := HRC.out W W hW (Below.refl _ _)
       have HW := Lib.hid hW
       have HQW := Lib.hid hqW
       clear hW hkW hsW hqW)
    | (go_at_call_of 24 (Value.int .i64 l.g); with_reducible (refine Calls.mono (H0.out _) ?_); rintro e w1 ⟨rfl, rfl⟩)
    | (go_at_call_of 24 (Value.int .i64 l.s); with_reducible (refine Calls.mono (H1.out _) ?_); rintro e w1 ⟨rfl, rfl⟩)
    | (go_at_call_of 24 (Value.int .i64 l.r.k); with_reducible (refine Calls.mono (H2.out _) ?_); rintro e w1 ⟨rfl, rfl⟩)
    | (go_at_call_of 24 (Value.int .i64 l.r.a); with_reducible (refine Calls.mono (H3.out _) ?_); rintro e w1 ⟨rfl, rfl⟩)
    | (go_at_call_of 24 (Value.int .i64 l.r.b); with_reducible (refine Calls.mono (H4.out _) ?_); rintro e w1 ⟨rfl, rfl⟩)
    | (go_at_call_of 24 (Value.int .i64 l.r.c); with_reducible (refine Calls.mono (H5.out _) ?_); rintro e w1 ⟨rfl, rfl⟩))
  go_ret2
  exact ⟨rfl, hbW⟩

set_option maxHeartbeats 800000 in
set_option maxRecDepth 20000 in
theorem refEnc_no6 (l : Ln) (w : World) (d0 : inN l.g 2147483647 = true) (d1 : inN l.s 2147483647 = true) (d2 : inN l.r.k 9 = true) (d3 : inN l.r.a 1099511627776 = true) (d4 : inN l.r.b 1099511627776 = true) (d5 : inN l.r.c 1099511627776 = true) (d6 : inN l.r.d 1099511627776 = false) :
    Calls Try.prog 11 #[.agg (lnV l)] w fun e w' => e = .returned (.tuple #[.slice none 0 0, .int .i64 7]) ∧ Below w.heap.size w w' := by
  have H0 := Lib.hid (fun W => refIn_any l.g 2147483647 W)
  rw [d0] at H0
  have H1 := Lib.hid (fun W => refIn_any l.s 2147483647 W)
  rw [d1] at H1
  have H2 := Lib.hid (fun W => refIn_any l.r.k 9 W)
  rw [d2] at H2
  have H3 := Lib.hid (fun W => refIn_any l.r.a 1099511627776 W)
  rw [d3] at H3
  have H4 := Lib.hid (fun W => refIn_any l.r.b 1099511627776 W)
  rw [d4] at H4
  have H5 := Lib.hid (fun W => refIn_any l.r.c 1099511627776 W)
  rw [d5] at H5
  have H6 := Lib.hid (fun W => refIn_any l.r.d 1099511627776 W)
  rw [d6] at H6
  have hinf : (Try.prog.info? 23).map (·.size) = some (rcV l.r).size := Try.infoRec
  have hinf2 : (Try.prog.info? 23).map (·.size) = some (rcV l.r).toList.length := Try.infoRec
  have hone := rcV_one l.r
  have HRA : Hid ((w.alloc (.cells (lnV l) 25)).rangeAt w.heap.size 3 (rcV l.r).toList) := (ln_cells (heap_alloc_new w (.cells (lnV l) 25)) (Below.refl _ _)).2.2.2
  have HLN : Hid (∀ W W' : World, W.heap[w.heap.size]? = some (.cells (lnV l) 25 (0, 0)) → Below W.heap.size W W' → W'.cell? ⟨w.heap.size, 0, none⟩ = some (.int .i64 l.g) ∧ W'.cell? ⟨w.heap.size, 1, none⟩ = some (.int .i64 l.s) ∧ W'.cell? ⟨w.heap.size, 2, none⟩ = some (.bool l.last)) :=
    fun W W' h hb => ⟨(ln_cells h hb).1, (ln_cells h hb).2.1, (ln_cells h hb).2.2.1⟩
  have HRC : Hid (∀ W W' : World, W.heap[w.heap.size + 1]? = some (.cells (rcV l.r) 23 (0, 0)) → Below W.heap.size W W' → W'.cell? ⟨w.heap.size + 1, 0, none⟩ = some (.int .i64 l.r.k) ∧ W'.cell? ⟨w.heap.size + 1, 1, none⟩ = some (.int .i64 l.r.a) ∧ W'.cell? ⟨w.heap.size + 1, 2, none⟩ = some (.int .i64 l.r.b) ∧ W'.cell? ⟨w.heap.size + 1, 3, none⟩ = some (.int .i64 l.r.c) ∧ W'.cell? ⟨w.heap.size + 1, 4, none⟩ = some (.int .i64 l.r.d) ∧ W'.cell? ⟨w.heap.size + 1, 5, none⟩ = some (.string l.r.key)) :=
    fun W W' h hb => rc_cells h hb
  have HZ : Hid (((w.alloc (.cells (lnV l) 25)).alloc (.cells #[.int .i64 0, .int .i64 0, .int .i64 0, .int .i64 0, .int .i64 0, .string ⟨#[]⟩] 23)).heap[w.heap.size + 1]? = some (.cells #[.int .i64 0, .int .i64 0, .int .i64 0, .int .i64 0, .int .i64 0, .string ⟨#[]⟩] 23 (0, 0))) := by
    have := heap_alloc_new (w.alloc (.cells (lnV l) 25)) (.cells #[.int .i64 0, .int .i64 0, .int .i64 0, .int .i64 0, .int .i64 0, .string ⟨#[]⟩] 23)
    rwa [show (w.alloc (.cells (lnV l) 25)).heap.size = w.heap.size + 1 by simp] at this
  have HQ : Hid (∀ o, ((w.alloc (.cells (lnV l) 25)).alloc o).heap[w.heap.size]? = some (.cells (lnV l) 25 (0, 0))) := fun o => by
    rw [Below.heap_alloc _ _ _ (by simp)]; exact heap_alloc_new _ _
  have HB : Hid (∀ o o', Below w.heap.size w ((w.alloc o).alloc o')) := fun o o' => ((Below.refl _ _).alloc (Nat.le_refl _) _).alloc (by simp) _
  obtain ⟨L, hL⟩ : ∃ L, L = lnV l := ⟨_, rfl⟩
  simp only [← hL] at HRA HLN HZ HQ
  rw [← hL]
  obtain ⟨R, hR⟩ : ∃ L, L = rcV l.r := ⟨_, rfl⟩
  rw [← hR] at hinf hinf2 hone HRA
  simp only [← hR] at HRC
  have hRT : R.toList.toArray = R := Array.toArray_toList
  obtain ⟨C, hC⟩ : ∃ L, L = R.toList := ⟨_, rfl⟩
  rw [← hC] at hinf2 HRA hRT
  have hold : Hid (6 = R.size) := by rw [hR]; rfl
  clear d0 d1 d2 d3 d4 d5 d6 hL hR hC
  go_enter Try.func11, Try.ntmps11
  go_wp2_with (first
    | (refine wpList_load_mid rfl 23 _ rfl w.heap.size 3 rfl C _ HRA.out Try.underlying23 rfl hinf2 ?_; rw [hRT])
    | (refine wpList_store_fresh rfl 23 _ _ rfl (w.heap.size + 1) R rfl rfl 23 _ HZ.out hinf hold.out hone (HB.out _ _) (Nat.le_succ _) ?_; intro W hW hbW hkW hsW
       have hqW := (hkW _ (Nat.ne_of_lt (Nat.lt_succ_self _))).trans (HQ.out _)
       obtain ⟨l0, l1, l2⟩ := HLN.out W W hqW (Below.refl _ _)
       obtain ⟨r0, r1, r2, r3, r4, r5⟩ := HRC.out W W hW (Below.refl _ _)
       have HW := Lib.hid hW
       have HQW := Lib.hid hqW
       clear hW hkW hsW hqW)
    | (go_at_call_of 24 (Value.int .i64 l.g); with_reducible (refine Calls.mono (H0.out _) ?_); rintro e w1 ⟨rfl, rfl⟩)
    | (go_at_call_of 24 (Value.int .i64 l.s); with_reducible (refine Calls.mono (H1.out _) ?_); rintro e w1 ⟨rfl, rfl⟩)
    | (go_at_call_of 24 (Value.int .i64 l.r.k); with_reducible (refine Calls.mono (H2.out _) ?_); rintro e w1 ⟨rfl, rfl⟩)
    | (go_at_call_of 24 (Value.int .i64 l.r.a); with_reducible (refine Calls.mono (H3.out _) ?_); rintro e w1 ⟨rfl, rfl⟩)
    | (go_at_call_of 24 (Value.int .i64 l.r.b); with_reducible (refine Calls.mono (H4.out _) ?_); rintro e w1 ⟨rfl, rfl⟩)
    | (go_at_call_of 24 (Value.int .i64 l.r.c); with_reducible (refine Calls.mono (H5.out _) ?_); rintro e w1 ⟨rfl, rfl⟩)
    | (go_at_call_of 24 (Value.int .i64 l.r.d); with_reducible (refine Calls.mono (H6.out _) ?_); rintro e w1 ⟨rfl, rfl⟩))
  go_ret2
  exact ⟨rfl, hbW⟩

set_option maxHeartbeats 800000 in
set_option maxRecDepth 20000 in
theorem refEnc_key (l : Ln) (w : World) (d0 : inN l.g 2147483647 = true) (d1 : inN l.s 2147483647 = true) (d2 : inN l.r.k 9 = true) (d3 : inN l.r.a 1099511627776 = true) (d4 : inN l.r.b 1099511627776 = true) (d5 : inN l.r.c 1099511627776 = true) (d6 : inN l.r.d 1099511627776 = true) (hk : l.r.key.size ≠ 0) (hk2 : l.r.key.size ≠ 16) :
    Calls Try.prog 11 #[.agg (lnV l)] w fun e w' => e = .returned (.tuple #[.slice none 0 0, .int .i64 1]) ∧ Below w.heap.size w w' := by
  have H0 := Lib.hid (fun W => refIn_any l.g 2147483647 W)
  rw [d0] at H0
  have H1 := Lib.hid (fun W => refIn_any l.s 2147483647 W)
  rw [d1] at H1
  have H2 := Lib.hid (fun W => refIn_any l.r.k 9 W)
  rw [d2] at H2
  have H3 := Lib.hid (fun W => refIn_any l.r.a 1099511627776 W)
  rw [d3] at H3
  have H4 := Lib.hid (fun W => refIn_any l.r.b 1099511627776 W)
  rw [d4] at H4
  have H5 := Lib.hid (fun W => refIn_any l.r.c 1099511627776 W)
  rw [d5] at H5
  have H6 := Lib.hid (fun W => refIn_any l.r.d 1099511627776 W)
  rw [d6] at H6
  have hinf : (Try.prog.info? 23).map (·.size) = some (rcV l.r).size := Try.infoRec
  have hinf2 : (Try.prog.info? 23).map (·.size) = some (rcV l.r).toList.length := Try.infoRec
  have hone := rcV_one l.r
  have HRA : Hid ((w.alloc (.cells (lnV l) 25)).rangeAt w.heap.size 3 (rcV l.r).toList) := (ln_cells (heap_alloc_new w (.cells (lnV l) 25)) (Below.refl _ _)).2.2.2
  have HLN : Hid (∀ W W' : World, W.heap[w.heap.size]? = some (.cells (lnV l) 25 (0, 0)) → Below W.heap.size W W' → W'.cell? ⟨w.heap.size, 0, none⟩ = some (.int .i64 l.g) ∧ W'.cell? ⟨w.heap.size, 1, none⟩ = some (.int .i64 l.s) ∧ W'.cell? ⟨w.heap.size, 2, none⟩ = some (.bool l.last)) :=
    fun W W' h hb => ⟨(ln_cells h hb).1, (ln_cells h hb).2.1, (ln_cells h hb).2.2.1⟩
  have HRC : Hid (∀ W W' : World, W.heap[w.heap.size + 1]? = some (.cells (rcV l.r) 23 (0, 0)) → Below W.heap.size W W' → W'.cell? ⟨w.heap.size + 1, 0, none⟩ = some (.int .i64 l.r.k) ∧ W'.cell? ⟨w.heap.size + 1, 1, none⟩ = some (.int .i64 l.r.a) ∧ W'.cell? ⟨w.heap.size + 1, 2, none⟩ = some (.int .i64 l.r.b) ∧ W'.cell? ⟨w.heap.size + 1, 3, none⟩ = some (.int .i64 l.r.c) ∧ W'.cell? ⟨w.heap.size + 1, 4, none⟩ = some (.int .i64 l.r.d) ∧ W'.cell? ⟨w.heap.size + 1, 5, none⟩ = some (.string l.r.key)) :=
    fun W W' h hb => rc_cells h hb
  have HZ : Hid (((w.alloc (.cells (lnV l) 25)).alloc (.cells #[.int .i64 0, .int .i64 0, .int .i64 0, .int .i64 0, .int .i64 0, .string ⟨#[]⟩] 23)).heap[w.heap.size + 1]? = some (.cells #[.int .i64 0, .int .i64 0, .int .i64 0, .int .i64 0, .int .i64 0, .string ⟨#[]⟩] 23 (0, 0))) := by
    have := heap_alloc_new (w.alloc (.cells (lnV l) 25)) (.cells #[.int .i64 0, .int .i64 0, .int .i64 0, .int .i64 0, .int .i64 0, .string ⟨#[]⟩] 23)
    rwa [show (w.alloc (.cells (lnV l) 25)).heap.size = w.heap.size + 1 by simp] at this
  have HQ : Hid (∀ o, ((w.alloc (.cells (lnV l) 25)).alloc o).heap[w.heap.size]? = some (.cells (lnV l) 25 (0, 0))) := fun o => by
    rw [Below.heap_alloc _ _ _ (by simp)]; exact heap_alloc_new _ _
  have HB : Hid (∀ o o', Below w.heap.size w ((w.alloc o).alloc o')) := fun o o' => ((Below.refl _ _).alloc (Nat.le_refl _) _).alloc (by simp) _
  obtain ⟨L, hL⟩ : ∃ L, L = lnV l := ⟨_, rfl⟩
  simp only [← hL] at HRA HLN HZ HQ
  rw [← hL]
  obtain ⟨R, hR⟩ : ∃ L, L = rcV l.r := ⟨_, rfl⟩
  rw [← hR] at hinf hinf2 hone HRA
  simp only [← hR] at HRC
  have hRT : R.toList.toArray = R := Array.toArray_toList
  obtain ⟨C, hC⟩ : ∃ L, L = R.toList := ⟨_, rfl⟩
  rw [← hC] at hinf2 HRA hRT
  have hold : Hid (6 = R.size) := by rw [hR]; rfl
  have k1 : ((l.r.key.size : Int) != 0) = true := by rw [bne_iff_ne]; omega
  have k2 : ((l.r.key.size : Int) != 16) = true := by rw [bne_iff_ne]; omega
  have k3 : ((l.r.key.size : Int) == 0) = false := by rw [beq_eq_false_iff_ne]; omega
  have k4 : ((l.r.key.size : Int) == 16) = false := by rw [beq_eq_false_iff_ne]; omega
  clear d0 d1 d2 d3 d4 d5 d6 hL hR hC
  go_enter Try.func11, Try.ntmps11
  go_wp2_with (first
    | (refine wpList_load_mid rfl 23 _ rfl w.heap.size 3 rfl C _ HRA.out Try.underlying23 rfl hinf2 ?_; rw [hRT])
    | (refine wpList_store_fresh rfl 23 _ _ rfl (w.heap.size + 1) R rfl rfl 23 _ HZ.out hinf hold.out hone (HB.out _ _) (Nat.le_succ _) ?_; intro W hW hbW hkW hsW
       have hqW := (hkW _ (Nat.ne_of_lt (Nat.lt_succ_self _))).trans (HQ.out _)
       obtain ⟨l0, l1, l2⟩ := HLN.out W W hqW (Below.refl _ _)
       obtain ⟨r0, r1, r2, r3, r4, r5⟩ := HRC.out W W hW (Below.refl _ _)
       have HW := Lib.hid hW
       have HQW := Lib.hid hqW
       clear hW hkW hsW hqW)
    | (go_at_call_of 24 (Value.int .i64 l.g); with_reducible (refine Calls.mono (H0.out _) ?_); rintro e w1 ⟨rfl, rfl⟩)
    | (go_at_call_of 24 (Value.int .i64 l.s); with_reducible (refine Calls.mono (H1.out _) ?_); rintro e w1 ⟨rfl, rfl⟩)
    | (go_at_call_of 24 (Value.int .i64 l.r.k); with_reducible (refine Calls.mono (H2.out _) ?_); rintro e w1 ⟨rfl, rfl⟩)
    | (go_at_call_of 24 (Value.int .i64 l.r.a); with_reducible (refine Calls.mono (H3.out _) ?_); rintro e w1 ⟨rfl, rfl⟩)
    | (go_at_call_of 24 (Value.int .i64 l.r.b); with_reducible (refine Calls.mono (H4.out _) ?_); rintro e w1 ⟨rfl, rfl⟩)
    | (go_at_call_of 24 (Value.int .i64 l.r.c); with_reducible (refine Calls.mono (H5.out _) ?_); rintro e w1 ⟨rfl, rfl⟩)
    | (go_at_call_of 24 (Value.int .i64 l.r.d); with_reducible (refine Calls.mono (H6.out _) ?_); rintro e w1 ⟨rfl, rfl⟩))
  go_ret2
  exact ⟨rfl, hbW⟩

end Go.Proofs.Ytbfchclfonicmaa
