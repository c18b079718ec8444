/-
  The law TableNews as a walk.
-/
import Derived.Test.YtnenpafofplbhaaTableLaws
import Derived.Deep.OwnRows
import Derived.Deep.RegionHeld3
namespace Go.Proofs.Ytnenpafofplbhaa
open Go.RowKit

set_option maxHeartbeats 1600000 in
set_option maxRecDepth 20000 in
/-- TableNews, of a number that may not be. -/
theorem tableNews_no (n : Int) (w : World) (HS : TableSpec w) (hn : I64n n) (hr : ¬ inR n 1 64) :
    Calls Try.prog 4 #[.int .i64 n] w fun e w' => e = .returned (.bool true) ∧ Below w.heap.size w w' := by
  have H1 := Lib.hid (HS.newNo n w (Below.refl _ _) hn hr)
  have HA := Lib.hid (fun W (hb : Below w.heap.size w W) => tableAwake HS W hb)
  have HI : Hid (∀ V t, (Try.prog.info? 26).map (·.size) = some (tabV V t).size) := fun V t => Try.infoTable
  have HNEW := Lib.hid (fun W : World => heap_alloc_new W (.cells #[.slice none 0 0, .slice none 0 0, .slice none 0 0] 26))
  have HAL := Lib.hid (fun W : World => (Below.refl W.heap.size W).alloc (Nat.le_refl _) (.cells #[.slice none 0 0, .slice none 0 0, .slice none 0 0] 26))
  have HSZ : Hid (∀ V t, (3 : Nat) = (tabV V t).size) := fun V t => rfl
  unfold inR at hr
  clear HS hn
  by_cases h1 : n < 1
  all_goals
    first | (have h2 : n > 64 := by omega) | skip
    clear hr
    go_enter Try.func4, Try.ntmps4
    go_wp2_with (first
      | (go_at_call 15; with_reducible (refine Calls.mono H1.out ?_); rintro e w1 ⟨V1, rfl, hb1⟩)
      | (have hguard := HNEW; clear hguard; refine wpList_store_fresh rfl 26 _ _ rfl w1.heap.size (tabV V1 Tab.zero) rfl rfl 26 _ (HNEW.out w1) (HI.out _ _) (HSZ.out _ _) (tabV_one _ _) (HAL.out w1) (Nat.le_refl _) ?_; intro W2 hW2 hbW2 hkW hsW
         have hx2 := hb1.trans (hbW2.mono hb1.size)
         have HQ := Lib.hid (Array.getElem?_eq_some_iff.1 hW2).1
         have HW2 := Lib.hid hW2
         clear hkW hsW hW2)
      | (go_at_call 11; with_reducible (refine Calls.mono (HA.out W2 hx2) ?_); rintro e w3 ⟨rfl, hb3⟩
         have hx3 := hx2.trans (hb3.mono hx2.size)
         have hc2 : w3.cell? ⟨w1.heap.size, 2, none⟩ = some (.slice V1.A3 0 V1.c3) := by rw [cell_of_row _ _ _ _ _ _ ((hb3.block _ HQ.out).trans HW2.out)]; rfl))
    go_ret
    exact ⟨rfl, hx3⟩

theorem Try.infoI64tab : (Try.prog.info? 3).map (fun i => (i.zero, i.size, i.bytes)) = some (some (.int .i64 0), 1, 8) := by kernel_rfl

theorem cells_newR {X : World} {g : Nat} {T : TypeId} (V : TabW) (n : Nat) (h : X.heap[g]? = some (.cells (tabV V (newR n)) T (0, 0))) : X.cell? ⟨g, 0, none⟩ = some (.slice V.A1 0 V.c1) ∧ X.cell? ⟨g, 1, none⟩ = some (.slice V.A2 0 V.c2) ∧ X.cell? ⟨g, 2, none⟩ = some (.slice V.A3 n V.c3) := by
  have e1 : tabV V (newR n) = #[.slice V.A1 0 V.c1, .slice V.A2 0 V.c2, .slice V.A3 n V.c3] := by
    unfold tabV newR
    simp only [List.length_nil, List.length_replicate]
  rw [e1] at h
  exact ⟨by rw [cell_of_row _ _ _ _ _ _ h]; rfl, by rw [cell_of_row _ _ _ _ _ _ h]; rfl, by rw [cell_of_row _ _ _ _ _ _ h]; rfl⟩
set_option maxHeartbeats 1600000 in
set_option maxRecDepth 20000 in
/-- TableNews, of a number that may be. -/
theorem tableNews_yes (n : Nat) (w : World) (HS : TableSpec w) (h1 : 1 ≤ n) (h2 : n ≤ 64) :
    Calls Try.prog 4 #[.int .i64 (n : Int)] w fun e w' => e = .returned (.bool true) ∧ Below w.heap.size w w' := by
  have H1 := Lib.hid (HS.new n w (Below.refl _ _) h1 h2)
  have HA := Lib.hid (fun W (hb : Below w.heap.size w W) => tableAwake HS W hb)
  have HI : Hid (∀ V t, (Try.prog.info? 26).map (·.size) = some (tabV V t).size) := fun V t => Try.infoTable
  have HNEW := Lib.hid (fun W : World => heap_alloc_new W (.cells #[.slice none 0 0, .slice none 0 0, .slice none 0 0] 26))
  have HAL := Lib.hid (fun W : World => (Below.refl W.heap.size W).alloc (Nat.le_refl _) (.cells #[.slice none 0 0, .slice none 0 0, .slice none 0 0] 26))
  have HSZ : Hid (∀ V t, (3 : Nat) = (tabV V t).size) := fun V t => rfl
  have hmk : ∀ W : World, (Instr.makeSlice 24 (.int .i64 (n : Int)) (.int .i64 (n : Int))).run Try.prog W = .ok (.slice (some ⟨W.heap.size, 0, none⟩) n n) (W.alloc (.cells (madeCells #[Value.int .i64 0] n) 3)) := fun W => run_make_row' (P := Try.prog) 24 3 (.int .i64 0) 8 Try.underlying24 Try.infoI64tab rfl .i64 .i64 n (by omega) (by omega) W
  have hZl : (madeCells #[Value.int .i64 0] n).toList = (List.replicate n (0 : Int)).map (Value.int .i64) := by rw [toList_madeCells_one, List.map_replicate]
  obtain ⟨Z, hZ⟩ : ∃ Z, Z = madeCells #[Value.int .i64 0] n := ⟨_, rfl⟩
  rw [← hZ] at hmk hZl
  have HSM : Hid (∀ (w1 X : World) (V : TabW), TabAt w1 w1.heap.size V (newR n) → Below w1.heap.size w1 X → Calls Try.prog 16 #[.agg #[.slice V.A1 0 V.c1, .slice V.A2 0 V.c2, .slice V.A3 n V.c3], .agg #[.slice none 0 0, .slice none 0 0, .slice (some ⟨X.heap.size, 0, none⟩) n n]] (X.alloc (.cells Z 3)) fun e w' => e = .returned (.bool true) ∧ Below X.heap.size X w') := fun w1 X V ht hb => by
    have hba : Below X.heap.size X (X.alloc (.cells Z 3)) := (Below.refl _ _).alloc (Nat.le_refl _) _
    have hbb := hb.trans (hba.mono hb.size)
    have e1 : tabV V (newR n) = #[.slice V.A1 0 V.c1, .slice V.A2 0 V.c2, .slice V.A3 n V.c3] := by
      unfold tabV newR
      simp only [List.length_nil, List.length_replicate]
    have e : tabV ⟨none, 0, none, 0, some ⟨X.heap.size, 0, none⟩, n⟩ (newR n) = #[.slice none 0 0, .slice none 0 0, .slice (some ⟨X.heap.size, 0, none⟩) n n] := by
      unfold tabV newR
      simp only [List.length_nil, List.length_replicate]
    have h := refSame16_any V ⟨none, 0, none, 0, some ⟨X.heap.size, 0, none⟩, n⟩ (newR n) _ ((ht.below hbb).more hbb.size) ⟨TensAt.nil _ _ _, VolsAt.nil _ _ _, (Ints.new X 3 .i64 (List.replicate n 0) Z hZl).more (by simp), Nat.le_refl _, Nat.le_refl _, by show (List.replicate n (0 : Int)).length ≤ n; rw [List.length_replicate]; exact Nat.le_refl _⟩ (by show (0 : Nat) ≤ _; omega) (by show (0 : Nat) ≤ _; omega) (by show (List.replicate n (0 : Int)).length ≤ _; rw [List.length_replicate]; omega)
    rw [e, e1] at h
    exact h.mono fun e w' ⟨q1, q2⟩ => ⟨q1, hba.trans (q2.mono hba.size)⟩
  clear HS hZl hZ
  have k1 : ¬ ((n : Int) < 1) := by omega
  have k2 : ¬ ((n : Int) > 64) := by omega
  go_enter Try.func4, Try.ntmps4
  go_wp2_with (first
    | (go_at_call 15; with_reducible (refine Calls.mono H1.out ?_); rintro e w1 ⟨V1, rfl, ht1, hf1, hb1⟩)
    | (have hguard := HNEW; clear hguard; refine wpList_store_fresh rfl 26 _ _ rfl w1.heap.size (tabV V1 (newR n)) rfl rfl 26 _ (HNEW.out w1) (HI.out _ _) (HSZ.out _ _) (tabV_one _ _) (HAL.out w1) (Nat.le_refl _) ?_; intro W2 hW2 hbW2 hkW hsW
       have hx2 := hb1.trans (hbW2.mono hb1.size)
       have ht2 := (ht1.below hbW2).more hbW2.size
       have HQ := Lib.hid (Array.getElem?_eq_some_iff.1 hW2).1
       have HC : Hid (∀ X : World, Below W2.heap.size W2 X → X.cell? ⟨w1.heap.size, 0, none⟩ = some (.slice V1.A1 0 V1.c1) ∧ X.cell? ⟨w1.heap.size, 1, none⟩ = some (.slice V1.A2 0 V1.c2) ∧ X.cell? ⟨w1.heap.size, 2, none⟩ = some (.slice V1.A3 n V1.c3)) := (fun X hb => (cells_newR V1 n ((hb.block _ (Array.getElem?_eq_some_iff.1 hW2).1).trans hW2)))
       clear hkW hsW hW2 HNEW hf1 ht1))
  have hbx : Below W2.heap.size W2 W2.drew := (Below.refl _ _).drew
  go_region_held3 (fun W => W.cell? ⟨w1.heap.size, 0, none⟩ = some (.slice V1.A1 0 V1.c1) ∧ W.cell? ⟨w1.heap.size, 1, none⟩ = some (.slice V1.A2 0 V1.c2) ∧ W.cell? ⟨w1.heap.size, 2, none⟩ = some (.slice V1.A3 n V1.c3))
    (first
      | exact HC.out _ hbx
      | exact HC.out _ (hbx.alloc hbx.size _))
    (first
      | (go_at_call 11; with_reducible (refine Calls.mono (HA.out _ (hx2.trans (hbx.mono hx2.size))) ?_); rintro e w3 ⟨rfl, hb3⟩; have hbx : Below W2.heap.size W2 w3 := hbx.trans (hb3.mono hbx.size))
      | (go_at_call 16; with_reducible (refine Calls.mono (HSM.out _ _ _ ht2 hbx) ?_); rintro e w4 ⟨rfl, hb4⟩; have hbx : Below W2.heap.size W2 w4 := hbx.trans (hb4.mono hbx.size))
      | fail)
  all_goals (go_wp2; go_ret; exact ⟨rfl, hx2.trans (hbx.mono hx2.size)⟩)

/-- TableNews. -/
theorem tableNews_go (n : Int) (w : World) (HS : TableSpec w) (hn : I64n n) :
    Calls Try.prog 4 #[.int .i64 n] w fun e w' => e = .returned (.bool true) ∧ Below w.heap.size w w' := by
  by_cases h : inR n 1 64
  · obtain ⟨m, rfl⟩ : ∃ m : Nat, n = (m : Int) := ⟨n.toNat, by unfold inR at h; omega⟩
    exact tableNews_yes m w HS (by unfold inR at h; omega) (by unfold inR at h; omega)
  · exact tableNews_no n w HS hn h

end Go.Proofs.Ytnenpafofplbhaa
