/-
  The landed line: read. The landed line: Decode. The document's own Decode (stowageref15), of 64 bytes.
-/
import Derived.Test.YtbnhkplhmanmoaaGreatPJoinG
import Derived.Test.YtbnhkplhmanmoaaGreatPSplitG
import Derived.Test.YtbnhkplhmanmoaaGreatEncRowG
import Derived.Test.YtbnhkplhmanmoaaGreatDiskCDG
namespace Go.Proofs.YtbnhkplhmanmoaaGreat
open Go.RowKit

def partL (zs : List Int) : List Int := [valOf (sub zs 0 2), valOf (sub zs 2 6), valOf (sub zs 6 10), valOf (sub zs 10 11), valOf (sub zs 11 12), valOf (sub zs 12 19), valOf (sub zs 19 26), valOf (sub zs 26 33), valOf (sub zs 33 40), valOf (sub zs 40 41)]
theorem parts_line (zs : List Int) : partsOf (zs.take 41) szL = partL zs := by
  simp [partsOf, szL, partL, sub, List.drop_take, List.take_take]
theorem valOf_one (x : Int) : valOf [x] = x := by simp [valOf]
theorem sub_single {zs : List Int} {i : Nat} (h : i < zs.length) : sub zs i (i + 1) = [zs.getD i 0] := by
  unfold sub
  rw [show i + 1 - i = 1 by omega, List.drop_eq_getElem_cons h, List.getD_eq_getElem?_getD, List.getElem?_eq_getElem h]
  rfl
theorem partL_len (zs : List Int) : (partL zs).length = 10 := rfl
theorem valOf_sub {zs : List Int} (hz : ∀ z ∈ zs, 0 ≤ z ∧ z ≤ 255) (i j : Nat) (h : j - i ≤ 7) : 0 ≤ valOf (sub zs i j) ∧ valOf (sub zs i j) ≤ 9223372036854775807 := by
  have h1 := valOf_bd (sub zs i j) fun z hz' => hz z (List.mem_of_mem_drop (List.mem_of_mem_take hz'))
  have hl : (sub zs i j).length ≤ 7 := by unfold sub; rw [List.length_take]; omega
  have := pow_le7 _ hl
  omega
theorem sizes_row (w : World) : Calls Tryz.prog 115 #[] w fun e w' => ∃ g, e = .returned (.slice (some ⟨g, 0, none⟩) 10 10) ∧ IRow 3 g szL w' ∧ Below w.heap.size w w' :=
  (sizes_any w).mono fun e w' ⟨h1, h2⟩ => ⟨w.heap.size, h1, by rw [h2]; exact IRow.new w 3 szL, by rw [h2]; exact (Below.refl _ _).alloc (Nat.le_refl _) _⟩

theorem ints_setc {w : World} {B g g' o i : Nat} {k : IntKind} {zs : List Int} (h : Ints w B k (some ⟨g, o, none⟩) zs) (hne : g ≠ g') (v : Value) (hB : B ≤ w.heap.size) : Ints (w.setCell ⟨g', i, none⟩ v) (w.setCell ⟨g', i, none⟩ v).heap.size k (some ⟨g, o, none⟩) zs := fun j hj => by
  obtain ⟨b, off, e, hlt, hc⟩ := h j hj
  refine ⟨b, off, e, by simp [World.setCell]; omega, ?_⟩
  injection e with e
  injection e with e1 e2
  subst e1
  rw [World.cell?_of_block (w := w) (Below.heap_setCell _ _ _ _ hne)]
  exact hc
theorem setc_rowL (w : World) (g i : Nat) (v : Value) (C : Array Value) (t : TypeId) (h : w.heap[g]? = some (.cells C t (0, 0))) : (w.setCell ⟨g, i, none⟩ v).heap[g]? = some (.cells (C.setIfInBounds i v) t (0, 0)) := by
  simp [World.setCell, Array.getElem?_modify, h]

set_option maxHeartbeats 3200000 in
set_option maxRecDepth 20000 in
/-- 'read', of 64 bytes. -/
theorem read_any (b o c : Nat) (zs : List Int) (w : World) (h : Ints w w.heap.size .u8 (some ⟨b, o, none⟩) zs) (hz : ∀ z ∈ zs, 0 ≤ z ∧ z ≤ 255) (hl : zs.length = 64) (hc : 64 ≤ c) :
    Calls Tryz.prog 122 #[.slice (some ⟨b, o, none⟩) 64 c] w fun e w' => e = .returned (.agg (lnV (parseL zs))) ∧ Below w.heap.size w w' := by
  have HI := Lib.hid h
  have HSI := Lib.hid (fun W => sizes_row W)
  have HSP : Hid (∀ (W : World) g, Below w.heap.size w W → IRow 3 g szL W → Calls Tryz.prog 145 #[.slice (some ⟨b, o, none⟩) 41 c, .slice (some ⟨g, 0, none⟩) 10 10] W fun e w' => ∃ c, e = .returned (.tuple #[.slice (some ⟨W.heap.size, 0, none⟩) 10 c, .int .i64 0]) ∧ Ints w' w'.heap.size .u64 (some ⟨W.heap.size, 0, none⟩) (partL zs) ∧ Below W.heap.size W w') := fun W g hb hr => by
    have hi := ((h.below hb).more hb.size).take 41
    have hl41 : (zs.take 41).length = 41 := by rw [List.length_take]; omega
    have := split_new (some ⟨g, 0, none⟩) (some ⟨b, o, none⟩) 10 c szL (zs.take 41) W hr.ints hi (by rw [hl41]; omega) (fun z hz' => hz z (List.mem_of_mem_take hz')) (by decide) (by rw [hl41]; decide)
    rw [hl41, parts_line] at this
    exact this.mono fun e w' ⟨c, q1, _, q3, q4⟩ => ⟨c, q1, q3, q4⟩
  have hbz : Below w.heap.size w (w.alloc (.cells zeroV 135)) := (Below.refl _ _).alloc (Nat.le_refl _) _
  have hc41 : (41 : Int) ≤ (c : Int) := by omega
  obtain ⟨P, hP⟩ : ∃ P, P = lnV (parseL zs) := ⟨_, rfl⟩
  have HPP := Lib.hid hP
  rw [← hP]
  clear hP
  have hs0 : w.heap.size + 1 ≤ (w.alloc (.cells zeroV 135)).heap.size := by simp
  have hb0 : Below (w.heap.size + 1) (w.alloc (.cells zeroV 135)) (w.alloc (.cells zeroV 135)).drew := (Below.refl _ _).drew
  have hb2 : Below (w.heap.size + 1) (w.alloc (.cells zeroV 135)) ((w.alloc (.cells zeroV 135)).alloc (.cells #[.slice none 0 0] 159)).drew := ((Below.refl _ _).alloc hs0 _).drew
  have HQ0 : Hid (((w.alloc (.cells zeroV 135)).alloc (.cells #[.slice none 0 0] 159)).drew.heap[w.heap.size + 1]? = some (.cells #[.slice none 0 0] 159 (0, 0))) := by
    have := heap_alloc_new (w.alloc (.cells zeroV 135)) (.cells #[.slice none 0 0] 159)
    rwa [show (w.alloc (.cells zeroV 135)).heap.size = w.heap.size + 1 by simp] at this
  have hs1 : w.heap.size + 1 < ((w.alloc (.cells zeroV 135)).alloc (.cells #[.slice none 0 0] 159)).drew.heap.size := (Array.getElem?_eq_some_iff.1 HQ0.out).1
  unfold zeroV at hbz hs0 hb0 hs1 hb2 HQ0
  clear h
  go_enter Tryz.func122, Tryz.ntmps122
  go_wp2
  go_cut [3, 4] (fun v3 v4 wq => ∃ q A c', v3 = .pointer (some ⟨q, 0, none⟩) ∧ v4 = .int .i64 0 ∧ Hid (wq.heap[q]? = some (.cells #[.slice A 10 c'] 159 (0, 0)) ∧ Ints wq wq.heap.size .u64 A (partL zs) ∧ w.heap.size + 1 ≤ q ∧ Below (w.heap.size + 1) (w.alloc (.cells zeroV 135)) wq))
  case first =>
    go_region_with (first
      | (go_at_call 115; with_reducible (refine Calls.mono (HSI.out _) ?_); rintro e w1 ⟨g1, rfl, hr1, hb1⟩; have q := hb1.mono (Nat.le_of_lt hs1); have x1 := hb2.trans q; have hq1 := (hb1.block _ hs1).trans HQ0.out; have z1 := hbz.trans (x1.mono (Nat.le_succ _)); have l1 := hr1.lt; clear q)
      | (go_at_call 115; with_reducible (refine Calls.mono (HSI.out _) ?_); rintro e w1 ⟨g1, rfl, hr1, hb1⟩; have q := hb1.mono hs0; have x1 := hb0.trans q; have z1 := hbz.trans (x1.mono (Nat.le_succ _)); have l1 := hr1.lt; clear q)
      | (have hguard := hq1; clear hguard; go_at_call 145; with_reducible (refine Calls.mono (HSP.out w1 g1 z1 hr1) ?_); rintro e w2 ⟨c2, rfl, hi2, hb3⟩; have x2 := x1.trans (hb3.mono (Nat.le_trans hs0 x1.size)); have hq2 := (hb3.block _ (Nat.lt_of_lt_of_le hs1 (Nat.le_trans (Nat.le_of_eq rfl) hb1.size))).trans hq1; have hcq := cell_of_row _ _ 0 _ _ _ hq2; have hfq := frozen_of_row _ _ 0 _ _ hq2)
      | (go_at_call 145; with_reducible (refine Calls.mono (HSP.out w1 g1 z1 hr1) ?_); rintro e w2 ⟨c2, rfl, hi2, hb3⟩; have x2 := x1.trans (hb3.mono (Nat.le_trans hs0 x1.size)))
      | (go_at_call 145; with_reducible (refine Calls.mono (HSP.out (w1.alloc _) g1 (z1.alloc z1.size _) (hr1.below ((Below.refl _ _).alloc (Nat.le_refl _) _) l1)) ?_); rintro e w2 ⟨c2, rfl, hi2, hb3⟩; have x2 := (x1.alloc (Nat.le_trans hs0 x1.size) _).trans (hb3.mono (Nat.le_trans (Nat.le_trans hs0 x1.size) (by simp))); have hq2 := (hb3.block w1.heap.size (by simp)).trans (heap_alloc_new w1 (.cells #[.slice none 0 0] 159)); have hcq := cell_of_row _ _ 0 _ _ _ hq2; have hfq := frozen_of_row _ _ 0 _ _ hq2)
      | fail)
    all_goals
      go_wp2
      go_meet
    · refine ⟨_, some ⟨w1.heap.size, 0, none⟩, c2, rfl, rfl, ?_⟩
      exact ⟨heap_alloc_new _ _, (hi2.below ((Below.refl _ _).alloc (Nat.le_refl _) _)).more (by simp), Nat.le_trans hs0 x2.size, x2.alloc (Nat.le_trans hs0 x2.size) _⟩
    · refine ⟨_, some ⟨w1.heap.size + 1, 0, none⟩, c2, rfl, rfl, ?_⟩
      refine ⟨setc_rowL _ _ _ _ _ _ hq2, ints_setc (by rw [show (w1.alloc (.cells #[.slice none 0 0] 159)).heap.size = w1.heap.size + 1 by simp] at hi2; exact hi2) (Nat.succ_ne_self _) _ (Nat.le_refl _), Nat.le_trans hs0 x1.size, x2.setCell (p := ⟨w1.heap.size, 0, none⟩) (Nat.le_trans hs0 x1.size) _⟩
    · refine ⟨_, some ⟨w1.heap.size, 0, none⟩, c2, rfl, rfl, ?_⟩
      refine ⟨setc_rowL _ _ _ _ _ _ hq2, ints_setc hi2 (by have := hb1.size; omega) _ (Nat.le_refl _), Nat.le_refl _, x2.setCell (p := ⟨w.heap.size + 1, 0, none⟩) (Nat.le_refl _) _⟩
  case rest =>
    obtain ⟨q, A, c', rfl, rfl, hS⟩ := hcut
    obtain ⟨hq, hia, hq1, hbl⟩ := hS.out
    have hbd : ∀ k, k < 10 → 0 ≤ (partL zs).getD k 0 ∧ (partL zs).getD k 0 ≤ 9223372036854775807 := fun k hk => by
      match k, hk with
      | 0, _ => exact valOf_sub hz 0 2 (by decide)
      | 1, _ => exact valOf_sub hz 2 6 (by decide)
      | 2, _ => exact valOf_sub hz 6 10 (by decide)
      | 3, _ => exact valOf_sub hz 10 11 (by decide)
      | 4, _ => exact valOf_sub hz 11 12 (by decide)
      | 5, _ => exact valOf_sub hz 12 19 (by decide)
      | 6, _ => exact valOf_sub hz 19 26 (by decide)
      | 7, _ => exact valOf_sub hz 26 33 (by decide)
      | 8, _ => exact valOf_sub hz 33 40 (by decide)
      | 9, _ => exact valOf_sub hz 40 41 (by decide)
    have P1 : Hid (Calls Tryz.prog 146 #[.int .i64 1, .pointer (some ⟨q, 0, none⟩)] wc fun e w' => e = .returned (.int .i64 ((partL zs).getD 1 0)) ∧ w' = wc) := nth_any q A c' (partL zs) 1 wc hq hia (by rw [partL_len]; decide) (by decide) (hbd 1 (by decide))
    have P2 : Hid (Calls Tryz.prog 146 #[.int .i64 2, .pointer (some ⟨q, 0, none⟩)] wc fun e w' => e = .returned (.int .i64 ((partL zs).getD 2 0)) ∧ w' = wc) := nth_any q A c' (partL zs) 2 wc hq hia (by rw [partL_len]; decide) (by decide) (hbd 2 (by decide))
    have P3 : Hid (Calls Tryz.prog 146 #[.int .i64 3, .pointer (some ⟨q, 0, none⟩)] wc fun e w' => e = .returned (.int .i64 ((partL zs).getD 3 0)) ∧ w' = wc) := nth_any q A c' (partL zs) 3 wc hq hia (by rw [partL_len]; decide) (by decide) (hbd 3 (by decide))
    have P4 : Hid (Calls Tryz.prog 146 #[.int .i64 4, .pointer (some ⟨q, 0, none⟩)] wc fun e w' => e = .returned (.int .i64 ((partL zs).getD 4 0)) ∧ w' = wc) := nth_any q A c' (partL zs) 4 wc hq hia (by rw [partL_len]; decide) (by decide) (hbd 4 (by decide))
    have P5 : Hid (Calls Tryz.prog 146 #[.int .i64 5, .pointer (some ⟨q, 0, none⟩)] wc fun e w' => e = .returned (.int .i64 ((partL zs).getD 5 0)) ∧ w' = wc) := nth_any q A c' (partL zs) 5 wc hq hia (by rw [partL_len]; decide) (by decide) (hbd 5 (by decide))
    have P6 : Hid (Calls Tryz.prog 146 #[.int .i64 6, .pointer (some ⟨q, 0, none⟩)] wc fun e w' => e = .returned (.int .i64 ((partL zs).getD 6 0)) ∧ w' = wc) := nth_any q A c' (partL zs) 6 wc hq hia (by rw [partL_len]; decide) (by decide) (hbd 6 (by decide))
    have P7 : Hid (Calls Tryz.prog 146 #[.int .i64 7, .pointer (some ⟨q, 0, none⟩)] wc fun e w' => e = .returned (.int .i64 ((partL zs).getD 7 0)) ∧ w' = wc) := nth_any q A c' (partL zs) 7 wc hq hia (by rw [partL_len]; decide) (by decide) (hbd 7 (by decide))
    have P8 : Hid (Calls Tryz.prog 146 #[.int .i64 8, .pointer (some ⟨q, 0, none⟩)] wc fun e w' => e = .returned (.int .i64 ((partL zs).getD 8 0)) ∧ w' = wc) := nth_any q A c' (partL zs) 8 wc hq hia (by rw [partL_len]; decide) (by decide) (hbd 8 (by decide))
    have hqlt : q < wc.heap.size := (Array.getElem?_eq_some_iff.1 hq).1
    have P9 : Hid (∀ u, Calls Tryz.prog 146 #[.int .i64 9, .pointer (some ⟨q, 0, none⟩)] (wc.alloc (.cells u 135)) fun e w' => e = .returned (.int .i64 ((partL zs).getD 9 0)) ∧ w' = wc.alloc (.cells u 135)) := fun u => nth_any q A c' (partL zs) 9 (wc.alloc (.cells u 135)) (by rw [Below.heap_alloc _ _ _ hqlt]; exact hq) ((hia.alloc (Nat.le_refl _) _).more (by simp)) (by rw [partL_len]; decide) (by decide) (hbd 9 (by decide))
    have hx10 : valOf (sub zs 10 11) = zs.getD 10 0 := by rw [sub_single (by omega), valOf_one]
    have hx40 : valOf (sub zs 40 41) = zs.getD 40 0 := by rw [sub_single (by omega), valOf_one]
    obtain ⟨V1, hV1⟩ : ∃ V, V = valOf (sub zs 2 6) := ⟨_, rfl⟩
    rw [show (partL zs).getD 1 0 = valOf (sub zs 2 6) from rfl, ← hV1] at P1
    obtain ⟨V2, hV2⟩ : ∃ V, V = valOf (sub zs 6 10) := ⟨_, rfl⟩
    rw [show (partL zs).getD 2 0 = valOf (sub zs 6 10) from rfl, ← hV2] at P2
    obtain ⟨V3, hV3⟩ : ∃ V, V = valOf (sub zs 10 11) := ⟨_, rfl⟩
    rw [show (partL zs).getD 3 0 = valOf (sub zs 10 11) from rfl, ← hV3] at P3
    obtain ⟨V4, hV4⟩ : ∃ V, V = valOf (sub zs 11 12) := ⟨_, rfl⟩
    rw [show (partL zs).getD 4 0 = valOf (sub zs 11 12) from rfl, ← hV4] at P4
    obtain ⟨V5, hV5⟩ : ∃ V, V = valOf (sub zs 12 19) := ⟨_, rfl⟩
    rw [show (partL zs).getD 5 0 = valOf (sub zs 12 19) from rfl, ← hV5] at P5
    obtain ⟨V6, hV6⟩ : ∃ V, V = valOf (sub zs 19 26) := ⟨_, rfl⟩
    rw [show (partL zs).getD 6 0 = valOf (sub zs 19 26) from rfl, ← hV6] at P6
    obtain ⟨V7, hV7⟩ : ∃ V, V = valOf (sub zs 26 33) := ⟨_, rfl⟩
    rw [show (partL zs).getD 7 0 = valOf (sub zs 26 33) from rfl, ← hV7] at P7
    obtain ⟨V8, hV8⟩ : ∃ V, V = valOf (sub zs 33 40) := ⟨_, rfl⟩
    rw [show (partL zs).getD 8 0 = valOf (sub zs 33 40) from rfl, ← hV8] at P8
    obtain ⟨V9, hV9⟩ : ∃ V, V = valOf (sub zs 40 41) := ⟨_, rfl⟩
    have e9 : (partL zs).getD 9 0 = V9 := hV9.symm
    simp only [e9] at P9
    have HP : Hid (lnV (parseL zs) = #[.int .i64 V1, .int .i64 V2, .bool (V3 == 1), .int .i64 V4, .int .i64 V5, .int .i64 V6, .int .i64 V7, .int .i64 V8, .string (if V9 = 16 then strOfNums (sub zs 41 57) else ⟨#[]⟩)]) := by
      have d1 : decide (zs.getD 10 0 = 1) = (zs.getD 10 0 == 1) := by rw [Bool.eq_iff_iff]; simp
      unfold Hid
      rw [hV1, hV2, hV3, hV4, hV5, hV6, hV7, hV8, hV9, hx10, hx40, ← d1]
      rfl
    have hr0 : wc.heap[w.heap.size]? = some (.cells zeroV 135 (0, 0)) := (hbl.block _ (Nat.lt_succ_self _)).trans (heap_alloc_new _ _)
    have hbw : Below w.heap.size w wc := ((Below.refl w.heap.size w).alloc (Nat.le_refl _) _).trans (hbl.mono (Nat.le_succ _))
    have hlt0 : w.heap.size < wc.heap.size := (Array.getElem?_eq_some_iff.1 hr0).1
    have hinf : (Tryz.prog.info? 135).map (·.size) = some (lnV (parseL zs)).size := Tryz.infoLine
    have hone := lnV_one (parseL zs)
    have hsz : Hid (zeroV.size = (lnV (parseL zs)).size) := rfl
    have HKEY : Hid (∀ W, Below w.heap.size w W → (convert 54 9 (.slice (some ⟨b, o + 41, none⟩) 16 (c - 41))).run Tryz.prog W = .ok (.string (strOfNums (sub zs 41 57))) W) := fun W hb => by
      have hi := (HI.out.cut (n := 41) (c := c) (by omega) (by omega)).take 16
      rw [if_neg (by omega)] at hi
      have e : (some (⟨b, o, none⟩ : Addr)).map (·.add 41) = some ⟨b, o + 41, none⟩ := by simp [Addr.add]
      rw [e] at hi
      exact (hi.below hb).textAs Tryz.underlying54 Tryz.underlying5 Tryz.underlying9 (by rw [List.length_take, List.length_drop]; omega) rfl _
    have hlq : (c : Int) - 41 = ((c - 41 : Nat) : Int) := by omega
    have c57 : (57 : Int) ≤ (c : Int) := by omega
    have e41 : ¬ c = 41 := by omega
    obtain ⟨kk, hkk⟩ : ∃ k, k = strOfNums (sub zs 41 57) := ⟨_, rfl⟩
    rw [← hkk] at HP HKEY
    rw [← HPP.out] at HP hinf hone hsz
    clear HI HSI HSP hz hl hc hbz hs0 hb0 hs1 hb2 HQ0 hS hq hia hq1 hbl hbd hx10 hx40 e9 hqlt hV1 hV2 hV3 hV4 hV5 hV6 hV7 hV8 hV9 hkk HPP
    by_cases h16 : V9 = 16
    · rw [if_pos h16] at HP
      subst h16
      have hcv : ∀ u, (convert 54 9 (.slice (some ⟨b, o + 41, none⟩) 16 (c - 41))).run Tryz.prog (wc.alloc (.cells u 135)) = .ok (.string kk) (wc.alloc (.cells u 135)) := fun u => HKEY.out _ (hbw.alloc hbw.size _)
      have HW : Hid (∀ u, (wc.alloc (.cells u 135)).heap[wc.heap.size]? = some (.cells u 135 (0, 0)) ∧ (wc.alloc (.cells u 135)).heap[w.heap.size]? = some (.cells zeroV 135 (0, 0)) ∧ Below w.heap.size w (wc.alloc (.cells u 135))) := fun u =>
        ⟨heap_alloc_new _ _, by rw [Below.heap_alloc _ _ _ hlt0]; exact hr0, hbw.alloc hbw.size _⟩
      go_wp2_with (first
        | (go_at_call_of 146 (Value.int .i64 1); with_reducible (refine Calls.mono P1.out ?_); rintro e wq ⟨rfl, hwq⟩; obtain rfl := hwq.symm)
        | (go_at_call_of 146 (Value.int .i64 2); with_reducible (refine Calls.mono P2.out ?_); rintro e wq ⟨rfl, hwq⟩; obtain rfl := hwq.symm)
        | (go_at_call_of 146 (Value.int .i64 3); with_reducible (refine Calls.mono P3.out ?_); rintro e wq ⟨rfl, hwq⟩; obtain rfl := hwq.symm)
        | (go_at_call_of 146 (Value.int .i64 4); with_reducible (refine Calls.mono P4.out ?_); rintro e wq ⟨rfl, hwq⟩; obtain rfl := hwq.symm)
        | (go_at_call_of 146 (Value.int .i64 5); with_reducible (refine Calls.mono P5.out ?_); rintro e wq ⟨rfl, hwq⟩; obtain rfl := hwq.symm)
        | (go_at_call_of 146 (Value.int .i64 6); with_reducible (refine Calls.mono P6.out ?_); rintro e wq ⟨rfl, hwq⟩; obtain rfl := hwq.symm)
        | (go_at_call_of 146 (Value.int .i64 7); with_reducible (refine Calls.mono P7.out ?_); rintro e wq ⟨rfl, hwq⟩; obtain rfl := hwq.symm)
        | (go_at_call_of 146 (Value.int .i64 8); with_reducible (refine Calls.mono P8.out ?_); rintro e wq ⟨rfl, hwq⟩; obtain rfl := hwq.symm)
        | (go_at_call_of 146 (Value.int .i64 9); with_reducible (refine Calls.mono (P9.out _) ?_); rintro e wq ⟨rfl, hwq⟩; obtain rfl := hwq.symm)
        | (rw [← HP.out]; refine wpList_load_row rfl 135 _ rfl wc.heap.size rfl 135 _ (0, 0) _ (HW.out P).1 Tryz.underlying135 rfl hinf ?_)
        | (refine wpList_store_fresh rfl 135 _ _ rfl w.heap.size P rfl rfl 135 _ (HW.out P).2.1 hinf hsz.out hone (HW.out P).2.2 (Nat.le_refl _) ?_; intro W hW hbW hkW hsW; clear hkW hsW))
      refine bodyPost_ret (v := .agg P) ?_ rfl ⟨rfl, hbW⟩
      exact results_cell_row rfl _ _ w.heap.size 135 _ (0, 0) _ rfl hW Tryz.underlying135 rfl hinf
    · rw [if_neg h16] at HP
      have hcb : (V9 == 16) = false := by rw [beq_eq_false_iff_ne]; exact h16
      have HW : Hid (∀ u, (wc.alloc (.cells u 135)).heap[wc.heap.size]? = some (.cells u 135 (0, 0)) ∧ (wc.alloc (.cells u 135)).heap[w.heap.size]? = some (.cells zeroV 135 (0, 0)) ∧ Below w.heap.size w (wc.alloc (.cells u 135))) := fun u =>
        ⟨heap_alloc_new _ _, by rw [Below.heap_alloc _ _ _ hlt0]; exact hr0, hbw.alloc hbw.size _⟩
      go_wp2_with (first
        | (go_at_call_of 146 (Value.int .i64 1); with_reducible (refine Calls.mono P1.out ?_); rintro e wq ⟨rfl, hwq⟩; obtain rfl := hwq.symm)
        | (go_at_call_of 146 (Value.int .i64 2); with_reducible (refine Calls.mono P2.out ?_); rintro e wq ⟨rfl, hwq⟩; obtain rfl := hwq.symm)
        | (go_at_call_of 146 (Value.int .i64 3); with_reducible (refine Calls.mono P3.out ?_); rintro e wq ⟨rfl, hwq⟩; obtain rfl := hwq.symm)
        | (go_at_call_of 146 (Value.int .i64 4); with_reducible (refine Calls.mono P4.out ?_); rintro e wq ⟨rfl, hwq⟩; obtain rfl := hwq.symm)
        | (go_at_call_of 146 (Value.int .i64 5); with_reducible (refine Calls.mono P5.out ?_); rintro e wq ⟨rfl, hwq⟩; obtain rfl := hwq.symm)
        | (go_at_call_of 146 (Value.int .i64 6); with_reducible (refine Calls.mono P6.out ?_); rintro e wq ⟨rfl, hwq⟩; obtain rfl := hwq.symm)
        | (go_at_call_of 146 (Value.int .i64 7); with_reducible (refine Calls.mono P7.out ?_); rintro e wq ⟨rfl, hwq⟩; obtain rfl := hwq.symm)
        | (go_at_call_of 146 (Value.int .i64 8); with_reducible (refine Calls.mono P8.out ?_); rintro e wq ⟨rfl, hwq⟩; obtain rfl := hwq.symm)
        | (go_at_call_of 146 (Value.int .i64 9); with_reducible (refine Calls.mono (P9.out _) ?_); rintro e wq ⟨rfl, hwq⟩; obtain rfl := hwq.symm)
        | (rw [← HP.out]; refine wpList_load_row rfl 135 _ rfl wc.heap.size rfl 135 _ (0, 0) _ (HW.out P).1 Tryz.underlying135 rfl hinf ?_)
        | (refine wpList_store_fresh rfl 135 _ _ rfl w.heap.size P rfl rfl 135 _ (HW.out P).2.1 hinf hsz.out hone (HW.out P).2.2 (Nat.le_refl _) ?_; intro W hW hbW hkW hsW; clear hkW hsW))
      refine bodyPost_ret (v := .agg P) ?_ rfl ⟨rfl, hbW⟩
      exact results_cell_row rfl _ _ w.heap.size 135 _ (0, 0) _ rfl hW Tryz.underlying135 rfl hinf

end Go.Proofs.YtbnhkplhmanmoaaGreat

namespace Go.Proofs.YtbnhkplhmanmoaaGreat
open Go.RowKit

set_option maxHeartbeats 800000 in
set_option maxRecDepth 20000 in
/-- 'Decode', of other than 64 bytes. -/
theorem decode_len (A : Option Addr) (c : Nat) (bs : List Int) (w : World) (hl : bs.length ≠ 64) :
    Calls Tryz.prog 86 #[.slice A bs.length c] w fun e w' => e = .returned (.tuple #[.agg (lnV zeroL), .int .i64 2]) ∧ Below w.heap.size w w' := by
  have hinf : (Tryz.prog.info? 135).map (·.size) = some zeroV.size := Tryz.infoLine
  have hone : zeroV.all (·.oneCell') = true := lnV_one zeroL
  have HW : Hid ((w.alloc (.cells zeroV 135)).heap[w.heap.size]? = some (.cells zeroV 135 (0, 0)) ∧ Below w.heap.size w (w.alloc (.cells zeroV 135))) := ⟨heap_alloc_new _ _, (Below.refl _ _).alloc (Nat.le_refl _) _⟩
  have e1 : ((bs.length : Int) != 64) = true := by rw [bne_iff_ne]; omega
  obtain ⟨N, hN⟩ : ∃ N, N = bs.length := ⟨_, rfl⟩
  rw [← hN] at e1 ⊢
  clear hN hl
  go_enter Tryz.func86, Tryz.ntmps86
  go_wp2_with (refine wpList_store_fresh rfl 135 _ _ rfl w.heap.size zeroV rfl rfl 135 _ HW.out.1 hinf rfl hone HW.out.2 (Nat.le_refl _) ?_; intro W hW hbW hkW hsW; clear hkW hsW)
  exact bodyPost_ret (results_row_tmpL rfl _ _ w.heap.size _ _ _ _ rfl hW Tryz.underlying135 rfl hinf) rfl ⟨rfl, hbW⟩

set_option maxHeartbeats 1600000 in
set_option maxRecDepth 20000 in
/-- 'Decode', of 64 bytes. -/
theorem decode_64 (b o c : Nat) (bs : List Int) (w : World) (h : Ints w w.heap.size .u8 (some ⟨b, o, none⟩) bs) (hz : ∀ z ∈ bs, 0 ≤ z ∧ z ≤ 255) (hl : bs.length = 64) (hc : 64 ≤ c) :
    Calls Tryz.prog 86 #[.slice (some ⟨b, o, none⟩) 64 c] w fun e w' => e = .returned (.tuple #[.agg (lnV (decR bs).2), .int .i64 (decR bs).1]) ∧ Below w.heap.size w w' := by
  have HDR : decR bs = if encE (parseL bs) = 0 ∧ encB (parseL bs) = bs then (0, parseL bs) else (2, zeroL) := by
    unfold decR
    by_cases q : encE (parseL bs) = 0 ∧ encB (parseL bs) = bs
    · rw [if_pos q, if_pos ⟨hl, q⟩]
    · rw [if_neg q, if_neg (fun h => q h.2)]
  have HRD : Hid (∀ W, Below w.heap.size w W → Calls Tryz.prog 122 #[.slice (some ⟨b, o, none⟩) 64 c] W fun e w' => e = .returned (.agg (lnV (parseL bs))) ∧ Below W.heap.size W w') := fun W hb => read_any b o c bs W ((h.below hb).more hb.size) hz hl hc
  have hinf0 : (Tryz.prog.info? 135).map (·.size) = some zeroV.size := Tryz.infoLine
  have hone0 : zeroV.all (·.oneCell') = true := lnV_one zeroL
  have hinf : (Tryz.prog.info? 135).map (·.size) = some (lnV (parseL bs)).size := Tryz.infoLine
  have hone := lnV_one (parseL bs)
  have hsz : Hid (zeroV.size = (lnV (parseL bs)).size) := rfl
  have hb0 : Below w.heap.size w (w.alloc (.cells zeroV 135)) := (Below.refl _ _).alloc (Nat.le_refl _) _
  have HQ0 : Hid ((w.alloc (.cells zeroV 135)).heap[w.heap.size]? = some (.cells zeroV 135 (0, 0)) ∧ w.heap.size < (w.alloc (.cells zeroV 135)).heap.size) := ⟨heap_alloc_new _ _, by simp⟩
  have HNW : Hid (∀ W : World, (W.alloc (.cells zeroV 135)).heap[W.heap.size]? = some (.cells zeroV 135 (0, 0)) ∧ Below W.heap.size W (W.alloc (.cells zeroV 135))) := fun W => ⟨heap_alloc_new _ _, (Below.refl _ _).alloc (Nat.le_refl _) _⟩
  have HEQ : Hid (encE (parseL bs) = 0 → ∀ (W : World) A' c', Below w.heap.size w W → Ints W W.heap.size .u8 A' (encB (parseL bs)) → Calls Tryz.prog 123 #[.slice A' 64 c', .slice (some ⟨b, o, none⟩) 64 c] W fun e w' => e = .returned (.bool (decide (encB (parseL bs) = bs))) ∧ w' = W) := fun hE W A' c' hb hi => by
    have := equalB_any A' (some ⟨b, o, none⟩) c' c (encB (parseL bs)) bs W hi ((h.below hb).more hb.size) (encB_mem _) hz
    rw [encB_len hE, hl] at this
    exact this
  have HEY := Lib.hid (fun W => encode_yes (parseL bs) W)
  have HEN := Lib.hid (fun W => encode_no (parseL bs) W)
  obtain ⟨P, hP⟩ : ∃ P, P = parseL bs := ⟨_, rfl⟩
  simp only [← hP] at HDR HRD hinf hone hsz HEQ HEY HEN
  obtain ⟨L, hL⟩ : ∃ L, L = lnV P := ⟨_, rfl⟩
  simp only [← hL] at HRD hinf hone hsz HEY HEN
  have HLL := Lib.hid hL
  unfold zeroV at hb0 HQ0 HNW
  clear h hP hL
  by_cases hE : encE P = 0
  · replace HEY := Lib.hid (fun W => HEY.out W hE)
    replace HEQ := Lib.hid (HEQ.out hE)
    by_cases hq : encB P = bs
    · rw [decide_eq_true hq] at HEQ
      rw [HDR, if_pos ⟨hE, hq⟩]
      simp only []
      rw [← HLL.out]
      obtain ⟨E, hEE⟩ : ∃ E, E = encB P := ⟨_, rfl⟩
      simp only [← hEE] at HEY HEQ
      clear HEN HDR hE hq hEE HLL
      go_enter Tryz.func86, Tryz.ntmps86
      go_wp2_with (first
        | (go_at_call 122; with_reducible (refine Calls.mono (HRD.out _ hb0) ?_); rintro e w1 ⟨rfl, hb1⟩; have x1 := hb0.trans (hb1.mono hb0.size); have q1 := (hb1.block _ HQ0.out.2).trans HQ0.out.1; have s1 := (Array.getElem?_eq_some_iff.1 q1).1; have hq1 := Lib.hid q1; clear q1)
        | (refine wpList_store_fresh rfl 135 _ _ rfl w1.heap.size L rfl rfl 135 _ (HNW.out w1).1 hinf hsz.out hone (HNW.out w1).2 (Nat.le_refl _) ?_; intro W2 hW2 hbW2 hkW hsW; have x2 := x1.trans (hbW2.mono x1.size); have hq2 := Lib.hid ((hbW2.block _ s1).trans hq1.out); have s2 := (Array.getElem?_eq_some_iff.1 hW2).1; have hr2 := Lib.hid hW2; clear hkW hsW hW2)
        | (refine wpList_load_row rfl 135 _ rfl w1.heap.size rfl 135 _ (0, 0) _ hr2.out Tryz.underlying135 rfl hinf ?_)
        | (go_at_call 80; with_reducible (refine Calls.mono (HEY.out _) ?_); rintro e w3 ⟨A3, c3, rfl, _, _, hg3, hb3⟩; have x3 := x2.trans (hb3.mono x2.size); have hq3 := Lib.hid ((hb3.block _ (Nat.lt_of_lt_of_le s1 hbW2.size)).trans hq2.out); have hr3 := Lib.hid ((hb3.block _ s2).trans hr2.out); have hi3 := hg3.ints; clear hg3)
        | (go_at_call 123; with_reducible (refine Calls.mono (HEQ.out _ _ _ x3 hi3) ?_); rintro e w4 ⟨rfl, hw4⟩; obtain rfl := hw4.symm)
        | (have hguard := hr3; clear hguard; refine wpList_load_row rfl 135 _ rfl w1.heap.size rfl 135 _ (0, 0) _ hr3.out Tryz.underlying135 rfl hinf ?_)
        | (have hguard := hr3; clear hguard; refine wpList_store_fresh rfl 135 _ _ rfl w.heap.size L rfl rfl 135 _ hq3.out hinf hsz.out hone x3 (Nat.le_refl _) ?_; intro W hW hbW hkW hsW; clear hkW hsW))
      exact bodyPost_ret (results_row_tmpL rfl _ _ w.heap.size _ _ _ _ rfl hW Tryz.underlying135 rfl hinf) rfl ⟨rfl, hbW⟩
    · rw [decide_eq_false hq] at HEQ
      rw [HDR, if_neg (fun h => hq h.2)]
      simp only []
      obtain ⟨E, hEE⟩ : ∃ E, E = encB P := ⟨_, rfl⟩
      simp only [← hEE] at HEY HEQ
      clear HEN HDR hE hq hEE HLL
      go_enter Tryz.func86, Tryz.ntmps86
      go_wp2_with (first
        | (go_at_call 122; with_reducible (refine Calls.mono (HRD.out _ hb0) ?_); rintro e w1 ⟨rfl, hb1⟩; have x1 := hb0.trans (hb1.mono hb0.size); have q1 := (hb1.block _ HQ0.out.2).trans HQ0.out.1; have s1 := (Array.getElem?_eq_some_iff.1 q1).1; have hq1 := Lib.hid q1; clear q1)
        | (refine wpList_store_fresh rfl 135 _ _ rfl w1.heap.size L rfl rfl 135 _ (HNW.out w1).1 hinf hsz.out hone (HNW.out w1).2 (Nat.le_refl _) ?_; intro W2 hW2 hbW2 hkW hsW; have x2 := x1.trans (hbW2.mono x1.size); have hq2 := Lib.hid ((hbW2.block _ s1).trans hq1.out); have s2 := (Array.getElem?_eq_some_iff.1 hW2).1; have hr2 := Lib.hid hW2; clear hkW hsW hW2)
        | (refine wpList_load_row rfl 135 _ rfl w1.heap.size rfl 135 _ (0, 0) _ hr2.out Tryz.underlying135 rfl hinf ?_)
        | (go_at_call 80; with_reducible (refine Calls.mono (HEY.out _) ?_); rintro e w3 ⟨A3, c3, rfl, _, _, hg3, hb3⟩; have x3 := x2.trans (hb3.mono x2.size); have hq3 := Lib.hid ((hb3.block _ (Nat.lt_of_lt_of_le s1 hbW2.size)).trans hq2.out); have hr3 := Lib.hid ((hb3.block _ s2).trans hr2.out); have hi3 := hg3.ints; clear hg3)
        | (go_at_call 123; with_reducible (refine Calls.mono (HEQ.out _ _ _ x3 hi3) ?_); rintro e w4 ⟨rfl, hw4⟩; obtain rfl := hw4.symm)
        | (have hguard := hr3; clear hguard; refine wpList_store_fresh rfl 135 _ _ rfl w.heap.size zeroV rfl rfl 135 _ hq3.out hinf0 rfl hone0 x3 (Nat.le_refl _) ?_; intro W hW hbW hkW hsW; clear hkW hsW))
      exact bodyPost_ret (results_row_tmpL rfl _ _ w.heap.size _ _ _ _ rfl hW Tryz.underlying135 rfl hinf0) rfl ⟨rfl, hbW⟩
  · replace HEN := Lib.hid (fun W => HEN.out W hE)
    rw [HDR, if_neg (fun h => hE h.1)]
    simp only []
    obtain ⟨E, hEE⟩ : ∃ E, E = encE P := ⟨_, rfl⟩
    rw [← hEE] at hE
    simp only [← hEE] at HEN
    have e1 : (E != 0) = true := by rw [bne_iff_ne]; exact hE
    clear HEY HEQ HDR hE hEE HLL
    go_enter Tryz.func86, Tryz.ntmps86
    go_wp2_with (first
      | (go_at_call 122; with_reducible (refine Calls.mono (HRD.out _ hb0) ?_); rintro e w1 ⟨rfl, hb1⟩; have x1 := hb0.trans (hb1.mono hb0.size); have q1 := (hb1.block _ HQ0.out.2).trans HQ0.out.1; have s1 := (Array.getElem?_eq_some_iff.1 q1).1; have hq1 := Lib.hid q1; clear q1)
      | (refine wpList_store_fresh rfl 135 _ _ rfl w1.heap.size L rfl rfl 135 _ (HNW.out w1).1 hinf hsz.out hone (HNW.out w1).2 (Nat.le_refl _) ?_; intro W2 hW2 hbW2 hkW hsW; have x2 := x1.trans (hbW2.mono x1.size); have hq2 := Lib.hid ((hbW2.block _ s1).trans hq1.out); have s2 := (Array.getElem?_eq_some_iff.1 hW2).1; have hr2 := Lib.hid hW2; clear hkW hsW hW2)
      | (refine wpList_load_row rfl 135 _ rfl w1.heap.size rfl 135 _ (0, 0) _ hr2.out Tryz.underlying135 rfl hinf ?_)
      | (go_at_call 80; with_reducible (refine Calls.mono (HEN.out _) ?_); rintro e w3 ⟨A3, c3, rfl, hb3⟩; have x3 := x2.trans (hb3.mono x2.size); have hq3 := Lib.hid ((hb3.block _ (Nat.lt_of_lt_of_le s1 hbW2.size)).trans hq2.out))
      | (have hguard := hq3; clear hguard; refine wpList_store_fresh rfl 135 _ _ rfl w.heap.size zeroV rfl rfl 135 _ hq3.out hinf0 rfl hone0 x3 (Nat.le_refl _) ?_; intro W hW hbW hkW hsW; clear hkW hsW))
    exact bodyPost_ret (results_row_tmpL rfl _ _ w.heap.size _ _ _ _ rfl hW Tryz.underlying135 rfl hinf0) rfl ⟨rfl, hbW⟩

/-- 'Decode'. -/
theorem decode_any (A : Option Addr) (c : Nat) (bs : List Int) (w : World) (h : Ints w w.heap.size .u8 A bs) (hz : ∀ z ∈ bs, 0 ≤ z ∧ z ≤ 255) (hc : bs.length ≤ c) :
    Calls Tryz.prog 86 #[.slice A bs.length c] w fun e w' => e = .returned (.tuple #[.agg (lnV (decR bs).2), .int .i64 (decR bs).1]) ∧ Below w.heap.size w w' := by
  by_cases hl : bs.length = 64
  · obtain ⟨b, o, rfl, _⟩ := h.at_ (by omega)
    rw [hl]
    exact decode_64 b o c bs w h hz hl (by omega)
  · have e : decR bs = (2, zeroL) := by unfold decR; rw [if_neg (fun q => hl q.1)]
    rw [e]
    exact decode_len A c bs w hl

end Go.Proofs.YtbnhkplhmanmoaaGreat

namespace Go.Proofs.YtbnhkplhmanmoaaGreat
open Go.RowKit

theorem textI_apart {x y : List Int} (hx : ∀ z ∈ x, 0 ≤ z ∧ z ≤ 255) (hy : ∀ z ∈ y, 0 ≤ z ∧ z ≤ 255) : ((strOfNums x).toList == (strOfNums y).toList) = decide (x = y) := by
  rw [Lib.strOfNums_toList, Lib.strOfNums_toList]
  by_cases h : x = y
  · rw [h, decide_eq_true rfl]; exact beq_self_eq_true _
  · rw [decide_eq_false h, beq_eq_false_iff_ne]
    intro e
    have e2 : keyI (strOfNums x) = keyI (strOfNums y) := congrArg (fun l : List UInt8 => l.map fun b : UInt8 => ((b.toNat : Nat) : Int)) e
    exact h (by rw [← keyI_str hx, ← keyI_str hy, e2])
theorem setc_row (w : World) (g i : Nat) (v : Value) (C : Array Value) (t : TypeId) (h : w.heap[g]? = some (.cells C t (0, 0))) : (w.setCell ⟨g, i, none⟩ v).heap[g]? = some (.cells (C.setIfInBounds i v) t (0, 0)) := by
  simp [World.setCell, Array.getElem?_modify, h]
/-- The bytes' line but for its key. -/
def bareL (zs : List Int) : Ln := ⟨valOf (sub zs 2 6), valOf (sub zs 6 10), decide (zs.getD 10 0 = 1), ⟨valOf (sub zs 11 12), valOf (sub zs 12 19), valOf (sub zs 19 26), valOf (sub zs 26 33), valOf (sub zs 33 40), ⟨#[]⟩⟩⟩

end Go.Proofs.YtbnhkplhmanmoaaGreat
