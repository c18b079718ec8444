/-
  The landed header: read. The landed header: reach (a map of how often each version is there).
-/
import Derived.Test.YtbmgiekiildaaaaHdC3G
import Derived.Test.YtbmgiekiildaaaaIntRowG
import Derived.Deep.DeepCutAuto
import Derived.Deep.MidRow
import Derived.Maps.OwnSet
namespace Go.Proofs.Ytbmgiekiildaaaa
open Go.RowKit

def hPart (zs : List Int) : List Int := [valOf (sub zs 0 2), valOf (sub zs 2 3), valOf (sub zs 3 4), valOf (sub zs 4 5), valOf (sub zs 5 6), valOf (sub zs 6 14)]
theorem hparts (zs : List Int) : partsOf (zs.take 14) hSz = hPart zs := by
  simp [partsOf, hSz, hPart, sub, List.drop_take, List.take_take]
theorem hvalOf_one (x : Int) : valOf [x] = x := by simp [valOf]
theorem hsub_single {zs : List Int} {i : Nat} (h : i < zs.length) : sub zs i (i + 1) = [zs.getD i 0] := by
  unfold sub
  rw [show i + 1 - i = 1 by omega, List.drop_eq_getElem_cons h, List.getD_eq_getElem?_getD, List.getElem?_eq_getElem h]
  rfl
theorem hPart_len (zs : List Int) : (hPart zs).length = 6 := rfl
theorem hsizes_row (w : World) : Calls Try.prog 20 #[] w fun e w' => ∃ g, e = .returned (.slice (some ⟨g, 0, none⟩) 6 6) ∧ IRow 3 g hSz w' ∧ Below w.heap.size w w' :=
  (hsizes_any w).mono fun e w' ⟨h1, h2⟩ => ⟨w.heap.size, h1, by rw [h2]; exact IRow.new w 3 hSz, by rw [h2]; exact (Below.refl _ _).alloc (Nat.le_refl _) _⟩
theorem hints_setc {w : World} {B g g' o i : Nat} {k : IntKind} {zs : List Int} (h : Ints w B k (some ⟨g, o, none⟩) zs) (hne : g ≠ g') (v : Value) (hB : B ≤ w.heap.size) : Ints (w.setCell ⟨g', i, none⟩ v) (w.setCell ⟨g', i, none⟩ v).heap.size k (some ⟨g, o, none⟩) zs := fun j hj => by
  obtain ⟨b, off, e, hlt, hc⟩ := h j hj
  refine ⟨b, off, e, by simp [World.setCell]; omega, ?_⟩
  injection e with e
  injection e with e1 e2
  subst e1
  rw [World.cell?_of_block (w := w) (Below.heap_setCell _ _ _ _ hne)]
  exact hc
theorem hsetc_row (w : World) (g i : Nat) (v : Value) (C : Array Value) (t : TypeId) (h : w.heap[g]? = some (.cells C t (0, 0))) : (w.setCell ⟨g, i, none⟩ v).heap[g]? = some (.cells (C.setIfInBounds i v) t (0, 0)) := by
  simp [World.setCell, Array.getElem?_modify, h]

/-- The closure of 'read': an entry of the numbers. -/
theorem hnth_any (q : Nat) (A : Option Addr) (c : Nat) (l : List Int) (k : Nat) (w : World) (hq : w.heap[q]? = some (.cells #[.slice A l.length c] 50 (0, 0))) (h : Ints w w.heap.size .u64 A l) (hk : k < l.length) (hk9 : k ≤ 9) :
    Calls Try.prog 35 #[.int .i64 (k : Int), .pointer (some ⟨q, 0, none⟩)] w fun e w' => e = .returned (.int .i64 (wr64 (l.getD k 0))) ∧ w' = w := by
  obtain ⟨b, o, rfl, _, q0⟩ := h k hk
  have hc := cell_of_row _ _ 0 _ _ _ hq
  obtain ⟨x, hx⟩ : ∃ x, x = l.getD k 0 := ⟨_, rfl⟩
  rw [← hx] at q0 ⊢
  have hc' : w.cell? ⟨q, 0, none⟩ = some (.slice (some ⟨b, o, none⟩) l.length c) := hc
  obtain ⟨y, hy⟩ : ∃ y, y = wr64 x := ⟨_, rfl⟩
  have hw : IntKind.i64.wrap x = y := hy.symm
  rw [← hy]
  have k1 : (k : Int) < (l.length : Int) := by omega
  have k0 : (0 : Int) ≤ (k : Int) := by omega
  obtain ⟨N, hN⟩ : ∃ N, N = l.length := ⟨_, rfl⟩
  rw [← hN] at hc' k1
  clear hx hc hq h hN hy
  go_enter Try.func35, Try.ntmps35
  go_wp2
  go_ret
  exact ⟨rfl, rfl⟩

def zeroH : Array Value := #[.int .i64 0, .int .i64 0, .int .i64 0, .int .i64 0, .int .i64 0, .string ⟨#[]⟩]

theorem hres_mid {P : Program} {fn : Func} {p : Tmp} {ty : TypeId} (h : fn.results = #[.cell p ty]) (tmps : Array Value) (w : World) (g : Nat) (cs : List Value) (d : TypeDesc)
    (hp : tmps.getD p undef = .pointer (some ⟨g, 0, none⟩)) (hc : w.rangeAt g 0 cs) (hu : P.underlying ty = some d) (hd : d.isRow = true) (hi : (P.info? ty).map (·.size) = some cs.length) :
    (results fn tmps).run P w = .ok (.agg cs.toArray) w := by
  have hp' : tmps[p]?.getD undef = .pointer (some ⟨g, 0, none⟩) := by simpa using hp
  simp [results, h, hp', asAddr, run_loadVar_mid w g 0 ty cs d hc hu hd hi]
/-- What the closure of 'read' and what comes behind ask of a world. -/
def HdS (w wc : World) (q g : Nat) (V : World) : Prop := V.heap[q]? = wc.heap[q]? ∧ V.heap[g]? = wc.heap[g]? ∧ Below w.heap.size w V
theorem HdS.drew {w wc V : World} {q g : Nat} (h : HdS w wc q g V) : HdS w wc q g V.drew := ⟨h.1, h.2.1, h.2.2.drew⟩
theorem HdS.nth {w wc : World} {q g c : Nat} {l : List Int} (hq : wc.heap[q]? = some (.cells #[.slice (some ⟨g, 0, none⟩) l.length c] 50 (0, 0))) (h : Ints wc wc.heap.size .u64 (some ⟨g, 0, none⟩) l) (k : Nat) (hk : k < l.length) (hk9 : k ≤ 9) {V : World} (hS : HdS w wc q g V) :
    Calls Try.prog 35 #[.int .i64 (k : Int), .pointer (some ⟨q, 0, none⟩)] V fun e w' => e = .returned (.int .i64 (wr64 (l.getD k 0))) ∧ w' = V := by
  refine hnth_any q (some ⟨g, 0, none⟩) c l k V (hS.1.trans hq) (fun i hi => ?_) hk hk9
  obtain ⟨b, off, e, hlt, hc⟩ := h i hi
  injection e with e
  injection e with e1 e2
  subst e1 e2
  have hc' : V.cell? ⟨g, 0 + i, none⟩ = some (.int .u64 (l.getD i 0)) := by rw [World.cell?_of_block (w := wc) hS.2.1]; exact hc
  exact ⟨g, 0, rfl, World.block_lt_of_cell? V _ hc', hc'⟩

set_option maxHeartbeats 3200000 in
set_option maxRecDepth 20000 in
/-- 'read', of 64 bytes. -/
theorem hread_any (b o c : Nat) (zs : List Int) (w : World) (h : Ints w w.heap.size .u8 (some ⟨b, o, none⟩) zs) (hz : ∀ z ∈ zs, 0 ≤ z ∧ z ≤ 255) (hl : zs.length = 64) (hc : 64 ≤ c) :
    Calls Try.prog 25 #[.slice (some ⟨b, o, none⟩) 64 c] w fun e w' => e = .returned (.agg (rcV (hRead zs))) ∧ Below w.heap.size w w' := by
  have HI := Lib.hid h
  have HSI := Lib.hid (fun W => hsizes_row W)
  have HSP : Hid (∀ (W : World) g, Below w.heap.size w W → IRow 3 g hSz W → Calls Try.prog 34 #[.slice (some ⟨b, o, none⟩) 14 c, .slice (some ⟨g, 0, none⟩) 6 6] W fun e w' => ∃ c, e = .returned (.tuple #[.slice (some ⟨W.heap.size, 0, none⟩) 6 c, .int .i64 0]) ∧ Ints w' w'.heap.size .u64 (some ⟨W.heap.size, 0, none⟩) (hPart zs) ∧ Below W.heap.size W w') := fun W g hb hr => by
    have hi := ((h.below hb).more hb.size).take 14
    have hl14 : (zs.take 14).length = 14 := by rw [List.length_take]; omega
    have := split_new (some ⟨g, 0, none⟩) (some ⟨b, o, none⟩) 6 c hSz (zs.take 14) W hr.ints hi (by rw [hl14]; omega) (fun z hz' => hz z (List.mem_of_mem_take hz')) (by decide) (by rw [hl14]; decide)
    rw [hl14, hparts] at this
    exact this.mono fun e w' ⟨c, q1, _, q3, q4⟩ => ⟨c, q1, q3, q4⟩
  have hbz : Below w.heap.size w (w.alloc (.cells zeroH 23)) := (Below.refl _ _).alloc (Nat.le_refl _) _
  have hc14 : (14 : Int) ≤ (c : Int) := by omega
  obtain ⟨P, hP⟩ : ∃ P, P = rcV (hRead zs) := ⟨_, rfl⟩
  have HPP := Lib.hid hP
  rw [← hP]
  clear hP
  have hs0 : w.heap.size + 1 ≤ (w.alloc (.cells zeroH 23)).heap.size := by simp
  have hb0 : Below (w.heap.size + 1) (w.alloc (.cells zeroH 23)) (w.alloc (.cells zeroH 23)).drew := (Below.refl _ _).drew
  have hb2 : Below (w.heap.size + 1) (w.alloc (.cells zeroH 23)) ((w.alloc (.cells zeroH 23)).alloc (.cells #[.slice none 0 0] 50)).drew := ((Below.refl _ _).alloc hs0 _).drew
  have HQ0 : Hid (((w.alloc (.cells zeroH 23)).alloc (.cells #[.slice none 0 0] 50)).drew.heap[w.heap.size + 1]? = some (.cells #[.slice none 0 0] 50 (0, 0))) := by
    have := heap_alloc_new (w.alloc (.cells zeroH 23)) (.cells #[.slice none 0 0] 50)
    rwa [show (w.alloc (.cells zeroH 23)).heap.size = w.heap.size + 1 by simp] at this
  have hs1 : w.heap.size + 1 < ((w.alloc (.cells zeroH 23)).alloc (.cells #[.slice none 0 0] 50)).drew.heap.size := (Array.getElem?_eq_some_iff.1 HQ0.out).1
  unfold zeroH at hbz hs0 hb0 hs1 hb2 HQ0
  clear h
  go_enter Try.func25, Try.ntmps25
  go_wp2
  go_cut [3, 4] (fun v3 v4 wq => ∃ q g c', v3 = .pointer (some ⟨q, 0, none⟩) ∧ v4 = .int .i64 0 ∧ Hid (wq.heap[q]? = some (.cells #[.slice (some ⟨g, 0, none⟩) 6 c'] 50 (0, 0)) ∧ w.heap.size + 1 ≤ g ∧ Ints wq wq.heap.size .u64 (some ⟨g, 0, none⟩) (hPart zs) ∧ w.heap.size + 1 ≤ q ∧ Below (w.heap.size + 1) (w.alloc (.cells zeroH 23)) wq))
  case first =>
    go_region_with (first
      | (go_at_call 20; with_reducible (refine Calls.mono (HSI.out _) ?_); rintro e w1 ⟨g1, rfl, hr1, hb1⟩; have q := hb1.mono (Nat.le_of_lt hs1); have x1 := hb2.trans q; have hq1 := (hb1.block _ hs1).trans HQ0.out; have z1 := hbz.trans (x1.mono (Nat.le_succ _)); have l1 := hr1.lt; clear q)
      | (go_at_call 20; with_reducible (refine Calls.mono (HSI.out _) ?_); rintro e w1 ⟨g1, rfl, hr1, hb1⟩; have q := hb1.mono hs0; have x1 := hb0.trans q; have z1 := hbz.trans (x1.mono (Nat.le_succ _)); have l1 := hr1.lt; clear q)
      | (have hguard := hq1; clear hguard; go_at_call 34; with_reducible (refine Calls.mono (HSP.out w1 g1 z1 hr1) ?_); rintro e w2 ⟨c2, rfl, hi2, hb3⟩; have x2 := x1.trans (hb3.mono (Nat.le_trans hs0 x1.size)); have hq2 := (hb3.block _ (Nat.lt_of_lt_of_le hs1 (Nat.le_trans (Nat.le_of_eq rfl) hb1.size))).trans hq1; have hcq := cell_of_row _ _ 0 _ _ _ hq2; have hfq := frozen_of_row _ _ 0 _ _ hq2)
      | (go_at_call 34; with_reducible (refine Calls.mono (HSP.out w1 g1 z1 hr1) ?_); rintro e w2 ⟨c2, rfl, hi2, hb3⟩; have x2 := x1.trans (hb3.mono (Nat.le_trans hs0 x1.size)))
      | (go_at_call 34; with_reducible (refine Calls.mono (HSP.out (w1.alloc _) g1 (z1.alloc z1.size _) (hr1.below ((Below.refl _ _).alloc (Nat.le_refl _) _) l1)) ?_); rintro e w2 ⟨c2, rfl, hi2, hb3⟩; have x2 := (x1.alloc (Nat.le_trans hs0 x1.size) _).trans (hb3.mono (Nat.le_trans (Nat.le_trans hs0 x1.size) (by simp))); have hq2 := (hb3.block w1.heap.size (by simp)).trans (heap_alloc_new w1 (.cells #[.slice none 0 0] 50)); have hcq := cell_of_row _ _ 0 _ _ _ hq2; have hfq := frozen_of_row _ _ 0 _ _ hq2)
      | fail)
    all_goals
      go_wp2
      go_meet
    · refine ⟨_, w1.heap.size, c2, rfl, rfl, ?_⟩
      exact ⟨heap_alloc_new _ _, Nat.le_trans hs0 x1.size, (hi2.below ((Below.refl _ _).alloc (Nat.le_refl _) _)).more (by simp), Nat.le_trans hs0 x2.size, x2.alloc (Nat.le_trans hs0 x2.size) _⟩
    · refine ⟨_, w1.heap.size + 1, c2, rfl, rfl, ?_⟩
      refine ⟨hsetc_row _ _ _ _ _ _ hq2, Nat.le_succ_of_le (Nat.le_trans hs0 x1.size), hints_setc (by rw [show (w1.alloc (.cells #[.slice none 0 0] 50)).heap.size = w1.heap.size + 1 by simp] at hi2; exact hi2) (Nat.succ_ne_self _) _ (Nat.le_refl _), Nat.le_trans hs0 x1.size, x2.setCell (p := ⟨w1.heap.size, 0, none⟩) (Nat.le_trans hs0 x1.size) _⟩
    · refine ⟨_, w1.heap.size, c2, rfl, rfl, ?_⟩
      refine ⟨hsetc_row _ _ _ _ _ _ hq2, Nat.le_trans hs0 x1.size, hints_setc hi2 (by have := hb1.size; omega) _ (Nat.le_refl _), Nat.le_refl _, x2.setCell (p := ⟨w.heap.size + 1, 0, none⟩) (Nat.le_refl _) _⟩
  case rest =>
    obtain ⟨q, g, c', rfl, rfl, hS⟩ := hcut
    obtain ⟨hq, hgl, hia, hq1, hbl⟩ := hS.out
    have HP : ∀ i : Nat, i < 6 → Hid (∀ V, HdS w wc q g V → Calls Try.prog 35 #[.int .i64 (i : Int), .pointer (some ⟨q, 0, none⟩)] V fun e w' => e = .returned (.int .i64 (wr64 ((hPart zs).getD i 0))) ∧ w' = V) := fun i hi => Lib.hid fun V hS => hS.nth (l := hPart zs) hq hia i hi (by omega)
    have P1 := HP 1 (by decide)
    have P2 := HP 2 (by decide)
    have P3 := HP 3 (by decide)
    have P4 := HP 4 (by decide)
    have P5 := HP 5 (by decide)
    have hb255 : ∀ i, i < 64 → wr64 (zs.getD i 0) = zs.getD i 0 := fun i hi => by
      have := hz _ (getD_mem (l := zs) (i := i) (by omega))
      exact wr64_in (by omega) (by omega)
    have hx : ∀ i, i < 64 → wr64 (valOf (sub zs i (i + 1))) = zs.getD i 0 := fun i hi => by rw [hsub_single (by omega), hvalOf_one, hb255 i hi]
    rw [show (hPart zs).getD 1 0 = valOf (sub zs 2 (2 + 1)) from rfl, hx 2 (by decide)] at P1
    rw [show (hPart zs).getD 2 0 = valOf (sub zs 3 (3 + 1)) from rfl, hx 3 (by decide)] at P2
    rw [show (hPart zs).getD 3 0 = valOf (sub zs 4 (4 + 1)) from rfl, hx 4 (by decide)] at P3
    rw [show (hPart zs).getD 4 0 = valOf (sub zs 5 (5 + 1)) from rfl, hx 5 (by decide)] at P4
    rw [show (hPart zs).getD 5 0 = valOf (sub zs 6 14) from rfl] at P5
    have hr0 : wc.heap[w.heap.size]? = some (.cells zeroH 23 (0, 0)) := (hbl.block _ (Nat.lt_succ_self _)).trans (heap_alloc_new _ _)
    have hbw : Below w.heap.size w wc := ((Below.refl w.heap.size w).alloc (Nat.le_refl _) _).trans (hbl.mono (Nat.le_succ _))
    have hlt0 : w.heap.size < wc.heap.size := (Array.getElem?_eq_some_iff.1 hr0).1
    have HKEY : Hid (∀ V, HdS w wc q g V → (convert 24 9 (.slice (some ⟨b, o + 14, none⟩) 16 (c - 14))).run Try.prog V = .ok (.string (strOfNums (sub zs 14 30))) V) := fun V hb => by
      have hi := (HI.out.cut (n := 14) (c := c) (by omega) (by omega)).take 16
      rw [if_neg (by omega)] at hi
      have e : (some (⟨b, o, none⟩ : Addr)).map (·.add 14) = some ⟨b, o + 14, none⟩ := by simp [Addr.add]
      rw [e] at hi
      exact (hi.below hb.2.2).textAs Try.underlying24 Try.underlying5 Try.underlying9 (by rw [List.length_take, List.length_drop]; omega) rfl _
    have HPP2 : Hid (P = #[.int .i64 (zs.getD 2 0), .int .i64 (zs.getD 3 0), .int .i64 (zs.getD 4 0), .int .i64 (zs.getD 5 0), .int .i64 (wr64 (valOf (sub zs 6 14))), .string (strOfNums (sub zs 14 30))]) := HPP.out
    obtain ⟨M, hM⟩ : ∃ M, M = P.toList := ⟨_, rfl⟩
    have hMA : M.toArray = P := by rw [hM, Array.toArray_toList]
    have HMA := Lib.hid hMA
    have hlM : (Try.prog.info? 23).map (·.size) = some M.length := by rw [hM, HPP.out]; exact Try.infoHead
    have h1M : ∀ v ∈ M, v.oneCell' = true := by
      rw [hM, HPP.out]
      have := rcV_ones (hRead zs)
      rw [Array.all_eq_true'] at this
      exact fun v hv => this v (Array.mem_toList_iff.1 hv)
    have hM6 : M.length = 6 := by rw [hM, HPP.out]; rfl
    obtain ⟨V1, hV1⟩ : ∃ V, V = zs.getD 2 0 := ⟨_, rfl⟩
    obtain ⟨V2, hV2⟩ : ∃ V, V = zs.getD 3 0 := ⟨_, rfl⟩
    obtain ⟨V3, hV3⟩ : ∃ V, V = zs.getD 4 0 := ⟨_, rfl⟩
    obtain ⟨V4, hV4⟩ : ∃ V, V = zs.getD 5 0 := ⟨_, rfl⟩
    obtain ⟨V5, hV5⟩ : ∃ V, V = wr64 (valOf (sub zs 6 14)) := ⟨_, rfl⟩
    obtain ⟨kk, hkk⟩ : ∃ k, k = strOfNums (sub zs 14 30) := ⟨_, rfl⟩
    rw [← hV1] at P1
    rw [← hV2] at P2
    rw [← hV3] at P3
    rw [← hV4] at P4
    rw [← hV5] at P5
    rw [← hkk] at HKEY
    rw [← hV1, ← hV2, ← hV3, ← hV4, ← hV5, ← hkk] at HPP2
    have hlq : (c : Int) - 14 = ((c - 14 : Nat) : Int) := by omega
    have c30 : (30 : Int) ≤ (c : Int) := by omega
    have e14 : ¬ c = 14 := by omega
    have hS0 : HdS w wc q g wc := ⟨rfl, rfl, hbw⟩
    have ht0 : wc.there w.heap.size 0 6 := by
      intro j hj
      refine ⟨?_, frozen_of_row _ _ _ _ _ hr0⟩
      rw [Nat.zero_add, cell_of_row _ _ j _ _ _ hr0]
      have hz9 : j < zeroH.size := by show j < 6; omega
      simp [hz9]
    have hqn : Hid (q ≠ w.heap.size ∧ g ≠ w.heap.size) := ⟨by omega, by omega⟩
    have HEND : Hid (∀ V : World, HdS w wc q g V → HdS w wc q g (V.setCells w.heap.size 0 M)) := fun V hV =>
      ⟨(setCells_other _ _ hqn.out.1 M 0 V).trans hV.1, (setCells_other _ _ hqn.out.2 M 0 V).trans hV.2.1, hV.2.2.grown (setCells_grown V w.heap.size 0 M) hV.2.2.size fun q hq => by cases hq; exact Nat.le_refl _⟩
    have hfold : #[.int .i64 V1, .int .i64 V2, .int .i64 V3, .int .i64 V4, .int .i64 V5, .string kk] = M.toArray := by rw [hMA]; exact HPP2.out.symm
    have hst : (storeCells ⟨w.heap.size, 0, none⟩ M).run Try.prog wc.drew = .ok () (wc.drew.setCells w.heap.size 0 M) := by
      have := run_storeCells_cells (P := Try.prog) w.heap.size 0 M 0 wc.drew (fun j hj => by rw [Nat.add_zero]; exact (ht0 j (by omega)).1) (fun j hj => by rw [Nat.add_zero]; exact (ht0 j (by omega)).2) h1M
      simpa using this
    have HK0 := HKEY.out _ hS0
    have HK1 := HKEY.out _ hS0.drew
    have HK2 := Lib.hid (HKEY.out _ (HEND.out _ hS0.drew))
    have HE := Lib.hid (HEND.out _ hS0.drew)
    have HT := Lib.hid (World.rangeAt_setCells_same wc.drew w.heap.size 0 M (by rw [hM6]; exact ht0))
    have HT2 : Hid (∀ vs : List Value, (wc.drew.setCells w.heap.size 0 M).there w.heap.size 0 6) := fun _ => World.there_setCells (w := wc.drew) ht0 _ _ _
    clear HI HSI HSP hz hl hc hbz hs0 hb0 hs1 hb2 HQ0 hS hq hia hq1 hbl hb255 hx hV1 hV2 hV3 hV4 hV5 hkk HPP HP hc14 hr0 hlt0 hgl hM hMA HPP2 HEND hqn hbw
    go_wp2
    go_region_held3 (fun V => (convert 24 9 (.slice (some ⟨b, o + 14, none⟩) 16 (c - 14))).run Try.prog V = .ok (.string kk) V ∧ V.there w.heap.size 0 6 ∧ HdS w wc q g V)
      (first | exact ⟨HK0, ht0, hS0⟩ | exact ⟨HK1, ht0, hS0.drew⟩ | exact ⟨HK2.out, HT2.out [], HE.out⟩)
      (first
        | (go_at_call_of 35 (Value.int .i64 1); with_reducible (refine Calls.mono (P1.out _ (by first | exact hS0 | exact hS0.drew)) ?_); rintro e wq ⟨rfl, hwq⟩; obtain rfl := hwq.symm)
        | (go_at_call_of 35 (Value.int .i64 2); with_reducible (refine Calls.mono (P2.out _ (by first | exact hS0 | exact hS0.drew)) ?_); rintro e wq ⟨rfl, hwq⟩; obtain rfl := hwq.symm)
        | (go_at_call_of 35 (Value.int .i64 3); with_reducible (refine Calls.mono (P3.out _ (by first | exact hS0 | exact hS0.drew)) ?_); rintro e wq ⟨rfl, hwq⟩; obtain rfl := hwq.symm)
        | (go_at_call_of 35 (Value.int .i64 4); with_reducible (refine Calls.mono (P4.out _ (by first | exact hS0 | exact hS0.drew)) ?_); rintro e wq ⟨rfl, hwq⟩; obtain rfl := hwq.symm)
        | (go_at_call_of 35 (Value.int .i64 5); with_reducible (refine Calls.mono (P5.out _ (by first | exact hS0 | exact hS0.drew)) ?_); rintro e wq ⟨rfl, hwq⟩; obtain rfl := hwq.symm)
        | fail)
    all_goals
      go_wp2
      refine bodyPost_ret (v := .agg M.toArray) ?_ rfl ⟨by rw [HMA.out], HE.out.2.2⟩
      exact hres_mid rfl _ _ w.heap.size M _ rfl HT.out Try.underlying23 rfl hlM

end Go.Proofs.Ytbmgiekiildaaaa

namespace Go.Proofs.Ytbmgiekiildaaaa
open Go.RowKit
open Go.Maps (IsMap atKey_put_same atKey_put_other)

/-- The map says of each version how many of the first n heads have it. -/
def MapH (D : DataW Unit) (l : List Rc) (n : Nat) : Prop := IsMap D ∧ ∀ x : Int, D.atKey (.int .i64 x) (.lit (.int .i64 0)) = .lit (.int .i64 ((cntV (l.take n) x : Nat) : Int))
theorem mapH_none (l : List Rc) : MapH (.map []) l 0 := ⟨⟨[], rfl⟩, fun x => by rw [List.take_zero, cntV_nil]; rfl⟩
theorem take_headR {l : List Rc} {n : Nat} (h : n < l.length) : l.take (n + 1) = l.take n ++ [l.getD n hZero] := by
  rw [List.take_add_one, List.getD_eq_getElem?_getD, List.getElem?_eq_getElem h]; rfl
theorem mapH_next {D : DataW Unit} {l : List Rc} {n : Nat} (h : MapH D l n) (hn : n < l.length) : MapH (D.put (.int .i64 (l.getD n hZero).d) (.lit (.int .i64 (((cntV (l.take n) (l.getD n hZero).d : Nat) : Int) + 1)))) l (n + 1) := by
  refine ⟨h.1.put _ _, fun x => ?_⟩
  rw [take_headR hn, cntV_snoc]
  by_cases e : (l.getD n hZero).d = x
  · subst e
    rw [atKey_put_same h.1 (by first | trivial | simp [WideAt.IsKeyLit]), if_pos rfl]; rfl
  · have hne : (Lit.int .i64 x) ≠ .int .i64 (l.getD n hZero).d := fun q => by injection q with _ q; exact e q.symm
    rw [atKey_put_other hne, if_neg e, h.2 x]; rfl
theorem Try.undMapH : Try.prog.underlying 70 = some (.map 3 3) := by kernel_rfl
theorem Try.undIntH : Try.prog.underlying 3 = some (.int .i64) := by kernel_rfl
theorem keyH : Maps.Keyed Try.prog 3 := Maps.int_keyed Try.undIntH
theorem zeroI (w : World) : (zeroValue 3).run Try.prog w = .ok (.int .i64 0) w := by kernel_rfl
theorem keyH_of {x : Int} (h : I64n x) : keyOf Try.prog 3 (.int .i64 x) = some (.int .i64 x) := Maps.keyOf_int_mk Try.undIntH (by simp [Lit.wf, IntKind.min, IntKind.max, IntKind.signed, IntKind.bits]; exact h)

/-- 'm[x]', what is there told. -/
theorem wpList_lookH {P : Program} (w : World) {ops : Array Oper} {rest : List Oper} {o : Oper} {a : Act} {Q : Exit → Act → World → Prop} (hg : o.guard = none) (m x : Operand) (t : TypeId) (hop : o.op = Op.lookup t m x false)
    (k e : TypeId) (q : IntKind) (K : Maps.Keyed P k) (ht : P.underlying t = some (.map k e)) (he : P.underlying e = some (.int q)) (hz : (zeroValue e).run P w = .ok (.int q 0) w) (b n : Nat) (D : DataW Unit)
    (hm : a.eval m = .map (some b)) (hown : w.ownsMap P k (plainElem P e) b n D) (key : Value) (kl : Lit) (hx : a.eval x = key) (hkey : keyOf P k key = some kl) (c : Int) (hat : D.atKey kl (.lit (.int q 0)) = .lit (.int q c))
    (hK : wpList P ops Q rest (a.put o.dst (.int q c)) w) : wpList P ops Q (o :: rest) a w :=
  wpList_lookup_own_int w hg m x t hop k e q K ht he hz b n D hm hown key kl hx hkey fun c' h1 _ => by
    rw [hat] at h1
    injection h1 with h1
    injection h1 with _ h1
    rw [← h1]
    exact hK

/-- What a round holds. -/
def ReachS (l : List Rc) (w : World) (n : Nat) (V : World) : Prop := (∃ D, V.ownsMap Try.prog 3 (plainElem Try.prog 3) w.heap.size n D ∧ MapH D l n) ∧ Below w.heap.size w V

set_option maxHeartbeats 1600000 in
set_option maxRecDepth 20000 in
/-- 'reach'. -/
theorem hreach_any (base : Int) (A : Option Addr) (c : Nat) (l : List Rc) (w : World) (h : RecsAt w w.heap.size A l) (hm : l.length ≤ 64) (hd : ∀ x ∈ l, I64n x.d) (hb : 0 ≤ base ∧ base ≤ 1099511627776) :
    Calls Try.prog 28 #[.int .i64 base, .slice A l.length c] w fun e w' => ∃ r, e = .returned (.int .i64 r) ∧ ReachOK base l r ∧ Below w.heap.size w w' := by
  have hmm := @run_makeMap Try.prog
  obtain ⟨N, hN⟩ : ∃ N, N = l.length := ⟨_, rfl⟩
  have HN := Lib.hid hN
  have HH := Lib.hid h
  have HD := Lib.hid hd
  have HB := Lib.hid hb
  rw [← hN] at hm ⊢
  clear h hN hd hb
  go_enter Try.func28, Try.ntmps28
  go_wp2
  go_loopw [11] (fun i wr => ∃ n : Nat, n ≤ N ∧ i = .int .i64 n ∧ Hid (ReachS l w n wr)) (fun i _ => N - (intOf i).toNat)
  case atStart =>
    have hm1 : (w.alloc (.map #[] 0)).ownsMap Try.prog 3 (plainElem Try.prog 3) w.heap.size 0 (.map [] : DataW Unit) := World.ownsMap_made _ _ _ _
    exact ⟨0, Nat.zero_le _, rfl, ⟨⟨_, hm1, mapH_none l⟩, (Below.refl _ _).alloc (Nat.le_refl _) _⟩⟩
  case round =>
    obtain ⟨n, hn, rfl, hS⟩ := hrel
    clear hmm
    by_cases hlt : n < N
    · obtain ⟨⟨D, hown, hD⟩, hbel⟩ := hS.out
      obtain ⟨b, off, rfl, hbl, hmid⟩ := recs_mid (HH.out.below hbel) (k := n) (by have := HN.out; omega)
      obtain ⟨x, hx⟩ : ∃ x, x = l.getD n hZero := ⟨_, rfl⟩
      have hxm : x ∈ l := by
        rw [hx, List.getD_eq_getElem?_getD, List.getElem?_eq_getElem (by have := HN.out; omega)]; exact List.getElem_mem _
      have hkey := Lib.hid (keyH_of (HD.out x hxm))
      have hat := Lib.hid (hD.2 x.d)
      have hle := cntV_le (l.take n) x.d
      rw [List.length_take] at hle
      obtain ⟨q, hq⟩ : ∃ q : Nat, q = cntV (l.take n) x.d := ⟨_, rfl⟩
      rw [← hq] at hat hle
      have HDN := Lib.hid (mapH_next hD (by have := HN.out; omega : n < l.length))
      rw [← hx, ← hq] at HDN
      rw [← hx] at hmid
      have hxv : (hdC x).toArray = rcV x := Array.toArray_toList
      have hbs := hbel.size
      have hown1 : Hid ((wr.alloc (.cells (rcV x) 23)).ownsMap Try.prog 3 (plainElem Try.prog 3) w.heap.size n D ∧ Below w.heap.size w (wr.alloc (.cells (rcV x) 23))) := ⟨hown.alloc _, hbel.alloc hbs _⟩
      obtain ⟨xk, xa, xb, xc, xd, xs⟩ := x
      simp only [rcV] at hown1
      have hk0 : (0 : Int) ≤ (n : Int) := by omega
      have hk1 : (n : Int) < (N : Int) := by omega
      have HW : Hid (wrap64 ((q : Int) + 1) = (q : Int) + 1) := by unfold Hid wrap64; omega
      have HQ : Hid (q ≤ 64) := by unfold Hid; omega
      clear hx hS hown hD hbel hbl hq hle hxm
      go_wp2_with (first
        | (refine wpList_load_mid rfl 23 _ rfl b (off + n * 6) rfl (hdC ⟨xk, xa, xb, xc, xd, xs⟩) _ hmid Try.underlying23 rfl Try.infoHead ?_; rw [hxv]; simp only [rcV])
        | (at_lookup; refine wpList_lookH _ rfl _ _ 70 rfl 3 3 .i64 keyH Try.undMapH Try.undIntH (zeroI _) w.heap.size n D rfl hown1.out.1 _ _ rfl hkey.out _ hat.out ?_)
        | (at_mapUpdate; refine wpList_mapUpdate_own _ rfl _ _ _ 70 rfl 3 3 keyH Try.undMapH _ w.heap.size n D rfl hown1.out.1 (by unfold maxLen; omega) _ _ _ rfl rfl hkey.out _ [] (plainElem_int Try.undIntH (by have := HQ.out; have h9 := HW.out; simp [h9, Lit.wf, IntKind.min, IntKind.max, IntKind.signed, IntKind.bits]; omega)) ?_; intro w1 hown2 hgrow1
           rw [HW.out] at hown2
           have R : Hid (ReachS l w (n + 1) w1) := ⟨⟨_, hown2, HDN.out⟩, hown1.out.2.grown hgrow1 hown1.out.2.size (fun q hq => by cases hq; exact Nat.le_refl _)⟩
           clear hown2 hgrow1))
      go_roundw
      case rel => first | exact ⟨n + 1, by omega, by go_num, R⟩ | ((repeat apply Exists.intro); exact ⟨⟨n + 1, by omega, by go_num, R⟩, rfl⟩)
      case measure => first | (simp [intOf]; done) | (simp [intOf]; omega)
    · have hnN : n = N := by omega
      have k1 : ¬ (n : Int) < (N : Int) := by omega
      have hT : l.take n = l := List.take_of_length_le (by have := HN.out; omega)
      have HT := Lib.hid hT
      have HBN : Hid (aboveV l base ≤ N) := by have := aboveV_le l base; have := HN.out; unfold Hid; omega
      have HSS : Hid (ReachS l w n wr) := hS
      clear hS hT hlt hnN
      go_wp2
      go_loopw [0] (fun v wv => ∃ b : Int, v = .int .i64 b ∧ Hid (ReachS l w n wv ∧ base ≤ b ∧ (∀ m, base < m → m ≤ b → ∃ h ∈ l, h.d = m) ∧ (b - base).toNat + aboveV l b ≤ N)) (fun v _ => aboveV l (intOf v))
      case atStart => exact ⟨base, rfl, HSS.out, Int.le_refl _, fun m h1 h2 => absurd h1 (by omega), by have := HBN.out; omega⟩
      case round =>
        obtain ⟨b, rfl, hS⟩ := hrel
        clear HSS
        obtain ⟨⟨⟨D, hown, hD⟩, hbel⟩, hle, hall, hfu⟩ := hS.out
        have hb1 : -9223372036854775808 ≤ b + 1 ∧ b + 1 ≤ 9223372036854775807 := by have := HB.out; omega
        have hkey := Lib.hid (keyH_of (x := b + 1) hb1)
        have hat := hD.2 (b + 1)
        rw [HT.out] at hat
        have hw : wrap64 (b + 1) = b + 1 := by unfold wrap64; omega
        have hle64 := cntV_le l (b + 1)
        have hpos := cntV_pos (l := l) (x := b + 1)
        have hnext := aboveV_next (l := l) (x := b)
        obtain ⟨q, hq⟩ : ∃ q : Nat, q = cntV l (b + 1) := ⟨_, rfl⟩
        rw [← hq] at hat hle64 hpos hnext
        have hat := Lib.hid hat
        have HO := Lib.hid (And.intro hown hbel)
        by_cases h0 : 0 < q
        · have k2 : (0 : Int) < (q : Int) := by omega
          have R : Hid (ReachS l w n wr ∧ base ≤ b + 1 ∧ (∀ m, base < m → m ≤ b + 1 → ∃ h ∈ l, h.d = m) ∧ (b + 1 - base).toNat + aboveV l (b + 1) ≤ N) := by
            refine ⟨hS.out.1, by omega, fun m h1 h2 => ?_, by omega⟩
            rcases Int.lt_or_le b m with g | g
            · have : m = b + 1 := by omega
              rw [this]; exact hpos.1 h0
            · exact hall m h1 g
          have HM : Hid (aboveV l (b + 1) < aboveV l b) := by unfold Hid; omega
          clear hpos hnext hq hown hbel hD hall hle hfu hS hle64 h0
          go_wp2_with (at_lookup; refine wpList_lookH _ rfl _ _ 70 rfl 3 3 .i64 keyH Try.undMapH Try.undIntH (zeroI _) w.heap.size n D rfl HO.out.1 _ _ rfl hkey.out _ hat.out ?_)
          go_roundw
          case rel => first | exact ⟨b + 1, (by first | rfl | rw [hw]), R⟩ | ((repeat apply Exists.intro); exact ⟨⟨b + 1, (by first | rfl | rw [hw]), R⟩, rfl⟩)
          case measure => have := HM.out; first | (simp only [intOf]; done) | (simp only [intOf]; rw [hw]; exact this) | (simp [intOf]; omega)
        · have h00 : q = 0 := by omega
          have k2 : ¬ (0 : Int) < (q : Int) := by omega
          have R : Hid (ReachOK base l b ∧ Below w.heap.size w wr) := ⟨⟨hle, hall, fun g => by have := hpos.2 g; omega⟩, hbel⟩
          clear hpos hnext hq hown hbel hD hall hle hfu hS hle64 h0 h00
          go_wp2_with (at_lookup; refine wpList_lookH _ rfl _ _ 70 rfl 3 3 .i64 keyH Try.undMapH Try.undIntH (zeroI _) w.heap.size n D rfl HO.out.1 _ _ rfl hkey.out _ hat.out ?_)
          go_ret
          exact ⟨b, rfl, R.out.1, R.out.2⟩

end Go.Proofs.Ytbmgiekiildaaaa
