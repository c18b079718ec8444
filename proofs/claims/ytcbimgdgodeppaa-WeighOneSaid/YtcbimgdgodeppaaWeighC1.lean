/-
  weigh's greatestFirst: the places of rests, the greater rest first.
-/
import Derived.Test.YtcbimgdgodeppaaSortS
import Derived.Deep.TreeCalls
import Derived.Deep.OwnRows
namespace Go.Proofs.Ytcbimgdgodeppaa
open Go.RowKit

/-! ### cmp.Compare on integers -/
set_option maxHeartbeats 800000 in
theorem isNaNI_any (x : Int) (w : World) : Calls Try.prog 43 #[.int .i64 x] w fun e w' => e = .returned (.bool false) ∧ w' = w := by
  go_enter Try.func43, Try.ntmps43
  go_wp2
  go_ret
  exact ⟨rfl, rfl⟩
def cmpI (x y : Int) : Int := if x < y then -1 else if y < x then 1 else 0
set_option maxHeartbeats 800000 in
theorem compareI_any (x y : Int) (w : World) : Calls Try.prog 38 #[.int .i64 x, .int .i64 y] w fun e w' => e = .returned (.int .i64 (cmpI x y)) ∧ w' = w := by
  have HN := Lib.hid (fun z W => isNaNI_any z W)
  obtain ⟨w1, hw⟩ : ∃ w1, w1 = w := ⟨_, rfl⟩
  have HW := Lib.hid hw
  rw [← hw]
  clear hw
  by_cases h1 : x < y
  · have HC : Hid (cmpI x y = -1) := by unfold Hid cmpI; rw [if_pos h1]
    go_enter Try.func38, Try.ntmps38
    go_wp2_with (go_at_call 43; with_reducible (refine Calls.mono (HN.out _ _) ?_); rintro e w' ⟨rfl, rfl⟩)
    go_ret
    exact ⟨by rw [HC.out]; rfl, rfl⟩
  · by_cases h2 : y < x
    · have HC : Hid (cmpI x y = 1) := by unfold Hid cmpI; rw [if_neg h1, if_pos h2]
      go_enter Try.func38, Try.ntmps38
      go_wp2_with (go_at_call 43; with_reducible (refine Calls.mono (HN.out _ _) ?_); rintro e w' ⟨rfl, rfl⟩)
      go_ret
      exact ⟨by rw [HC.out]; rfl, rfl⟩
    · have HC : Hid (cmpI x y = 0) := by unfold Hid cmpI; rw [if_neg h1, if_neg h2]
      go_enter Try.func38, Try.ntmps38
      go_wp2_with (go_at_call 43; with_reducible (refine Calls.mono (HN.out _ _) ?_); rintro e w' ⟨rfl, rfl⟩)
      go_ret
      exact ⟨by rw [HC.out]; rfl, rfl⟩

/-! ### What compares rests -/
set_option maxHeartbeats 1600000 in
theorem byRest_any (q c : Nat) (A : Option Addr) (r : List Int) (x y : Int) (w : World) (hb : w.cell? ⟨q, 0, none⟩ = some (.slice A r.length c)) (hr : Ints w w.heap.size .i64 A r) (hx : 0 ≤ x ∧ x < r.length) (hy : 0 ≤ y ∧ y < r.length) :
    Calls Try.prog 37 #[.int .i64 x, .int .i64 y, .pointer (some ⟨q, 0, none⟩)] w fun e w' => e = .returned (.int .i64 (cmpR r x y)) ∧ ∃ m, w' = w.drewN m := by
  have HC : Hid (∀ n, Calls Try.prog 38 #[.int .i64 (r.getD y.toNat 0), .int .i64 (r.getD x.toNat 0)] (w.drewN n) fun e w' => e = .returned (.int .i64 (cmpI (r.getD y.toNat 0) (r.getD x.toNat 0))) ∧ w' = w.drewN n) := fun n => compareI_any _ _ _
  obtain ⟨x, rfl⟩ := Int.eq_ofNat_of_zero_le hx.1
  obtain ⟨y, rfl⟩ := Int.eq_ofNat_of_zero_le hy.1
  obtain ⟨b, o, hA, _, c1⟩ := hr x (by omega)
  obtain ⟨b2, o2, hA2, _, c2⟩ := hr y (by omega)
  rw [hA] at hA2
  injection hA2 with hA3
  injection hA3 with e1 e2
  subst e1 e2
  subst hA
  have HE : Hid (cmpR r (x : Int) (y : Int) = cmpI (r.getD y 0) (r.getD x 0)) := rfl
  simp only [Int.toNat_natCast] at HC
  have hx1 : (x : Int) < (r.length : Int) := hx.2
  have hy1 : (y : Int) < (r.length : Int) := hy.2
  obtain ⟨n, hn'⟩ : ∃ n, n = r.length := ⟨_, rfl⟩
  rw [← hn'] at hb hx1 hy1
  obtain ⟨u, hu⟩ : ∃ u, u = r.getD x 0 := ⟨_, rfl⟩
  obtain ⟨v, hv⟩ : ∃ u, u = r.getD y 0 := ⟨_, rfl⟩
  rw [← hu] at c1 HC HE
  rw [← hv] at c2 HC HE
  have d0 : ∀ n, (w.drewN n).cell? ⟨q, 0, none⟩ = some (.slice (some ⟨b, o, none⟩) r.length c) := fun _ => by rw [← hn']; exact hb
  have d1 : ∀ n, (w.drewN n).cell? ⟨b, o + x, none⟩ = some (.int .i64 u) := fun _ => c1
  have d2 : ∀ n, (w.drewN n).cell? ⟨b, o + y, none⟩ = some (.int .i64 v) := fun _ => c2
  rw [← hn'] at d0
  have p1 : (0 : Int) ≤ (x : Int) := by omega
  have p2 : (0 : Int) ≤ (y : Int) := by omega
  have mixed := Try.mixedS
  clear hr hx hy hn' hu hv hb c1 c2
  go_enter Try.func37, Try.ntmps37
  go_wp2_with fail
  go_quiet (first | (go_at_call 38; with_reducible (refine Calls.quiet_of_same (HC.out _))))
  go_wp2
  go_ret
  exact ⟨by rw [HE.out]; rfl, nq, rfl⟩

theorem byRest_ok (q c g : Nat) (A : Option Addr) (r : List Int) (w0 : World) (hb : w0.cell? ⟨q, 0, none⟩ = some (.slice A r.length c)) (hq : q < g) (hr : Ints w0 g .i64 A r) : CmpOk 37 #[.pointer (some ⟨q, 0, none⟩)] g r.length w0 r := by
  refine ⟨fun args w => by kernel_rfl, fun x y W hW h1 h2 h3 h4 => ?_⟩
  have hrW : Ints W W.heap.size .i64 A r := fun i hi => by
    obtain ⟨b, o, e, hlt, hc⟩ := hr i hi
    have hcW := (hW.cell (p := ⟨b, o + i, none⟩) hlt).trans hc
    exact ⟨b, o, e, World.block_lt_of_cell? W _ hcW, hcW⟩
  exact byRest_any q c A r x y W ((hW.cell (p := ⟨q, 0, none⟩) hq).trans hb) hrW ⟨h1, h2⟩ ⟨h3, h4⟩


/-! ### The places, in their order -/
/-- The first k places are written. -/
def fillM (n k : Nat) : List Int := runI 0 k ++ List.replicate (n - k) 0
theorem fillM_len {n k : Nat} (h : k ≤ n) : (fillM n k).length = n := by
  rw [fillM, List.length_append, runI_len, List.length_replicate]; omega
theorem fillM_zero (n : Nat) : fillM n 0 = List.replicate n 0 := by
  rw [fillM, runI_none (Nat.le_refl _)]; rfl
theorem fillM_all (n : Nat) : fillM n n = runI 0 n := by
  rw [fillM, Nat.sub_self]; exact List.append_nil _
theorem fillM_next {n k : Nat} (h : k < n) : (fillM n k).set k (k : Int) = fillM n (k + 1) := by
  have e : List.replicate (n - k) (0 : Int) = 0 :: List.replicate (n - (k + 1)) 0 := by
    rw [show n - k = (n - (k + 1)) + 1 by omega]; rfl
  have l1 : (runI 0 k).length = k := by rw [runI_len]; omega
  have e2 : runI 0 (k + 1) = runI 0 k ++ [(k : Int)] := by
    rw [← runI_app (a := 0) (m := k) (b := k + 1) (by omega) (by omega), runI_cons (show k < k + 1 by omega), runI_none (Nat.le_refl (k + 1))]
  unfold fillM
  rw [e, e2]
  have h1 := set_head (runI 0 k) 0 (k : Int) (List.replicate (n - (k + 1)) 0)
  rw [l1] at h1
  rw [h1, List.append_assoc]; rfl
theorem Try.infoI64c : (Try.prog.info? 3).map (fun i => (i.zero, i.size, i.bytes)) = some (some (.int .i64 0), 1, 8) := by kernel_rfl
theorem make_ints (n : Nat) (hn : n ≤ 100000) (w : World) : (Instr.makeSlice 27 (.int .i64 (n : Int)) (.int .i64 (n : Int))).run Try.prog w = .ok (.slice (some ⟨w.heap.size, 0, none⟩) n n) (w.alloc (.cells (CJ (List.replicate n 0)) 3)) := by
  have h := run_make_row' (P := Try.prog) 27 3 (.int .i64 0) 8 Try.underlying27 Try.infoI64c rfl .i64 .i64 n (by omega) (by omega) w
  rw [show madeCells #[Value.int .i64 0] n = CJ (List.replicate n 0) from Array.toList_inj.1 (by rw [toList_madeCells_one]; simp [CJ])] at h
  exact h
theorem Srt.ints {g : Nat} {w0 w : World} {l : List Int} (h : Srt g w0 l w) : Ints w w.heap.size .i64 (Option.some ⟨g, 0, none⟩) l := fun i hi => by
  have hc := h.cell hi
  exact ⟨g, 0, rfl, World.block_lt_of_cell? w _ hc, by rw [Nat.zero_add]; exact hc⟩

/-- A row of integers that lies whole in a block of its own. -/
def Rw (g : Nat) (l : List Int) (w : World) : Prop := w.heap[g]? = some (.cells (CJ l) 3 (0, 0))
theorem Rw.cell {g : Nat} {l : List Int} {w : World} (h : Rw g l w) {i : Nat} (hi : i < l.length) : w.cell? ⟨g, i, none⟩ = some (.int .i64 (l.getD i 0)) := by
  rw [cell_of_row _ _ _ _ _ _ h, CJ_at hi]
theorem Rw.thaw {g : Nat} {l : List Int} {w : World} (h : Rw g l w) (i : Nat) : w.frozen? ⟨g, i, none⟩ = false := frozen_of_row _ _ _ _ _ h
theorem Rw.set {g : Nat} {l : List Int} {w : World} (h : Rw g l w) (i : Nat) (x : Int) : Rw g (l.set i x) (w.setCell ⟨g, i, none⟩ (.int .i64 x)) := by
  show _ = _
  rw [setCell_row _ _ _ _ _ _ _ h, CJ_set]
theorem Rw.other {g k : Nat} {l : List Int} {w : World} (h : Rw g l w) (hk : g ≠ k) (i : Nat) (v : Value) : Rw g l (w.setCell ⟨k, i, none⟩ v) := by
  show _ = _
  rw [heap_setCell_other w ⟨k, i, none⟩ g v hk]; exact h
theorem Rw.drew {g : Nat} {l : List Int} {w : World} (h : Rw g l w) : Rw g l w.drew := h
theorem Rw.lt {g : Nat} {l : List Int} {w : World} (h : Rw g l w) : g < w.heap.size := by
  rcases Nat.lt_or_ge g w.heap.size with h' | h'
  · exact h'
  · unfold Rw at h; rw [Array.getElem?_eq_none h'] at h; cases h
theorem Rw.ints {g : Nat} {l : List Int} {w : World} (h : Rw g l w) : Ints w w.heap.size .i64 (some ⟨g, 0, none⟩) l := fun i hi => ⟨g, 0, rfl, h.lt, by rw [Nat.zero_add]; exact h.cell hi⟩
theorem Rw.below {g B : Nat} {l : List Int} {w w' : World} (h : Rw g l w) (hb : Below B w w') (hg : g < B) : Rw g l w' := by
  show _ = _
  rw [hb.block g hg]; exact h

set_option maxHeartbeats 1600000 in
set_option maxRecDepth 20000 in
theorem greatestFirst_any (A : Option Addr) (c : Nat) (r : List Int) (w : World) (hr : Ints w w.heap.size .i64 A r) (hn : r.length ≤ 100000) :
    Calls Try.prog 30 #[.slice A r.length c] w fun e w' => ∃ g, e = .returned (.slice (some ⟨g, 0, none⟩) r.length r.length) ∧ w.heap.size ≤ g ∧ Rw g (srtI r 0 r.length) w' ∧ Below w.heap.size w w' := by
  obtain ⟨W1, hW1⟩ : ∃ W1, W1 = w.alloc (.cells #[.slice A r.length c] 27) := ⟨_, rfl⟩
  have hs1 : W1.heap.size = w.heap.size + 1 := by rw [hW1]; simp
  have hb1 : Below w.heap.size w W1 := by rw [hW1]; exact (Below.refl _ _).alloc (Nat.le_refl _) _
  have hbox : W1.cell? ⟨w.heap.size, 0, none⟩ = some (.slice A r.length c) := by rw [hW1]; simp
  have HOK := Lib.hid (byRest_ok w.heap.size c (w.heap.size + 1) A r W1 hbox (by omega) ((hr.below hb1).more (by omega)))
  have HB1 := Lib.hid hb1
  have HS1 := Lib.hid hs1
  obtain ⟨N, hN⟩ : ∃ N, N = r.length := ⟨_, rfl⟩
  rw [← hN] at hW1 hbox HOK hn ⊢
  have hmk := make_ints N hn
  obtain ⟨Z, hZ⟩ : ∃ Z, Z = CJ (List.replicate N 0) := ⟨_, rfl⟩
  rw [← hZ] at hmk
  have H0 : Hid (Srt (w.heap.size + 1) W1 (fillM N 0) (W1.alloc (.cells Z 3))) := by
    refine ⟨?_, (Below.refl _ _).alloc (by omega) _⟩
    rw [hZ, fillM_zero, ← hs1]; exact heap_alloc_new W1 _
  have HSORT : Hid (∀ W, Srt (w.heap.size + 1) W1 (runI 0 N) W → Calls Try.prog 36 #[.slice (some ⟨w.heap.size + 1, 0, none⟩) N N, .func (.func 37) #[] #[.pointer (some ⟨w.heap.size, 0, none⟩)]] W
      fun e w' => e = .returned (.tuple #[]) ∧ Srt (w.heap.size + 1) W1 (srtI r 0 N) w') := fun W h => sortStable_go _ N N _ _ r W1 W HOK.out h hn
  have HN := Lib.hid hN
  clear hr hN hZ HOK hb1
  go_enter Try.func30, Try.ntmps30
  go_wp2_with fail
  rw [← hW1]
  clear hW1
  go_wp2
  clear hmk hbox
  go_loopw [10] (fun v wr => ∃ k : Nat, k ≤ N ∧ v = .int .i64 k ∧ Hid (Srt (w.heap.size + 1) W1 (fillM N k) wr)) (fun v _ => N - (intOf v).toNat)
  case atStart => exact ⟨0, Nat.zero_le _, rfl, H0⟩
  case round =>
    clear H0
    obtain ⟨k, hk, rfl, HI⟩ := hrel
    by_cases hlt : k < N
    · have k1 : (k : Int) < (N : Int) := by omega
      have k0 : (0 : Int) ≤ (k : Int) := by omega
      have c1 := HI.out.cell (i := k) (by rw [fillM_len hk]; exact hlt)
      have f1 := HI.out.thaw k
      have s := HI.out.set k (k : Int)
      rw [fillM_next hlt] at s
      replace s := Lib.hid s
      clear HI
      go_wp2
      go_roundw
      case rel => exact ⟨k + 1, by omega, by go_num, s⟩
      case measure => simp [intOf]; omega
    · have hkN : k = N := by omega
      subst hkN
      have k1 : ¬ (k : Int) < (k : Int) := by omega
      have h := HI.out
      rw [fillM_all] at h
      have HS := Lib.hid (HSORT.out _ h)
      clear HI h HSORT
      go_wp2_with (go_at_call 36; with_reducible (refine Calls.mono HS.out ?_); rintro e w2 ⟨rfl, hs⟩; replace hs := Lib.hid hs)
      go_ret
      exact ⟨_, rfl, by omega, hs.out.row, HB1.out.trans (hs.out.below.mono (by omega))⟩

end Go.Proofs.Ytcbimgdgodeppaa
