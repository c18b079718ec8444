/-
  The program's images of all bytes.
-/
import Derived.Test.YtcoiincgclglbaaAesC1
namespace Go.Proofs.Ytcoiincgclglbaa
open Go.RowKit

/-- The world behind a pair. -/
def pairW (w : World) (g b m : Nat) : World := (w.setCell ⟨g, b, none⟩ (.int .u8 (m : Int))).setCell ⟨g, 256 + m, none⟩ (.int .u8 (b : Int))
set_option maxHeartbeats 800000 in
/-- 'pair'. -/
theorem pair_any (g b m : Nat) (l : List Nat) (t : TypeId) (w : World) (hg : w.heap[g]? = some (.cells (BA l) t (0, 0))) (hl : l.length = 512) (hb : b < 256) (hm : m < 256) :
    Calls Try.prog 40 #[.pointer (some ⟨g, 0, none⟩), .int .u8 (b : Int), .int .u8 (m : Int)] w fun e w' => e = .returned (.tuple #[]) ∧ w' = pairW w g b m := by
  have c1 := BA_cell hg (i := b) (by omega)
  have h2 := set_BA hg b m
  have c2 := BA_cell h2 (i := 256 + m) (by rw [List.length_set]; omega)
  have f1 := frozen_row w g b _ t hg
  have f2 := frozen_row _ g (256 + m) _ t h2
  have HW : Hid (pairW w g b m = (w.setCell ⟨g, b, none⟩ (.int .u8 (m : Int))).setCell ⟨g, 256 + m, none⟩ (.int .u8 (b : Int))) := rfl
  clear hg h2 hl
  go_enter Try.func40, Try.ntmps40
  go_wp2
  exact bodyPost_end (results_none rfl _ _ _) rfl ⟨rfl, HW.out.symm⟩
theorem pairW_heap {w : World} {g b m : Nat} {l : List Nat} {t : TypeId} {fr : Nat × Nat} (hg : w.heap[g]? = some (.cells (BA l) t fr)) : (pairW w g b m).heap[g]? = some (.cells (BA (pairL l b m)) t fr) := set_BA (set_BA hg b m) (256 + m) b
theorem pairW_below {B : Nat} {w0 w : World} {g b m : Nat} (h : Below B w0 w) (hg : B ≤ g) : Below B w0 (pairW w g b m) := (h.setCell (p := ⟨g, b, none⟩) hg _).setCell (p := ⟨g, 256 + m, none⟩) hg _
theorem pairW_other {w : World} {g b m k : Nat} (hk : k ≠ g) : (pairW w g b m).heap[k]? = w.heap[k]? := (heap_setCell_other _ ⟨g, 256 + m, none⟩ k _ hk).trans (heap_setCell_other w ⟨g, b, none⟩ k _ hk)
theorem pairW_size (w : World) (g b m : Nat) : (pairW w g b m).heap.size = w.heap.size := by simp [pairW]
theorem Try.infoU8c : (Try.prog.info? 5).map (fun i => (i.zero, i.size, i.bytes)) = some (some (.int .u8 0), 1, 1) := by kernel_rfl

set_option maxHeartbeats 3200000 in
set_option maxRecDepth 100000 in
/-- 'allImages'. -/
theorem allImages_any (w : World) : Calls Try.prog 23 #[] w fun e w' => e = .returned (.agg (BA (sbox ++ ibox))) ∧ Below w.heap.size w w' := by
  have hz := (zero_of_info (P := Try.prog) (t := 52) (v := .agg (BA (zeros 512))) (n := 512) (by kernel_rfl)).1
  have hzp := (zero_of_info (P := Try.prog) (t := 78) (v := .agg (BA (zeros 255))) (n := 255) (by kernel_rfl)).1
  have hu := Try.underlying52
  have hup := Try.underlying78
  have hz512 := zeros_len 512
  have hz255 := zeros_len 255
  obtain ⟨i0, hi0, hy0, hy1, hy2⟩ := info_parts Try.infoU8c
  have HDB := Lib.hid (fun (b : Nat) (W : World) (hb : b < 256) => double_any b W hb)
  have HSP := Lib.hid (fun (b : Nat) (W : World) (hb : b < 256) => spread_any b W hb)
  have HPZ : Hid (zeros 255 = powTo 0) := powTo_zero.symm
  have HIZ : Hid (pairL (zeros 512) 0 (spreadN 0) = imgTo 0) := rfl
  have HIL := Lib.hid (fun (N : List Nat) (w : World) (j : Nat) (v : Value) (hj : j < 255) (hc : (BA N)[j]? = some v) => index_agg (P := Try.prog) (t := 78) hup (by kernel_rfl) hi0 hy1 w (BA N) j v hj hc)
  have hb0 : Below w.heap.size w ((w.alloc (.cells (BA (zeros 512)) 52)).alloc (.cells (BA (zeros 255)) 78)) := ((Below.refl _ _).alloc (Nat.le_refl _) _).alloc (by simp) _
  have hr0 : ((w.alloc (.cells (BA (zeros 512)) 52)).alloc (.cells (BA (zeros 255)) 78)).heap[w.heap.size]? = some (.cells (BA (zeros 512)) 52 (0, 0)) := (Below.heap_alloc _ _ _ (by simp)).trans (heap_alloc_new _ _)
  have hr1 : ((w.alloc (.cells (BA (zeros 512)) 52)).alloc (.cells (BA (zeros 255)) 78)).heap[w.heap.size + 1]? = some (.cells (BA (zeros 255)) 78 (0, 0)) := heap_alloc_new' _ _ _ (by simp)
  have hs0 : ((w.alloc (.cells (BA (zeros 512)) 52)).alloc (.cells (BA (zeros 255)) 78)).heap.size = w.heap.size + 2 := by simp
  obtain ⟨Z, hZ⟩ : ∃ Z, Z = zeros 512 := ⟨_, rfl⟩
  obtain ⟨Y, hY⟩ : ∃ Y, Y = zeros 255 := ⟨_, rfl⟩
  rw [← hZ] at hz hb0 hr0 hr1 hs0 HIZ hz512
  rw [← hY] at hzp hb0 hr0 hr1 hs0 HPZ hz255
  clear hZ hY
  go_enter Try.func23, Try.ntmps23
  go_wp2
  go_loopw [2, 7] (fun v i wr => ∃ k : Nat, k ≤ 255 ∧ i = .int .i64 k ∧ v = .int .u8 (powN k : Nat) ∧ wr.heap[w.heap.size + 1]? = some (.cells (BA (powTo k)) 78 (0, 0)) ∧ wr.heap[w.heap.size]? = some (.cells (BA Z) 52 (0, 0)) ∧ wr.heap.size = w.heap.size + 2 ∧ Below w.heap.size w wr) (fun _ i _ => 255 - (intOf i).toNat)
  case atStart => exact ⟨0, by omega, rfl, rfl, by rw [← HPZ.out]; exact hr1, hr0, hs0, hb0⟩
  case round =>
    clear hr1 hr0 hs0 hb0
    obtain ⟨k, hk, rfl, rfl, hr1, hr0, hs0, hb0⟩ := hrel
    by_cases hlt : k < 255
    · have hc := BA_cell hr1 (i := k) (by rw [powTo_len hk]; exact hlt)
      have hf := frozen_row wr (w.heap.size + 1) k _ _ hr1
      have h1 := set_BA hr1 k (powN k)
      rw [powTo_next hlt] at h1
      have h0 := (heap_cell_other wr (w.heap.size + 1) k w.heap.size (.int .u8 (powN k : Nat)) (by omega)).trans hr0
      have h2 := below_cell hb0 (show w.heap.size ≤ w.heap.size + 1 by omega) k (.int .u8 (powN k : Nat))
      have hD := HDB.out (powN k) (wr.setCell ⟨w.heap.size + 1, k, none⟩ (.int .u8 (powN k : Nat))) (powN_lt k)
      have hx := b8_x (powN k) (timesN 2 (powN k)) (powN_lt k) (timesN_lt _ _)
      rw [powN_step k hlt] at hx
      have R := Lib.hid (And.intro h1 (And.intro h0 (And.intro hs0 h2)))
      obtain ⟨p, hp⟩ : ∃ p, p = powN k := ⟨_, rfl⟩
      obtain ⟨q, hq⟩ : ∃ p, p = powN (k + 1) := ⟨_, rfl⟩
      obtain ⟨d, hd⟩ : ∃ d, d = timesN 2 p := ⟨_, rfl⟩
      rw [← hp] at hD hx R ⊢
      rw [← hq, ← hd] at hx
      rw [← hd] at hD
      have HD := Lib.hid hD
      have HQ := Lib.hid hq
      have k1 : (k : Int) < 255 := by omega
      clear h1 h0 hs0 h2 hr1 hr0 hp hq hd hD hb0
      go_wp2_with (go_at_call 26; with_reducible (refine Calls.mono HD.out ?_); rintro e w' ⟨rfl, rfl⟩)
      go_roundw
      case rel => exact ⟨k + 1, by omega, by go_num, by rw [← HQ.out], R.out.1, R.out.2.1, by simpa using R.out.2.2.1, R.out.2.2.2⟩
      case measure => simp [intOf]; omega
    · have hk8 : k = 255 := by omega
      subst hk8
      rw [powTo_all] at hr1
      have hi255 : (Try.prog.info? 78).map (·.size) = some (BA powL).size := by rw [BA_size, powL_len]; kernel_rfl
      have hn1 := (Below.heap_alloc wr (.cells (BA Z) 52) (w.heap.size + 1) (by omega)).trans hr1
      have hn0 := (Below.heap_alloc wr (.cells (BA Z) 52) w.heap.size (by omega)).trans hr0
      have hn2 : (wr.alloc (.cells (BA Z) 52)).heap[wr.heap.size]? = some (.cells (BA Z) 52 (0, 0)) := heap_alloc_new _ _
      have hnb := hb0.alloc hb0.size (.cells (BA Z) 52)
      have hns : (wr.alloc (.cells (BA Z) 52)).heap.size = w.heap.size + 3 := by simp; omega
      obtain ⟨W, hW⟩ : ∃ W, W = wr.alloc (.cells (BA Z) 52) := ⟨_, rfl⟩
      have hP := pair_any wr.heap.size 0 (spreadN 0) Z 52 W (hW ▸ hn2) hz512 (by decide) (spreadN_lt 0 (by decide))
      have hS := HSP.out 0 W (by decide)
      rw [← hW] at hn1 hn0 hn2 hnb hns
      have q1 := (pairW_other (b := 0) (m := spreadN 0) (show w.heap.size + 1 ≠ wr.heap.size by omega)).trans hn1
      have q0 := (pairW_other (b := 0) (m := spreadN 0) (show w.heap.size ≠ wr.heap.size by omega)).trans hn0
      have q2 := pairW_heap (b := 0) (m := spreadN 0) hn2
      have qb := pairW_below (b := 0) (m := spreadN 0) hnb (show w.heap.size ≤ wr.heap.size by omega)
      have qs := (pairW_size W wr.heap.size 0 (spreadN 0)).trans hns
      rw [HIZ.out] at q2
      have HPP := Lib.hid hP
      have HSS := Lib.hid hS
      have HWW := Lib.hid hW
      rw [hs0] at q1 q0 q2 qb qs HPP
      clear hP hS hW hn1 hn0 hn2 hnb hns hr1 hr0 hb0
      go_wp2_with (first
        | (go_at_call 41; rw [← HWW.out]; with_reducible (refine Calls.mono HSS.out ?_); rintro e w' ⟨rfl, rfl⟩)
        | (go_at_call 40; with_reducible (refine Calls.mono HPP.out ?_); rintro e w' ⟨rfl, rfl⟩)
        | (refine wpList_load_row rfl 78 _ rfl (w.heap.size + 1) rfl 78 _ (0, 0) _ q1 hup rfl hi255 ?_))
      have hpl := powL_len
      have HPA : Hid (∀ j, j < 255 → (BA powL)[j]? = some (.int .u8 (powN j : Nat))) := fun j hj => by
        rw [BA_at powL j (by rw [powL_len]; exact hj)]
        unfold powN
        rw [List.getD_eq_getElem?_getD, List.getD_eq_getElem?_getD, List.getElem?_eq_getElem (by rw [powL_len]; exact hj)]; rfl
      have hss : (pairW W (w.heap.size + 2) 0 (spreadN 0)).heap.size = w.heap.size + 3 := qs
      have HIN := Lib.hid (fun (w : World) (j : Nat) (v : Value) (hj : j < 255) (hc : (BA powL)[j]? = some v) => HIL.out powL w j v hj hc)
      obtain ⟨N, hN⟩ : ∃ N, N = powL := ⟨_, rfl⟩
      simp only [← hN] at HPA hpl q1 hi255 HIN ⊢
      have R0 := Lib.hid (And.intro q1 (And.intro q2 (And.intro q0 (And.intro hss qb))))
      clear hN HIL q1 q2 q0 qb qs hss HPP HSS HWW
      go_loopw [21] (fun i wr => ∃ k : Nat, k ≤ 255 ∧ i = .int .i64 k ∧ wr.heap[w.heap.size + 1]? = some (.cells (BA N) 78 (0, 0)) ∧ wr.heap[w.heap.size + 2]? = some (.cells (BA (imgTo k)) 52 (0, 0)) ∧ wr.heap[w.heap.size]? = some (.cells (BA Z) 52 (0, 0)) ∧ wr.heap.size = w.heap.size + 3 ∧ Below w.heap.size w wr) (fun i _ => 255 - (intOf i).toNat)
      case atStart => exact ⟨0, by omega, rfl, R0.out⟩
      case round =>
        clear R0
        obtain ⟨k, hk, rfl, r1, r2, r0, rs, rb⟩ := hrel
        by_cases hlt : k < 255
        · have hx := HIN.out wr k _ hlt (HPA.out k hlt)
          obtain ⟨q, hq⟩ : ∃ q, q = (255 - k) % 255 := ⟨_, rfl⟩
          have hql : q < 255 := by omega
          have hqi : ((255 : Int) - (k : Int)).tmod 255 = (q : Int) := by rw [Int.tmod_eq_emod_of_nonneg (by omega)]; omega
          have hqe : ((255 : Int) - (k : Int)) % 255 = (q : Int) := by omega
          have hc : wr.cell? ⟨w.heap.size + 1, q, none⟩ = some (.int .u8 (powN q : Nat)) := by
            rw [cell_of_row wr _ q _ _ _ r1]; exact HPA.out q hql
          have hS := HSP.out (powN q) wr (powN_lt q)
          have hm := spreadN_lt (powN q) (powN_lt q)
          have hP := pair_any (w.heap.size + 2) (powN k) (spreadN (powN q)) _ 52 wr r2 (imgTo_len k) (powN_lt k) hm
          have hI : imgTo (k + 1) = pairL (imgTo k) (powN k) (spreadN (powN q)) := by rw [hq]; rfl
          have R := Lib.hid (show _ ∧ _ ∧ _ ∧ _ ∧ _ from ⟨(pairW_other (b := powN k) (m := spreadN (powN q)) (show w.heap.size + 1 ≠ w.heap.size + 2 by omega)).trans r1, pairW_heap (b := powN k) (m := spreadN (powN q)) r2, (pairW_other (b := powN k) (m := spreadN (powN q)) (show w.heap.size ≠ w.heap.size + 2 by omega)).trans r0, (pairW_size wr (w.heap.size + 2) (powN k) (spreadN (powN q))).trans rs, pairW_below (b := powN k) (m := spreadN (powN q)) rb (show w.heap.size ≤ w.heap.size + 2 by omega)⟩)
          rw [← hI] at R
          obtain ⟨p, hp⟩ : ∃ p, p = powN k := ⟨_, rfl⟩
          obtain ⟨d, hd⟩ : ∃ d, d = powN q := ⟨_, rfl⟩
          rw [← hp] at hx hP R
          rw [← hd] at hc hS hP R
          obtain ⟨m, hme⟩ : ∃ m, m = spreadN d := ⟨_, rfl⟩
          rw [← hme] at hS hP R
          have HP := Lib.hid hP
          have HS := Lib.hid hS
          have k1 : (k : Int) < 255 := by omega
          have q1 : (q : Int) < 255 := by omega
          have kq : (0 : Int) ≤ 255 - (k : Int) := by omega
          clear hP hS hq hI hp hd hme r1 r2 r0 rb hm
          go_wp2_with (first
            | (go_at_call 41; with_reducible (refine Calls.mono HS.out ?_); rintro e w' ⟨rfl, rfl⟩)
            | (go_at_call 40; with_reducible (refine Calls.mono HP.out ?_); rintro e w' ⟨rfl, rfl⟩))
          go_roundw
          case rel => first | exact ⟨k + 1, by omega, by go_num, R.out⟩ | ((repeat apply Exists.intro); exact ⟨⟨k + 1, by omega, by go_num, R.out⟩, rfl⟩)
          case measure => simp [intOf]; omega
        · have hk8 : k = 255 := by omega
          subst hk8
          rw [imgTo_all] at r2
          have hil : (sbox ++ ibox).length = 512 := by decide +kernel
          have hi := (show (Try.prog.info? 52).map (·.size) = some (BA (sbox ++ ibox)).size by rw [BA_size, hil]; kernel_rfl)
          have hzi : (BA Z).size = (BA (sbox ++ ibox)).size := by rw [BA_size, BA_size, hil, hz512]
          have h1 := BA_one (sbox ++ ibox)
          obtain ⟨I, hI⟩ : ∃ I, I = sbox ++ ibox := ⟨_, rfl⟩
          simp only [← hI] at r2 hi hzi h1 hil
          have HI := Lib.hid hI
          clear hI HIN HPA
          go_wp2_with (first
            | (refine wpList_load_row rfl 52 _ rfl (w.heap.size + 2) rfl 52 _ (0, 0) _ r2 hu rfl hi ?_)
            | (refine wpList_store_fresh rfl 52 _ _ rfl w.heap.size (BA I) rfl rfl 52 (BA Z) r0 hi hzi h1 rb (Nat.le_refl _) ?_; intro W hW hbW hkW hsW))
          refine bodyPost_ret (v := .agg (BA I)) ?_ rfl ⟨by rw [HI.out], hbW⟩
          exact results_mid rfl _ _ w.heap.size I _ _ _ rfl hW hu rfl (by rw [hi, BA_size])

end Go.Proofs.Ytcoiincgclglbaa
