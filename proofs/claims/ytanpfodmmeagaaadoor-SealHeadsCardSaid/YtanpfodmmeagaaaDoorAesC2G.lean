/-
  The program's images of all bytes. The program's next round key.
-/
import Derived.Test.YtanpfodmmeagaaaDoorAesC1G
import Derived.Test.YtanpfodmmeagaaaDoorAesC6G
namespace Go.Proofs.YtanpfodmmeagaaaDoor
open Go.RowKit

/-- The world behind a pair. -/
def pairW (w : World) (g b m : Nat) : World := (w.setCell ⟨g, b, none⟩ (.int .u8 (m : Int))).setCell ⟨g, 256 + m, none⟩ (.int .u8 (b : Int))
set_option maxHeartbeats 800000 in
/-- 'pair'. -/
theorem pair_any (g b m : Nat) (l : List Nat) (t : TypeId) (w : World) (hg : w.heap[g]? = some (.cells (BA l) t (0, 0))) (hl : l.length = 512) (hb : b < 256) (hm : m < 256) :
    Calls Tryd.prog 70 #[.pointer (some ⟨g, 0, none⟩), .int .u8 (b : Int), .int .u8 (m : Int)] w fun e w' => e = .returned (.tuple #[]) ∧ w' = pairW w g b m := by
  have c1 := BA_cell hg (i := b) (by omega)
  have h2 := set_BA hg b m
  have c2 := BA_cell h2 (i := 256 + m) (by rw [List.length_set]; omega)
  have f1 := frozen_row w g b _ t hg
  have f2 := frozen_row _ g (256 + m) _ t h2
  have HW : Hid (pairW w g b m = (w.setCell ⟨g, b, none⟩ (.int .u8 (m : Int))).setCell ⟨g, 256 + m, none⟩ (.int .u8 (b : Int))) := rfl
  clear hg h2 hl
  go_enter Tryd.func70, Tryd.ntmps70
  go_wp2
  exact bodyPost_end (results_none rfl _ _ _) rfl ⟨rfl, HW.out.symm⟩
theorem pairW_heap {w : World} {g b m : Nat} {l : List Nat} {t : TypeId} {fr : Nat × Nat} (hg : w.heap[g]? = some (.cells (BA l) t fr)) : (pairW w g b m).heap[g]? = some (.cells (BA (pairL l b m)) t fr) := set_BA (set_BA hg b m) (256 + m) b
theorem pairW_below {B : Nat} {w0 w : World} {g b m : Nat} (h : Below B w0 w) (hg : B ≤ g) : Below B w0 (pairW w g b m) := (h.setCell (p := ⟨g, b, none⟩) hg _).setCell (p := ⟨g, 256 + m, none⟩) hg _
theorem pairW_other {w : World} {g b m k : Nat} (hk : k ≠ g) : (pairW w g b m).heap[k]? = w.heap[k]? := (heap_setCell_other _ ⟨g, 256 + m, none⟩ k _ hk).trans (heap_setCell_other w ⟨g, b, none⟩ k _ hk)
theorem pairW_size (w : World) (g b m : Nat) : (pairW w g b m).heap.size = w.heap.size := by simp [pairW]
theorem Tryd.infoU8c : (Tryd.prog.info? 5).map (fun i => (i.zero, i.size, i.bytes)) = some (some (.int .u8 0), 1, 1) := by kernel_rfl

set_option maxHeartbeats 3200000 in
set_option maxRecDepth 100000 in
/-- 'allImages'. -/
theorem allImages_any (w : World) : Calls Tryd.prog 45 #[] w fun e w' => e = .returned (.agg (BA (sbox ++ ibox))) ∧ Below w.heap.size w w' := by
  have hz := (zero_of_info (P := Tryd.prog) (t := 75) (v := .agg (BA (zeros 512))) (n := 512) (by kernel_rfl)).1
  have hzp := (zero_of_info (P := Tryd.prog) (t := 111) (v := .agg (BA (zeros 255))) (n := 255) (by kernel_rfl)).1
  have hu := Tryd.underlying75
  have hup := Tryd.underlying111
  have hz512 := zeros_len 512
  have hz255 := zeros_len 255
  obtain ⟨i0, hi0, hy0, hy1, hy2⟩ := info_parts Tryd.infoU8c
  have HDB := Lib.hid (fun (b : Nat) (W : World) (hb : b < 256) => double_any b W hb)
  have HSP := Lib.hid (fun (b : Nat) (W : World) (hb : b < 256) => spread_any b W hb)
  have HPZ : Hid (zeros 255 = powTo 0) := powTo_zero.symm
  have HIZ : Hid (pairL (zeros 512) 0 (spreadN 0) = imgTo 0) := rfl
  have HIL := Lib.hid (fun (N : List Nat) (w : World) (j : Nat) (v : Value) (hj : j < 255) (hc : (BA N)[j]? = some v) => index_agg (P := Tryd.prog) (t := 111) hup (by kernel_rfl) hi0 hy1 w (BA N) j v hj hc)
  have hb0 : Below w.heap.size w ((w.alloc (.cells (BA (zeros 512)) 75)).alloc (.cells (BA (zeros 255)) 111)) := ((Below.refl _ _).alloc (Nat.le_refl _) _).alloc (by simp) _
  have hr0 : ((w.alloc (.cells (BA (zeros 512)) 75)).alloc (.cells (BA (zeros 255)) 111)).heap[w.heap.size]? = some (.cells (BA (zeros 512)) 75 (0, 0)) := (Below.heap_alloc _ _ _ (by simp)).trans (heap_alloc_new _ _)
  have hr1 : ((w.alloc (.cells (BA (zeros 512)) 75)).alloc (.cells (BA (zeros 255)) 111)).heap[w.heap.size + 1]? = some (.cells (BA (zeros 255)) 111 (0, 0)) := heap_alloc_new' _ _ _ (by simp)
  have hs0 : ((w.alloc (.cells (BA (zeros 512)) 75)).alloc (.cells (BA (zeros 255)) 111)).heap.size = w.heap.size + 2 := by simp
  obtain ⟨Z, hZ⟩ : ∃ Z, Z = zeros 512 := ⟨_, rfl⟩
  obtain ⟨Y, hY⟩ : ∃ Y, Y = zeros 255 := ⟨_, rfl⟩
  rw [← hZ] at hz hb0 hr0 hr1 hs0 HIZ hz512
  rw [← hY] at hzp hb0 hr0 hr1 hs0 HPZ hz255
  clear hZ hY
  go_enter Tryd.func45, Tryd.ntmps45
  go_wp2
  go_loopw [2, 7] (fun v i wr => ∃ k : Nat, k ≤ 255 ∧ i = .int .i64 k ∧ v = .int .u8 (powN k : Nat) ∧ wr.heap[w.heap.size + 1]? = some (.cells (BA (powTo k)) 111 (0, 0)) ∧ wr.heap[w.heap.size]? = some (.cells (BA Z) 75 (0, 0)) ∧ wr.heap.size = w.heap.size + 2 ∧ Below w.heap.size w wr) (fun _ i _ => 255 - (intOf i).toNat)
  case atStart => exact ⟨0, by omega, rfl, rfl, by rw [← HPZ.out]; exact hr1, hr0, hs0, hb0⟩
  case round =>
    clear hr1 hr0 hs0 hb0
    obtain ⟨k, hk, rfl, rfl, hr1, hr0, hs0, hb0⟩ := hrel
    by_cases hlt : k < 255
    · have hc := BA_cell hr1 (i := k) (by rw [powTo_len hk]; exact hlt)
      have hf := frozen_row wr (w.heap.size + 1) k _ _ hr1
      have h1 := set_BA hr1 k (powN k)
      rw [powTo_next hlt] at h1
      have h0 := (heap_cell_other wr (w.heap.size + 1) k w.heap.size (.int .u8 (powN k : Nat)) (by omega)).trans hr0
      have h2 := below_cell hb0 (show w.heap.size ≤ w.heap.size + 1 by omega) k (.int .u8 (powN k : Nat))
      have hD := HDB.out (powN k) (wr.setCell ⟨w.heap.size + 1, k, none⟩ (.int .u8 (powN k : Nat))) (powN_lt k)
      have hx := b8_x (powN k) (timesN 2 (powN k)) (powN_lt k) (timesN_lt _ _)
      rw [powN_step k hlt] at hx
      have R := Lib.hid (And.intro h1 (And.intro h0 (And.intro hs0 h2)))
      obtain ⟨p, hp⟩ : ∃ p, p = powN k := ⟨_, rfl⟩
      obtain ⟨q, hq⟩ : ∃ p, p = powN (k + 1) := ⟨_, rfl⟩
      obtain ⟨d, hd⟩ : ∃ d, d = timesN 2 p := ⟨_, rfl⟩
      rw [← hp] at hD hx R ⊢
      rw [← hq, ← hd] at hx
      rw [← hd] at hD
      have HD := Lib.hid hD
      have HQ := Lib.hid hq
      have k1 : (k : Int) < 255 := by omega
      clear h1 h0 hs0 h2 hr1 hr0 hp hq hd hD hb0
      go_wp2_with (go_at_call 48; with_reducible (refine Calls.mono HD.out ?_); rintro e w' ⟨rfl, rfl⟩)
      go_roundw
      case rel => exact ⟨k + 1, by omega, by go_num, by rw [← HQ.out], R.out.1, R.out.2.1, by simpa using R.out.2.2.1, R.out.2.2.2⟩
      case measure => simp [intOf]; omega
    · have hk8 : k = 255 := by omega
      subst hk8
      rw [powTo_all] at hr1
      have hi255 : (Tryd.prog.info? 111).map (·.size) = some (BA powL).size := by rw [BA_size, powL_len]; kernel_rfl
      have hn1 := (Below.heap_alloc wr (.cells (BA Z) 75) (w.heap.size + 1) (by omega)).trans hr1
      have hn0 := (Below.heap_alloc wr (.cells (BA Z) 75) w.heap.size (by omega)).trans hr0
      have hn2 : (wr.alloc (.cells (BA Z) 75)).heap[wr.heap.size]? = some (.cells (BA Z) 75 (0, 0)) := heap_alloc_new _ _
      have hnb := hb0.alloc hb0.size (.cells (BA Z) 75)
      have hns : (wr.alloc (.cells (BA Z) 75)).heap.size = w.heap.size + 3 := by simp; omega
      obtain ⟨W, hW⟩ : ∃ W, W = wr.alloc (.cells (BA Z) 75) := ⟨_, rfl⟩
      have hP := pair_any wr.heap.size 0 (spreadN 0) Z 75 W (hW ▸ hn2) hz512 (by decide) (spreadN_lt 0 (by decide))
      have hS := HSP.out 0 W (by decide)
      rw [← hW] at hn1 hn0 hn2 hnb hns
      have q1 := (pairW_other (b := 0) (m := spreadN 0) (show w.heap.size + 1 ≠ wr.heap.size by omega)).trans hn1
      have q0 := (pairW_other (b := 0) (m := spreadN 0) (show w.heap.size ≠ wr.heap.size by omega)).trans hn0
      have q2 := pairW_heap (b := 0) (m := spreadN 0) hn2
      have qb := pairW_below (b := 0) (m := spreadN 0) hnb (show w.heap.size ≤ wr.heap.size by omega)
      have qs := (pairW_size W wr.heap.size 0 (spreadN 0)).trans hns
      rw [HIZ.out] at q2
      have HPP := Lib.hid hP
      have HSS := Lib.hid hS
      have HWW := Lib.hid hW
      rw [hs0] at q1 q0 q2 qb qs HPP
      clear hP hS hW hn1 hn0 hn2 hnb hns hr1 hr0 hb0
      go_wp2_with (first
        | (go_at_call 71; rw [← HWW.out]; with_reducible (refine Calls.mono HSS.out ?_); rintro e w' ⟨rfl, rfl⟩)
        | (go_at_call 70; with_reducible (refine Calls.mono HPP.out ?_); rintro e w' ⟨rfl, rfl⟩)
        | (refine wpList_load_row rfl 111 _ rfl (w.heap.size + 1) rfl 111 _ (0, 0) _ q1 hup rfl hi255 ?_))
      have hpl := powL_len
      have HPA : Hid (∀ j, j < 255 → (BA powL)[j]? = some (.int .u8 (powN j : Nat))) := fun j hj => by
        rw [BA_at powL j (by rw [powL_len]; exact hj)]
        unfold powN
        rw [List.getD_eq_getElem?_getD, List.getD_eq_getElem?_getD, List.getElem?_eq_getElem (by rw [powL_len]; exact hj)]; rfl
      have hss : (pairW W (w.heap.size + 2) 0 (spreadN 0)).heap.size = w.heap.size + 3 := qs
      have HIN := Lib.hid (fun (w : World) (j : Nat) (v : Value) (hj : j < 255) (hc : (BA powL)[j]? = some v) => HIL.out powL w j v hj hc)
      obtain ⟨N, hN⟩ : ∃ N, N = powL := ⟨_, rfl⟩
      simp only [← hN] at HPA hpl q1 hi255 HIN ⊢
      have R0 := Lib.hid (And.intro q1 (And.intro q2 (And.intro q0 (And.intro hss qb))))
      clear hN HIL q1 q2 q0 qb qs hss HPP HSS HWW
      go_loopw [21] (fun i wr => ∃ k : Nat, k ≤ 255 ∧ i = .int .i64 k ∧ wr.heap[w.heap.size + 1]? = some (.cells (BA N) 111 (0, 0)) ∧ wr.heap[w.heap.size + 2]? = some (.cells (BA (imgTo k)) 75 (0, 0)) ∧ wr.heap[w.heap.size]? = some (.cells (BA Z) 75 (0, 0)) ∧ wr.heap.size = w.heap.size + 3 ∧ Below w.heap.size w wr) (fun i _ => 255 - (intOf i).toNat)
      case atStart => exact ⟨0, by omega, rfl, R0.out⟩
      case round =>
        clear R0
        obtain ⟨k, hk, rfl, r1, r2, r0, rs, rb⟩ := hrel
        by_cases hlt : k < 255
        · have hx := HIN.out wr k _ hlt (HPA.out k hlt)
          obtain ⟨q, hq⟩ : ∃ q, q = (255 - k) % 255 := ⟨_, rfl⟩
          have hql : q < 255 := by omega
          have hqi : ((255 : Int) - (k : Int)).tmod 255 = (q : Int) := by rw [Int.tmod_eq_emod_of_nonneg (by omega)]; omega
          have hqe : ((255 : Int) - (k : Int)) % 255 = (q : Int) := by omega
          have hc : wr.cell? ⟨w.heap.size + 1, q, none⟩ = some (.int .u8 (powN q : Nat)) := by
            rw [cell_of_row wr _ q _ _ _ r1]; exact HPA.out q hql
          have hS := HSP.out (powN q) wr (powN_lt q)
          have hm := spreadN_lt (powN q) (powN_lt q)
          have hP := pair_any (w.heap.size + 2) (powN k) (spreadN (powN q)) _ 75 wr r2 (imgTo_len k) (powN_lt k) hm
          have hI : imgTo (k + 1) = pairL (imgTo k) (powN k) (spreadN (powN q)) := by rw [hq]; rfl
          have R := Lib.hid (show _ ∧ _ ∧ _ ∧ _ ∧ _ from ⟨(pairW_other (b := powN k) (m := spreadN (powN q)) (show w.heap.size + 1 ≠ w.heap.size + 2 by omega)).trans r1, pairW_heap (b := powN k) (m := spreadN (powN q)) r2, (pairW_other (b := powN k) (m := spreadN (powN q)) (show w.heap.size ≠ w.heap.size + 2 by omega)).trans r0, (pairW_size wr (w.heap.size + 2) (powN k) (spreadN (powN q))).trans rs, pairW_below (b := powN k) (m := spreadN (powN q)) rb (show w.heap.size ≤ w.heap.size + 2 by omega)⟩)
          rw [← hI] at R
          obtain ⟨p, hp⟩ : ∃ p, p = powN k := ⟨_, rfl⟩
          obtain ⟨d, hd⟩ : ∃ d, d = powN q := ⟨_, rfl⟩
          rw [← hp] at hx hP R
          rw [← hd] at hc hS hP R
          obtain ⟨m, hme⟩ : ∃ m, m = spreadN d := ⟨_, rfl⟩
          rw [← hme] at hS hP R
          have HP := Lib.hid hP
          have HS := Lib.hid hS
          have k1 : (k : Int) < 255 := by omega
          have q1 : (q : Int) < 255 := by omega
          have kq : (0 : Int) ≤ 255 - (k : Int) := by omega
          clear hP hS hq hI hp hd hme r1 r2 r0 rb hm
          go_wp2_with (first
            | (go_at_call 71; with_reducible (refine Calls.mono HS.out ?_); rintro e w' ⟨rfl, rfl⟩)
            | (go_at_call 70; with_reducible (refine Calls.mono HP.out ?_); rintro e w' ⟨rfl, rfl⟩))
          go_roundw
          case rel => first | exact ⟨k + 1, by omega, by go_num, R.out⟩ | ((repeat apply Exists.intro); exact ⟨⟨k + 1, by omega, by go_num, R.out⟩, rfl⟩)
          case measure => simp [intOf]; omega
        · have hk8 : k = 255 := by omega
          subst hk8
          rw [imgTo_all] at r2
          have hil : (sbox ++ ibox).length = 512 := by decide +kernel
          have hi := (show (Tryd.prog.info? 75).map (·.size) = some (BA (sbox ++ ibox)).size by rw [BA_size, hil]; kernel_rfl)
          have hzi : (BA Z).size = (BA (sbox ++ ibox)).size := by rw [BA_size, BA_size, hil, hz512]
          have h1 := BA_one (sbox ++ ibox)
          obtain ⟨I, hI⟩ : ∃ I, I = sbox ++ ibox := ⟨_, rfl⟩
          simp only [← hI] at r2 hi hzi h1 hil
          have HI := Lib.hid hI
          clear hI HIN HPA
          go_wp2_with (first
            | (refine wpList_load_row rfl 75 _ rfl (w.heap.size + 2) rfl 75 _ (0, 0) _ r2 hu rfl hi ?_)
            | (refine wpList_store_fresh rfl 75 _ _ rfl w.heap.size (BA I) rfl rfl 75 (BA Z) r0 hi hzi h1 rb (Nat.le_refl _) ?_; intro W hW hbW hkW hsW))
          refine bodyPost_ret (v := .agg (BA I)) ?_ rfl ⟨by rw [HI.out], hbW⟩
          exact results_mid rfl _ _ w.heap.size I _ _ _ rfl hW hu rfl (by rw [hi, BA_size])

end Go.Proofs.YtanpfodmmeagaaaDoor

namespace Go.Proofs.YtanpfodmmeagaaaDoor
open Go.RowKit

def nkF (k : List Nat) (x i : Nat) : Nat := nk k x (i / 4) (i % 4)
theorem nextTo_prog (k : List Nat) (x n : Nat) : nextTo k x n = prog 16 (nkF k x) (fun i => k.getD i 0) (4 * n) := rfl
/-- What is added to the first column, ahead of the sum. -/
def aheadF (k : List Nat) (r : Nat) : Nat := sbox.getD (k.getD (12 + (r + 1) % 4) 0) 0
/-- What is added to column c. -/
def ahN (k : List Nat) (x : Nat) : Nat → Nat → Nat
  | 0, r => if r = 0 then sbox.getD (k.getD 13 0) 0 ^^^ x else aheadF k r
  | c + 1, r => nk k x c r
theorem nk_ah (k : List Nat) (x c r : Nat) : nk k x c r = k.getD (4 * c + r) 0 ^^^ ahN k x c r := by
  cases c with
  | zero => rw [Nat.mul_zero, Nat.zero_add]; rfl
  | succ c => rfl
def ahL (k : List Nat) (x c : Nat) : List Nat := [ahN k x c 0, ahN k x c 1, ahN k x c 2, ahN k x c 3]
theorem ahN_lt {k : List Nat} (hk : Ok16 k) {x : Nat} (hx : x < 256) (c r : Nat) : ahN k x c r < 256 := by
  cases c with
  | zero =>
    show (if r = 0 then sbox.getD (k.getD 13 0) 0 ^^^ x else aheadF k r) < 256
    by_cases h : r = 0
    · rw [if_pos h]; exact xor_lt8 (sbox_lt _) hx
    · rw [if_neg h]; exact sbox_lt _
  | succ c => exact nk_lt hk hx c r
theorem ahL_ok {k : List Nat} (hk : Ok16 k) {x : Nat} (hx : x < 256) (c : Nat) : Ok4 (ahL k x c) := ⟨rfl, fun y hy => by
  simp only [ahL, List.mem_cons, List.not_mem_nil, or_false] at hy
  rcases hy with rfl | rfl | rfl | rfl <;> exact ahN_lt hk hx _ _⟩
theorem nkF_col (k : List Nat) (x c m : Nat) (hm : m = 4 * c) : plus4 (subB k m 4) (ahL k x c) = (List.range 4).map fun i => nkF k x (m + i) := by
  subst hm
  show [_, _, _, _] = [nkF k x (4 * c), nkF k x (4 * c + 1), nkF k x (4 * c + 2), nkF k x (4 * c + 3)]
  unfold nkF
  rw [show 4 * c / 4 = c by omega, show (4 * c + 1) / 4 = c by omega, show (4 * c + 2) / 4 = c by omega, show (4 * c + 3) / 4 = c by omega, show 4 * c % 4 = 0 by omega, show (4 * c + 1) % 4 = 1 by omega, show (4 * c + 2) % 4 = 2 by omega, show (4 * c + 3) % 4 = 3 by omega,
    nk_ah, nk_ah, nk_ah, nk_ah]
  rfl
theorem ahL_next (k : List Nat) (x c m : Nat) (hm : m = 4 * c) : (List.range 4).map (fun i => nkF k x (m + i)) = ahL k x (c + 1) := by
  subst hm
  show [nkF k x (4 * c), nkF k x (4 * c + 1), nkF k x (4 * c + 2), nkF k x (4 * c + 3)] = _
  unfold nkF
  rw [show 4 * c / 4 = c by omega, show (4 * c + 1) / 4 = c by omega, show (4 * c + 2) / 4 = c by omega, show (4 * c + 3) / 4 = c by omega, show 4 * c % 4 = 0 by omega, show (4 * c + 1) % 4 = 1 by omega, show (4 * c + 2) % 4 = 2 by omega, show (4 * c + 3) % 4 = 3 by omega]
  rfl
theorem putL_four {l : List Nat} (h : l.length = 4) (a b c d : Nat) : putL l 0 [a, b, c, d] = [a, b, c, d] := by
  match l, h with
  | [_, _, _, _], _ => rfl
theorem ahead_sum (k : List Nat) (x : Nat) : ((List.range 4).map (aheadF k)).set 0 (aheadF k 0 ^^^ x) = ahL k x 0 := rfl

set_option maxHeartbeats 3200000 in
set_option maxRecDepth 20000 in
/-- 'nextKey'. -/
theorem nextKey_any (g : Nat) (k : List Nat) (x : Nat) (w : World) (hk : Ok16 k) (hx : x < 256) (hg : g < w.heap.size) (hbox : ∀ i, i < 256 → w.cell? ⟨g, i, none⟩ = some (.int .u8 (sbox.getD i 0 : Nat))) :
    Calls Tryd.prog 47 #[.pointer (some ⟨g, 0, none⟩), .agg (BA k), .int .u8 (x : Int)] w fun e w' => e = .returned (.agg (BA (nextL k x))) ∧ Below w.heap.size w w' := by
  have hz := (zero_of_info (P := Tryd.prog) (t := 80) (v := .agg (BA (zeros 16))) (n := 16) (by kernel_rfl)).1
  have hz4 := (zero_of_info (P := Tryd.prog) (t := 78) (v := .agg (BA (zeros 4))) (n := 4) (by kernel_rfl)).1
  have hu := Tryd.underlying80
  have HBX : Hid (∀ W, Below w.heap.size w W → ∀ i, i < 256 → W.cell? ⟨g, i, none⟩ = some (.int .u8 (sbox.getD i 0 : Nat))) := fun W hb i hi => (hb.cell (p := ⟨g, i, none⟩) hg).trans (hbox i hi)
  have HQ0 : Hid (prog 4 (aheadF k) (fun i => (zeros 4).getD i 0) 0 = zeros 4) := prog_zero (zeros_len 4) _
  have HQ4 : Hid (prog 4 (aheadF k) (fun i => (zeros 4).getD i 0) 4 = (List.range 4).map (aheadF k)) := prog_all _ _ _
  have HQL := Lib.hid (fun n => prog_len 4 (aheadF k) (fun i => (zeros 4).getD i 0) n)
  have HQN := Lib.hid (fun n => prog_next 4 (aheadF k) (fun i => (zeros 4).getD i 0) n)
  obtain ⟨Q, hQ⟩ : ∃ Q, Q = prog 4 (aheadF k) (fun i => (zeros 4).getD i 0) := ⟨_, rfl⟩
  simp only [← hQ] at HQ0 HQ4 HQL HQN
  obtain ⟨Y, hY⟩ : ∃ Y, Y = zeros 4 := ⟨_, rfl⟩
  rw [← hY] at hz4 HQ0
  obtain ⟨Z, hZ⟩ : ∃ Z, Z = zeros 16 := ⟨_, rfl⟩
  have hzl : Z.length = 16 := by rw [hZ]; rfl
  rw [← hZ] at hz
  have i1 : ((w.alloc (.cells (BA k) 80)).alloc (.cells (BA Z) 80)).heap[w.heap.size]? = some (.cells (BA k) 80 (0, 0)) := (Below.heap_alloc _ _ _ (by simp)).trans (heap_alloc_new _ _)
  have i2 : ((w.alloc (.cells (BA k) 80)).alloc (.cells (BA Z) 80)).heap[w.heap.size + 1]? = some (.cells (BA Z) 80 (0, 0)) := heap_alloc_new' _ _ _ (by simp)
  have ib : Below w.heap.size w ((w.alloc (.cells (BA k) 80)).alloc (.cells (BA Z) 80)) := ((Below.refl _ _).alloc (Nat.le_refl _) _).alloc (by simp) _
  have is : ((w.alloc (.cells (BA k) 80)).alloc (.cells (BA Z) 80)).heap.size = w.heap.size + 2 := by simp
  have h1 := (Below.heap_alloc _ (.cells (BA Y) 78) _ (by rw [is]; omega)).trans i1
  have h2 := (Below.heap_alloc _ (.cells (BA Y) 78) _ (by rw [is]; omega)).trans i2
  have h3 := heap_alloc_new' ((w.alloc (.cells (BA k) 80)).alloc (.cells (BA Z) 80)) (.cells (BA Y) 78) (w.heap.size + 2) is.symm
  have h4 := ib.alloc (by rw [is]; omega) (.cells (BA Y) 78)
  have R0 := Lib.hid (And.intro h1 (And.intro h2 (And.intro h3 h4)))
  have hgs : w.heap.size + 2 ≠ g := by omega
  clear hZ hY hQ i1 i2 ib is h1 h2 h3 h4 hbox
  go_enter Tryd.func47, Tryd.ntmps47
  go_wp2
  go_loopw [10] (fun i wr => ∃ r : Nat, r ≤ 4 ∧ i = .int .i64 r ∧ wr.heap[w.heap.size]? = some (.cells (BA k) 80 (0, 0)) ∧ wr.heap[w.heap.size + 1]? = some (.cells (BA Z) 80 (0, 0)) ∧ wr.heap[w.heap.size + 2]? = some (.cells (BA (Q r)) 78 (0, 0)) ∧ Below w.heap.size w wr) (fun i _ => 4 - (intOf i).toNat)
  case atStart => exact ⟨0, by omega, rfl, R0.out.1, R0.out.2.1, by rw [HQ0.out]; exact R0.out.2.2⟩
  case round =>
    clear R0
    obtain ⟨r, hr, rfl, r1, r2, r3, rb⟩ := hrel
    by_cases hlt : r < 4
    · obtain ⟨j, hj⟩ : ∃ j, j = (r + 1) % 4 := ⟨_, rfl⟩
      have hj4 : j < 4 := by omega
      have hjt : ((r : Int) + 1).tmod 4 = (j : Int) := by rw [Int.tmod_eq_emod_of_nonneg (by omega)]; omega
      have hje : ((r : Int) + 1) % 4 = (j : Int) := by omega
      have v1 : IntKind.i64.wrap ((r : Int) + 1) = (r : Int) + 1 := IntWalk.i64_in _ (by omega)
      have v2 : IntKind.i64.wrap (j : Int) = (j : Int) := IntWalk.i64_in _ (by omega)
      have d0 := BA_cell r1 (i := 12 + j) (by rw [hk.len]; omega)
      have hal := hk.at_ (12 + j)
      have d3 := HBX.out _ rb (k.getD (12 + j) 0) hal
      have d1 := BA_cell r3 (i := r) (by rw [HQL.out]; exact hlt)
      have d2 := frozen_row _ (w.heap.size + 2) r _ _ r3
      have hN := HQN.out r
      have hF : aheadF k r = sbox.getD (k.getD (12 + j) 0) 0 := by rw [hj]; rfl
      rw [hF] at hN
      have s3 := set_BA r3 r (sbox.getD (k.getD (12 + j) 0) 0)
      rw [hN] at s3
      have s1 := (heap_cell_other _ (w.heap.size + 2) r w.heap.size (.int .u8 (sbox.getD (k.getD (12 + j) 0) 0 : Nat)) (by omega)).trans r1
      have s2 := (heap_cell_other _ (w.heap.size + 2) r (w.heap.size + 1) (.int .u8 (sbox.getD (k.getD (12 + j) 0) 0 : Nat)) (by omega)).trans r2
      have s4 := below_cell rb (show w.heap.size ≤ w.heap.size + 2 by omega) r (.int .u8 (sbox.getD (k.getD (12 + j) 0) 0 : Nat))
      have R := Lib.hid (And.intro s1 (And.intro s2 (And.intro s3 s4)))
      obtain ⟨p, hp⟩ : ∃ p, p = k.getD (12 + j) 0 := ⟨_, rfl⟩
      rw [← hp] at d0 d3 R hal
      obtain ⟨q, hq⟩ : ∃ q, q = sbox.getD p 0 := ⟨_, rfl⟩
      rw [← hq] at d3 R
      obtain ⟨u, hu'⟩ : ∃ u, u = (Q r).getD r 0 := ⟨_, rfl⟩
      rw [← hu'] at d1
      have p1 : (p : Int) < 256 := by omega
      have p0 : (0 : Int) ≤ (p : Int) := by omega
      have j1 : (j : Int) < 4 := by omega
      have j0 : (0 : Int) ≤ (j : Int) := by omega
      have r5 : (r : Int) < 4 := by omega
      have r0 : (0 : Int) ≤ (r : Int) := by omega
      clear r1 r2 r3 rb s1 s2 s3 s4 hp hq hu' hN hF hj
      go_wp2
      go_region
      all_goals
        go_wp2
        go_roundw
        case rel => first | exact ⟨r + 1, by omega, by go_num, R.out.1, R.out.2.1, R.out.2.2.1, R.out.2.2.2.drew⟩ | ((repeat apply Exists.intro); exact ⟨⟨r + 1, by omega, by go_num, R.out.1, R.out.2.1, R.out.2.2.1, R.out.2.2.2.drew⟩, rfl⟩)
        case measure => simp [intOf]; omega
    · have hr' : r = 4 := by omega
      subst hr'
      rw [HQ4.out] at r3
      have d1 := BA_cell r3 (i := 0) (by simp)
      have d2 := frozen_row _ (w.heap.size + 2) 0 _ _ r3
      have hxx := b8_x (aheadF k 0) x (sbox_lt _) hx
      have he0 : ((List.range 4).map (aheadF k)).getD 0 0 = aheadF k 0 := rfl
      rw [he0] at d1
      have s3 := set_BA r3 0 (aheadF k 0 ^^^ x)
      rw [ahead_sum] at s3
      have s1 := (heap_cell_other _ (w.heap.size + 2) 0 w.heap.size (.int .u8 (aheadF k 0 ^^^ x : Nat)) (by omega)).trans r1
      have s2 := (heap_cell_other _ (w.heap.size + 2) 0 (w.heap.size + 1) (.int .u8 (aheadF k 0 ^^^ x : Nat)) (by omega)).trans r2
      have s4 := below_cell rb (show w.heap.size ≤ w.heap.size + 2 by omega) 0 (.int .u8 (aheadF k 0 ^^^ x : Nat))
      have R := Lib.hid (And.intro s1 (And.intro s2 (And.intro s3 s4)))
      obtain ⟨p, hp⟩ : ∃ p, p = aheadF k 0 := ⟨_, rfl⟩
      rw [← hp] at d1 hxx R
      obtain ⟨q, hq⟩ : ∃ q, q = p ^^^ x := ⟨_, rfl⟩
      rw [← hq] at hxx R
      clear r1 r2 r3 rb s1 s2 s3 s4 hp hq he0
      go_wp2
      have HP0 : Hid (prog 16 (nkF k x) (fun i => k.getD i 0) 0 = k) := prog_zero hk.len _
      have HP4 : Hid (prog 16 (nkF k x) (fun i => k.getD i 0) 16 = nextL k x) := rfl
      have HPL := Lib.hid (fun n => prog_len 16 (nkF k x) (fun i => k.getD i 0) n)
      have HPT := Lib.hid (fun n i (hi : i < 16) => prog_at (n := 16) (nkF k x) (fun i => k.getD i 0) n hi)
      have HPU := Lib.hid (fun n => putL_prog 16 (nkF k x) (fun i => k.getD i 0) n 4)
      have HPB := Lib.hid (fun n (h : n + 4 ≤ 16) => sub_prog (n := 16) (nkF k x) k h)
      have HOK := Lib.hid (show (nextL k x).length = 16 from (nextTo_ok hk hx 4).len)
      obtain ⟨N, hN⟩ : ∃ N, N = prog 16 (nkF k x) (fun i => k.getD i 0) := ⟨_, rfl⟩
      simp only [← hN] at HP0 HP4 HPL HPU HPB HPT
      have HK := Lib.hid hk
      have HX := Lib.hid hx
      clear hN d1 d2 hxx HQ4 HQL HQN HQ0 HBX hz4
      go_loopw [32] (fun i wx => ∃ c : Nat, c ≤ 4 ∧ i = .int .i64 c ∧ wx.heap[w.heap.size]? = some (.cells (BA (N (4 * c))) 80 (0, 0)) ∧ wx.heap[w.heap.size + 1]? = some (.cells (BA Z) 80 (0, 0)) ∧ wx.heap[w.heap.size + 2]? = some (.cells (BA (ahL k x c)) 78 (0, 0)) ∧ Below w.heap.size w wx) (fun i _ => 4 - (intOf i).toNat)
      case atStart => exact ⟨0, by omega, rfl, by rw [show 4 * 0 = 0 from rfl, HP0.out]; exact R.out⟩
      case round =>
        clear R
        obtain ⟨c, hc, rfl, r1, r2, r3, rb⟩ := hrel
        by_cases hc4 : c < 4
        · obtain ⟨m, hm⟩ : ∃ m, m = 4 * c := ⟨_, rfl⟩
          have hm16 : m + 4 ≤ 16 := by omega
          rw [← hm] at r1
          have HM := Lib.hid hm
          have hpl := HPL.out m
          have hsb := HPB.out m hm16
          have g0 := BA_cell r1 (i := m) (by rw [hpl]; omega)
          have g1 := BA_cell r1 (i := m + 1) (by rw [hpl]; omega)
          have g2 := BA_cell r1 (i := m + 2) (by rw [hpl]; omega)
          have g3 := BA_cell r1 (i := m + 3) (by rw [hpl]; omega)
          have k0 : wr.cell? ⟨w.heap.size + 2, 0, none⟩ = some (.int .u8 (ahN k x c 0 : Nat)) := BA_cell r3 (i := 0) (show 0 < 4 by decide)
          have k1 : wr.cell? ⟨w.heap.size + 2, 1, none⟩ = some (.int .u8 (ahN k x c 1 : Nat)) := BA_cell r3 (i := 1) (show 1 < 4 by decide)
          have k2 : wr.cell? ⟨w.heap.size + 2, 2, none⟩ = some (.int .u8 (ahN k x c 2 : Nat)) := BA_cell r3 (i := 2) (show 2 < 4 by decide)
          have k3 : wr.cell? ⟨w.heap.size + 2, 3, none⟩ = some (.int .u8 (ahN k x c 3 : Nat)) := BA_cell r3 (i := 3) (show 3 < 4 by decide)
          have hC := fun W : World => plus4_any (subB k m 4) (ahL k x c) W (sub4_ok HK.out m) (ahL_ok HK.out HX.out c)
          have hcol := nkF_col k x c m hm
          have hnext := ahL_next k x c m hm
          have hpu := HPU.out m
          rw [← hcol] at hpu hnext
          have hzz : plus4 (subB k m 4) (ahL k x c) = [nkF k x m, nkF k x (m + 1), nkF k x (m + 2), nkF k x (m + 3)] := hcol
          rw [hzz] at hpu hnext
          simp only [hzz] at hC
          have t0 := HPT.out (m + 4) m (by omega)
          have t1 := HPT.out (m + 4) (m + 1) (by omega)
          have t2 := HPT.out (m + 4) (m + 2) (by omega)
          have t3 := HPT.out (m + 4) (m + 3) (by omega)
          rw [if_pos (by omega)] at t0 t1 t2 t3
          rw [sub_four, sub_four] at hsb
          injection hsb with e0 hsb
          injection hsb with e1 hsb
          injection hsb with e2 hsb
          injection hsb with e3 hsb
          rw [e0] at g0
          rw [e1] at g1
          rw [e2] at g2
          rw [e3] at g3
          have hC' : ∀ W : World, Calls Tryd.prog 72 #[.agg #[.int .u8 (k.getD m 0 : Nat), .int .u8 (k.getD (m + 1) 0 : Nat), .int .u8 (k.getD (m + 2) 0 : Nat), .int .u8 (k.getD (m + 3) 0 : Nat)], .agg #[.int .u8 (ahN k x c 0 : Nat), .int .u8 (ahN k x c 1 : Nat), .int .u8 (ahN k x c 2 : Nat), .int .u8 (ahN k x c 3 : Nat)]] W
              fun e w' => e = .returned (.agg #[.int .u8 (nkF k x m : Nat), .int .u8 (nkF k x (m + 1) : Nat), .int .u8 (nkF k x (m + 2) : Nat), .int .u8 (nkF k x (m + 3) : Nat)]) ∧ Below W.heap.size W w' := hC
          clear hC e0 e1 e2 e3 hsb hcol hzz
          obtain ⟨x0, e0⟩ : ∃ x, x = k.getD m 0 := ⟨_, rfl⟩
          obtain ⟨x1, e1⟩ : ∃ x, x = k.getD (m + 1) 0 := ⟨_, rfl⟩
          obtain ⟨x2, e2⟩ : ∃ x, x = k.getD (m + 2) 0 := ⟨_, rfl⟩
          obtain ⟨x3, e3⟩ : ∃ x, x = k.getD (m + 3) 0 := ⟨_, rfl⟩
          obtain ⟨y0, f0⟩ : ∃ y, y = ahN k x c 0 := ⟨_, rfl⟩
          obtain ⟨y1, f1⟩ : ∃ y, y = ahN k x c 1 := ⟨_, rfl⟩
          obtain ⟨y2, f2⟩ : ∃ y, y = ahN k x c 2 := ⟨_, rfl⟩
          obtain ⟨y3, f3⟩ : ∃ y, y = ahN k x c 3 := ⟨_, rfl⟩
          obtain ⟨z0, d0⟩ : ∃ z, z = nkF k x m := ⟨_, rfl⟩
          obtain ⟨z1, d1⟩ : ∃ z, z = nkF k x (m + 1) := ⟨_, rfl⟩
          obtain ⟨z2, d2⟩ : ∃ z, z = nkF k x (m + 2) := ⟨_, rfl⟩
          obtain ⟨z3, d3⟩ : ∃ z, z = nkF k x (m + 3) := ⟨_, rfl⟩
          simp only [← e0, ← e1, ← e2, ← e3, ← f0, ← f1, ← f2, ← f3, ← d0, ← d1, ← d2, ← d3] at hC' hpu hnext g0 g1 g2 g3 k0 k1 k2 k3 t0 t1 t2 t3
          have R1 := Lib.hid (And.intro r1 (And.intro r2 (And.intro r3 rb)))
          have HFF : Hid (∀ W, Below wr.drew.heap.size wr.drew W → _) := fun W hb => four_free ((hb.block _ (lt_heap r1)).trans r1) (by rw [hpl]; exact hm16) z0 z1 z2
          have HC1 := Lib.hid hC'
          have HPU1 := Lib.hid hpu
          have HNX := Lib.hid hnext
          have HT := Lib.hid (And.intro t0 (And.intro t1 (And.intro t2 t3)))
          have ec : c * 4 = m := by omega
          have c1 : (c : Int) < 4 := by omega
          have c0 : (0 : Int) ≤ (c : Int) := by omega
          clear hm r1 r2 r3 rb hC' hpu hpl hnext e0 e1 e2 e3 f0 f1 f2 f3 d0 d1 d2 d3 t0 t1 t2 t3
          go_wp2
          go_region_with (first
            | (go_at_call 72; with_reducible (refine Calls.mono (HC1.out _) ?_); rintro e wq ⟨rfl, hbq⟩; obtain ⟨⟨q0, q1, q2, q3⟩, p0, p1, p2, p3⟩ := HFF.out _ hbq))
          all_goals
            obtain ⟨r1, r2, r3, rb⟩ := R1.out
            have hb2 : Below wr.heap.size wr wq := ((Below.refl _ _).drew).trans hbq
            have s1 := put_BA ((hb2.block _ (lt_heap r1)).trans r1) m [z0, z1, z2, z3]
            rw [HPU1.out] at s1
            have s2 := (heap_setCells_other w.heap.size (w.heap.size + 1) (by omega) (vals [z0, z1, z2, z3]) wq m).trans ((hb2.block _ (lt_heap r2)).trans r2)
            have s3 := (heap_setCells_other w.heap.size (w.heap.size + 2) (by omega) (vals [z0, z1, z2, z3]) wq m).trans ((hb2.block _ (lt_heap r3)).trans r3)
            have s4 := below_setCs (chain rb hb2) (Nat.le_refl w.heap.size) (vals [z0, z1, z2, z3]) m
            obtain ⟨W4, hW4⟩ : ∃ W, W = wq.setCells w.heap.size m (vals [z0, z1, z2, z3]) := ⟨_, rfl⟩
            rw [← hW4] at s1 s2 s3 s4
            have hW5 : (((wq.setCell ⟨w.heap.size, m, none⟩ (.int .u8 (z0 : Int))).setCell ⟨w.heap.size, m + 1, none⟩ (.int .u8 (z1 : Int))).setCell ⟨w.heap.size, m + 2, none⟩ (.int .u8 (z2 : Int))).setCell ⟨w.heap.size, m + 3, none⟩ (.int .u8 (z3 : Int)) = W4 := hW4.symm
            obtain ⟨t0, t1, t2, t3⟩ := HT.out
            have n0 := BA_cell s1 (i := m) (by rw [HPL.out]; omega)
            have n1 := BA_cell s1 (i := m + 1) (by rw [HPL.out]; omega)
            have n2 := BA_cell s1 (i := m + 2) (by rw [HPL.out]; omega)
            have n3 := BA_cell s1 (i := m + 3) (by rw [HPL.out]; omega)
            rw [t0] at n0
            rw [t1] at n1
            rw [t2] at n2
            rw [t3] at n3
            obtain ⟨⟨a0, a1, a2, a3⟩, b0, b1, b2, b3⟩ := four_free s3 (m := 0) (by show 4 ≤ 4; decide) z0 z1 z2
            simp only [Nat.zero_add] at a0 a1 a2 a3 b0 b1 b2 b3
            have u1 := (heap_setCells_other (w.heap.size + 2) w.heap.size (by omega) (vals [z0, z1, z2, z3]) W4 0).trans s1
            have u2 := (heap_setCells_other (w.heap.size + 2) (w.heap.size + 1) (by omega) (vals [z0, z1, z2, z3]) W4 0).trans s2
            have u3 := put_BA s3 0 [z0, z1, z2, z3]
            rw [show putL (ahL k x c) 0 [z0, z1, z2, z3] = ahL k x (c + 1) from (putL_four rfl _ _ _ _).trans HNX.out] at u3
            have u4 := below_setCs s4 (show w.heap.size ≤ w.heap.size + 2 by omega) (vals [z0, z1, z2, z3]) 0
            rw [show m + 4 = 4 * (c + 1) by rw [HM.out]; omega] at u1
            have RR := Lib.hid (And.intro u1 (And.intro u2 (And.intro u3 u4)))
            clear s1 s2 s3 s4 r1 r2 r3 rb hb2 hbq q0 q1 q2 q3 p0 p1 p2 p3 u1 u2 u3 u4 t0 t1 t2 t3 hW4
            rw [hW5]
            clear hW5
            go_wp2
            go_roundw
            case rel => first | exact ⟨c + 1, by omega, by go_num, RR.out⟩ | ((repeat apply Exists.intro); exact ⟨⟨c + 1, by omega, by go_num, RR.out⟩, rfl⟩)
            case measure => simp [intOf]; omega
        · have hc' : c = 4 := by omega
          subst hc'
          rw [show 4 * 4 = 16 from rfl, HP4.out] at r1
          have hl := HOK.out
          have h1 := BA_one (nextL k x)
          obtain ⟨I, hI⟩ : ∃ I, I = nextL k x := ⟨_, rfl⟩
          rw [← hI] at r1 hl h1
          have hi := (show (Tryd.prog.info? 80).map (·.size) = some (BA I).size by rw [BA_size, hl]; kernel_rfl)
          have hzi : (BA Z).size = (BA I).size := by rw [BA_size, BA_size, hl, hzl]
          have HI := Lib.hid hI
          clear hI
          go_wp2_with (first
            | (refine wpList_load_row rfl 80 _ rfl w.heap.size rfl 80 _ (0, 0) _ r1 hu rfl hi ?_)
            | (refine wpList_store_fresh rfl 80 _ _ rfl (w.heap.size + 1) (BA I) rfl rfl 80 (BA Z) r2 hi hzi h1 rb (by omega) ?_; intro W hW hbW hkW hsW))
          refine bodyPost_ret (v := .agg (BA I)) ?_ rfl ⟨by rw [HI.out], hbW⟩
          exact results_mid rfl _ _ (w.heap.size + 1) I _ _ _ rfl hW hu rfl (by rw [hi, BA_size])

end Go.Proofs.YtanpfodmmeagaaaDoor
