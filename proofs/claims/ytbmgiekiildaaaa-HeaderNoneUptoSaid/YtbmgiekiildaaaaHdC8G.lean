/-
  The landed header: newestOf. Written by wip/gen/head_new.py. The document's own header: Encode (stowageref18). The document's own header: Encode, where it refuses nothing (stowageref18).
-/
import Derived.Test.YtbmgiekiildaaaaIntRowG
import Derived.Test.YtbmgiekiildaaaaHdC4G
import Derived.Deep.DeepCutAuto
import Derived.Test.YtbmgiekiildaaaaCrcRefG
import Derived.Test.YtbmgiekiildaaaaTableRef2G
import Derived.Deep.MidRow
import Derived.Lib.AppendStr
import Derived.Test.YtbmgiekiildaaaaHdC3G
namespace Go.Proofs.Ytbmgiekiildaaaa
open Go.RowKit

set_option maxHeartbeats 1600000 in
set_option maxRecDepth 20000 in
/-- 'newestOf'. -/
theorem hnewest_any (blk most : Int) (A : Option Addr) (c : Nat) (l : List Rc) (w : World) (h : RecsAt w w.heap.size A l) (hm : l.length ≤ 64) :
    Calls Try.prog 29 #[.int .i64 blk, .int .i64 most, .slice A l.length c] w fun e w' => e = .returned (.agg (rcV (newL blk most l))) ∧ Below w.heap.size w w' := by
  have HNO := Lib.hid (fun n hg => newTo_no (blk := blk) (most := most) (l := l) (n := n) hg)
  have HYE := Lib.hid (fun n hg => newTo_yes (blk := blk) (most := most) (l := l) (n := n) hg)
  obtain ⟨W, hW⟩ : ∃ W, W = (w.alloc (.cells zeroH 23)).alloc (.cells zeroH 23) := ⟨_, rfl⟩
  have HST : Hid (W.heap[w.heap.size + 1]? = some (.cells zeroH 23 (0, 0)) ∧ W.heap[w.heap.size]? = some (.cells zeroH 23 (0, 0)) ∧ Below w.heap.size w W) := by
    have h1 := heap_alloc_new (w.alloc (.cells zeroH 23)) (.cells zeroH 23)
    rw [show (w.alloc (.cells zeroH 23)).heap.size = w.heap.size + 1 by simp, ← hW] at h1
    refine ⟨h1, ?_, ?_⟩
    · rw [hW, Below.heap_alloc _ _ _ (by simp)]; exact heap_alloc_new _ _
    · rw [hW]; exact ((Below.refl _ _).alloc (Nat.le_refl _) _).alloc (by simp) _
  obtain ⟨N, hN⟩ : ∃ N, N = l.length := ⟨_, rfl⟩
  have HN := Lib.hid hN
  have HH := Lib.hid h
  rw [← hN] at hm ⊢
  unfold zeroH at hW
  clear h hN
  go_enter Try.func29, Try.ntmps29
  go_wp2
  rw [← hW]
  clear hW
  obtain ⟨G, hG⟩ : ∃ G : Nat → Rc, G = newTo blk most l := ⟨_, rfl⟩
  have HG0 : Hid (rcV (G 0) = zeroH) := by rw [hG]; rfl
  have HGG : Hid (newL blk most l = G N) := by rw [hG, HN.out]; rfl
  simp only [← hG] at HNO HYE
  clear hG
  go_loopw [12] (fun i wr => ∃ n : Nat, n ≤ N ∧ i = .int .i64 n ∧ Hid (wr.heap[w.heap.size + 1]? = some (.cells (rcV (G n)) 23 (0, 0)) ∧ wr.heap[w.heap.size]? = some (.cells zeroH 23 (0, 0)) ∧ Below w.heap.size w wr)) (fun i _ => N - (intOf i).toNat)
  case atStart => exact ⟨0, Nat.zero_le _, rfl, by rw [HG0.out]; exact HST.out⟩
  case round =>
    obtain ⟨n, hn, rfl, hS⟩ := hrel
    clear HST
    by_cases hlt : n < N
    · obtain ⟨b, off, rfl, hbl, hmid⟩ := recs_mid (HH.out.below hS.out.2.2) (k := n) (by have := HN.out; omega)
      obtain ⟨nb, hnb⟩ : ∃ x, x = G n := ⟨_, rfl⟩
      obtain ⟨x, hx⟩ : ∃ x, x = l.getD n hZero := ⟨_, rfl⟩
      rw [← hx] at hmid
      have hxv : (hdC x).toArray = rcV x := Array.toArray_toList
      have HXX := Lib.hid hx
      have HNB := Lib.hid hnb
      have hbs := hS.out.2.2.size
      have hq1 := (Array.getElem?_eq_some_iff.1 hS.out.1).1
      have HX0 : Hid ((wr.alloc (.cells (rcV x) 23)).heap[wr.heap.size]? = some (.cells (rcV x) 23 (0, 0)) ∧ (wr.alloc (.cells (rcV x) 23)).heap[w.heap.size + 1]? = some (.cells (rcV (G n)) 23 (0, 0)) ∧ (wr.alloc (.cells (rcV x) 23)).heap[w.heap.size]? = some (.cells zeroH 23 (0, 0)) ∧ Below w.heap.size w (wr.alloc (.cells (rcV x) 23))) :=
        ⟨heap_alloc_new _ _, by rw [Below.heap_alloc _ _ _ hq1]; exact hS.out.1, by rw [Below.heap_alloc _ _ _ (by omega)]; exact hS.out.2.1, hS.out.2.2.alloc hbs _⟩
      obtain ⟨xk, xa, xb, xc, xd, xs⟩ := x
      have hk0 : (0 : Int) ≤ (n : Int) := by omega
      have hk1 : (n : Int) < (N : Int) := by omega
      have HX1 := HX0.out
      simp only [rcV] at HX1
      have HX : Hid ((wr.alloc (.cells #[.int .i64 xk, .int .i64 xa, .int .i64 xb, .int .i64 xc, .int .i64 xd, .string xs] 23)).heap[wr.heap.size]? = some (.cells (rcV ⟨xk, xa, xb, xc, xd, xs⟩) 23 (0, 0)) ∧ (wr.alloc (.cells #[.int .i64 xk, .int .i64 xa, .int .i64 xb, .int .i64 xc, .int .i64 xd, .string xs] 23)).heap[w.heap.size + 1]? = some (.cells (rcV (G n)) 23 (0, 0)) ∧ (wr.alloc (.cells #[.int .i64 xk, .int .i64 xa, .int .i64 xb, .int .i64 xc, .int .i64 xd, .string xs] 23)).heap[w.heap.size]? = some (.cells zeroH 23 (0, 0)) ∧ Below w.heap.size w (wr.alloc (.cells #[.int .i64 xk, .int .i64 xa, .int .i64 xb, .int .i64 xc, .int .i64 xd, .string xs] 23))) := HX1
      obtain ⟨y0, y1, y2, y3, y4, y5⟩ := cells6 HX.out.1
      obtain ⟨z0, z1, z2, z3, z4, z5⟩ := cells6 HX.out.2.1
      rw [← HNB.out] at z4
      obtain ⟨nd, hnd⟩ : ∃ x, x = nb.d := ⟨_, rfl⟩
      rw [← hnd] at z4
      have HND := Lib.hid hnd
      clear hx hS hq1 hbs hnb hbl HX0 HX1 y0 y1 y3 y5 z0 z1 z2 z3 z5 hnd
      by_cases d1 : xb = blk
      · have e1 : (xb == blk) = true := by rw [beq_iff_eq]; exact d1
        have h1 := Lib.hid d1
        clear d1
        by_cases d2 : xd ≤ most
        · by_cases d3 : nd < xd
          · have HE := Lib.hid (HYE.out n ⟨by rw [← HXX.out]; exact h1.out, by rw [← HXX.out]; exact d2, by rw [← HXX.out, ← HNB.out, ← HND.out]; exact d3⟩)
            have hinf : (Try.prog.info? 23).map (·.size) = some (rcV ⟨xk, xa, xb, xc, xd, xs⟩).size := Try.infoHead
            have hone := rcV_ones ⟨xk, xa, xb, xc, xd, xs⟩
            have hsz : Hid ((rcV nb).size = (rcV ⟨xk, xa, xb, xc, xd, xs⟩).size) := rfl
            obtain ⟨PX, hPX⟩ : ∃ P, P = rcV ⟨xk, xa, xb, xc, xd, xs⟩ := ⟨_, rfl⟩
            rw [← hPX] at hinf hone hsz
            have HXR : Hid ((wr.alloc (.cells #[.int .i64 xk, .int .i64 xa, .int .i64 xb, .int .i64 xc, .int .i64 xd, .string xs] 23)).heap[wr.heap.size]? = some (.cells PX 23 (0, 0))) := by rw [hPX]; exact HX.out.1
            have HPX := Lib.hid hPX
            have HXQ : Hid ((wr.alloc (.cells #[.int .i64 xk, .int .i64 xa, .int .i64 xb, .int .i64 xc, .int .i64 xd, .string xs] 23)).heap[w.heap.size + 1]? = some (.cells (rcV nb) 23 (0, 0))) := by rw [HNB.out]; exact HX.out.2.1
            clear hPX
            go_wp2_with (first
              | (refine wpList_load_mid rfl 23 _ rfl b (off + n * 6) rfl (hdC ⟨xk, xa, xb, xc, xd, xs⟩) _ hmid Try.underlying23 rfl Try.infoHead ?_; rw [hxv]; simp only [rcV])
              | (refine wpList_load_row rfl 23 _ rfl wr.heap.size rfl 23 _ (0, 0) _ HXR.out Try.underlying23 rfl hinf ?_)
              | (refine wpList_store_fresh rfl 23 _ _ rfl (w.heap.size + 1) PX rfl rfl 23 _ HXQ.out hinf hsz.out hone HX.out.2.2.2 (Nat.le_succ _) ?_; intro W2 hW2 hbW2 hkW2 hsW2
                 have R : Hid (W2.heap[w.heap.size + 1]? = some (.cells (rcV (G (n + 1))) 23 (0, 0)) ∧ W2.heap[w.heap.size]? = some (.cells zeroH 23 (0, 0)) ∧ Below w.heap.size w W2) := (by rw [HE.out, ← HXX.out, ← HPX.out]; exact ⟨hW2, (hkW2 _ (by omega)).trans HX.out.2.2.1, hbW2⟩)
                 clear hW2 hbW2 hkW2 hsW2))
            go_roundw
            case rel => first | exact ⟨n + 1, by omega, by go_num, R⟩ | ((repeat apply Exists.intro); exact ⟨⟨n + 1, by omega, by go_num, R⟩, rfl⟩)
            case measure => first | (simp [intOf]; done) | (simp [intOf]; omega)
          · have HE := Lib.hid (HNO.out n (fun q => d3 (by have := q.2.2; rw [← HXX.out, ← HNB.out, ← HND.out] at this; exact this)))
            have R : Hid ((wr.alloc (.cells #[.int .i64 xk, .int .i64 xa, .int .i64 xb, .int .i64 xc, .int .i64 xd, .string xs] 23)).heap[w.heap.size + 1]? = some (.cells (rcV (G (n + 1))) 23 (0, 0)) ∧ (wr.alloc (.cells #[.int .i64 xk, .int .i64 xa, .int .i64 xb, .int .i64 xc, .int .i64 xd, .string xs] 23)).heap[w.heap.size]? = some (.cells zeroH 23 (0, 0)) ∧ Below w.heap.size w (wr.alloc (.cells #[.int .i64 xk, .int .i64 xa, .int .i64 xb, .int .i64 xc, .int .i64 xd, .string xs] 23))) := by rw [HE.out]; exact ⟨HX.out.2.1, HX.out.2.2.1, HX.out.2.2.2⟩
            go_wp2_with (first
              | (refine wpList_load_mid rfl 23 _ rfl b (off + n * 6) rfl (hdC ⟨xk, xa, xb, xc, xd, xs⟩) _ hmid Try.underlying23 rfl Try.infoHead ?_; rw [hxv]; simp only [rcV])
              | fail)
            go_roundw
            case rel => first | exact ⟨n + 1, by omega, by go_num, R⟩ | ((repeat apply Exists.intro); exact ⟨⟨n + 1, by omega, by go_num, R⟩, rfl⟩)
            case measure => first | (simp [intOf]; done) | (simp [intOf]; omega)
        · have HE := Lib.hid (HNO.out n (fun q => d2 (by have := q.2.1; rw [← HXX.out] at this; exact this)))
          have R : Hid ((wr.alloc (.cells #[.int .i64 xk, .int .i64 xa, .int .i64 xb, .int .i64 xc, .int .i64 xd, .string xs] 23)).heap[w.heap.size + 1]? = some (.cells (rcV (G (n + 1))) 23 (0, 0)) ∧ (wr.alloc (.cells #[.int .i64 xk, .int .i64 xa, .int .i64 xb, .int .i64 xc, .int .i64 xd, .string xs] 23)).heap[w.heap.size]? = some (.cells zeroH 23 (0, 0)) ∧ Below w.heap.size w (wr.alloc (.cells #[.int .i64 xk, .int .i64 xa, .int .i64 xb, .int .i64 xc, .int .i64 xd, .string xs] 23))) := by rw [HE.out]; exact ⟨HX.out.2.1, HX.out.2.2.1, HX.out.2.2.2⟩
          go_wp2_with (first
            | (refine wpList_load_mid rfl 23 _ rfl b (off + n * 6) rfl (hdC ⟨xk, xa, xb, xc, xd, xs⟩) _ hmid Try.underlying23 rfl Try.infoHead ?_; rw [hxv]; simp only [rcV])
            | fail)
          go_roundw
          case rel => first | exact ⟨n + 1, by omega, by go_num, R⟩ | ((repeat apply Exists.intro); exact ⟨⟨n + 1, by omega, by go_num, R⟩, rfl⟩)
          case measure => first | (simp [intOf]; done) | (simp [intOf]; omega)
      · have e1 : (xb == blk) = false := by rw [beq_eq_false_iff_ne]; exact d1
        have HE := Lib.hid (HNO.out n (fun q => d1 (by have := q.1; rw [← HXX.out] at this; exact this)))
        have R : Hid ((wr.alloc (.cells #[.int .i64 xk, .int .i64 xa, .int .i64 xb, .int .i64 xc, .int .i64 xd, .string xs] 23)).heap[w.heap.size + 1]? = some (.cells (rcV (G (n + 1))) 23 (0, 0)) ∧ (wr.alloc (.cells #[.int .i64 xk, .int .i64 xa, .int .i64 xb, .int .i64 xc, .int .i64 xd, .string xs] 23)).heap[w.heap.size]? = some (.cells zeroH 23 (0, 0)) ∧ Below w.heap.size w (wr.alloc (.cells #[.int .i64 xk, .int .i64 xa, .int .i64 xb, .int .i64 xc, .int .i64 xd, .string xs] 23))) := by rw [HE.out]; exact ⟨HX.out.2.1, HX.out.2.2.1, HX.out.2.2.2⟩
        go_wp2_with (first
          | (refine wpList_load_mid rfl 23 _ rfl b (off + n * 6) rfl (hdC ⟨xk, xa, xb, xc, xd, xs⟩) _ hmid Try.underlying23 rfl Try.infoHead ?_; rw [hxv]; simp only [rcV])
          | fail)
        go_roundw
        case rel => first | exact ⟨n + 1, by omega, by go_num, R⟩ | ((repeat apply Exists.intro); exact ⟨⟨n + 1, by omega, by go_num, R⟩, rfl⟩)
        case measure => first | (simp [intOf]; done) | (simp [intOf]; omega)
    · have hnN : n = N := by omega
      have k1 : ¬ (n : Int) < (N : Int) := by omega
      have hinf : (Try.prog.info? 23).map (·.size) = some (rcV (G n)).size := Try.infoHead
      have hone := rcV_ones (G n)
      have hsz : Hid (zeroH.size = (rcV (G n)).size) := rfl
      obtain ⟨PX, hPX⟩ : ∃ P, P = rcV (G n) := ⟨_, rfl⟩
      rw [← hPX] at hinf hone hsz hS
      have HPX : Hid (rcV (newL blk most l) = PX) := by rw [hPX, HGG.out, hnN]; rfl
      clear hPX hnN
      go_wp2_with (first
        | (refine wpList_load_row rfl 23 _ rfl (w.heap.size + 1) rfl 23 _ (0, 0) _ hS.out.1 Try.underlying23 rfl hinf ?_)
        | (refine wpList_store_fresh rfl 23 _ _ rfl w.heap.size PX rfl rfl 23 _ hS.out.2.1 hinf hsz.out hone hS.out.2.2 (Nat.le_refl _) ?_; intro W2 hW2 hbW2 hkW2 hsW2; clear hkW2 hsW2))
      refine bodyPost_ret (v := .agg PX) ?_ rfl ⟨by rw [HPX.out], hbW2⟩
      exact results_cell_row rfl _ _ w.heap.size 23 _ (0, 0) _ rfl hW2 Try.underlying23 rfl hinf

end Go.Proofs.Ytbmgiekiildaaaa

namespace Go.Proofs.Ytbmgiekiildaaaa
open Go.RowKit

theorem Try.infoU8H : (Try.prog.info? 5).map (fun i => (i.zero, i.size, i.bytes)) = some (some (.int .u8 0), 1, 1) := by kernel_rfl

/-- 'Sum'. -/
theorem hrefSum_any (A : Option Addr) (c B : Nat) (zs : List Int) (w : World) (hr : Ints w B .u8 A zs) (hz : ∀ z ∈ zs, 0 ≤ z ∧ z ≤ 255) (hm : zs.length ≤ 9223372036854775807) :
    Calls Try.prog 23 #[.slice A zs.length c] w fun e w' => e = .returned (.int .u32 (moreN 0 (nb zs) : Nat)) ∧ w = w' := by
  have HM := Lib.hid (refMore_any A c B zs 0 w hr hz hm (by decide))
  clear hz hr
  go_enter Try.func23, Try.ntmps23
  go_wp2_with (go_at_call 33; with_reducible (refine Calls.mono HM.out ?_); rintro e w' ⟨rfl, rfl⟩)
  go_ret
  exact ⟨rfl, rfl⟩

set_option maxHeartbeats 1600000 in
set_option maxRecDepth 20000 in
theorem hrefEnc_no (h : Rc) (w : World) (hn : ¬ hRng h) :
    Calls Try.prog 10 #[.agg (rcV h)] w fun e w' => e = .returned (.tuple #[.slice none 0 0, .int .i64 7]) ∧ Below w.heap.size w w' := by
  obtain ⟨⟨F0, F1, F2, F3, F4, F5⟩, hb0⟩ := hd_box w h 23
  obtain ⟨k, a, b, c, d, key⟩ := h
  simp only [rcV, hRng] at F0 F1 F2 F3 F4 F5 hb0 hn ⊢
  have HB := Lib.hid hb0
  have HN := Lib.hid hn
  clear hb0 hn
  by_cases d0 : k < 1
  · go_enter Try.func10, Try.ntmps10
    go_wp2
    go_ret2
    exact ⟨rfl, HB.out⟩
  by_cases d1 : 7 < k
  · go_enter Try.func10, Try.ntmps10
    go_wp2
    go_ret2
    exact ⟨rfl, HB.out⟩
  by_cases d2 : a < 0
  · go_enter Try.func10, Try.ntmps10
    go_wp2
    go_ret2
    exact ⟨rfl, HB.out⟩
  by_cases d3 : 7 < a
  · go_enter Try.func10, Try.ntmps10
    go_wp2
    go_ret2
    exact ⟨rfl, HB.out⟩
  by_cases d4 : b < 0
  · go_enter Try.func10, Try.ntmps10
    go_wp2
    go_ret2
    exact ⟨rfl, HB.out⟩
  by_cases d5 : 31 < b
  · go_enter Try.func10, Try.ntmps10
    go_wp2
    go_ret2
    exact ⟨rfl, HB.out⟩
  by_cases d6 : c < 0
  · go_enter Try.func10, Try.ntmps10
    go_wp2
    go_ret2
    exact ⟨rfl, HB.out⟩
  by_cases d7 : 63 < c
  · go_enter Try.func10, Try.ntmps10
    go_wp2
    go_ret2
    exact ⟨rfl, HB.out⟩
  by_cases d8 : d < 1
  · go_enter Try.func10, Try.ntmps10
    go_wp2
    go_ret2
    exact ⟨rfl, HB.out⟩
  by_cases d9 : 1099511627776 < d
  · go_enter Try.func10, Try.ntmps10
    go_wp2
    go_ret2
    exact ⟨rfl, HB.out⟩
  exact absurd (by omega) HN.out

set_option maxHeartbeats 1600000 in
set_option maxRecDepth 20000 in
theorem hrefEnc_key (h : Rc) (w : World) (hr : hRng h) (hk : h.key.size ≠ 16) :
    Calls Try.prog 10 #[.agg (rcV h)] w fun e w' => e = .returned (.tuple #[.slice none 0 0, .int .i64 1]) ∧ Below w.heap.size w w' := by
  obtain ⟨⟨F0, F1, F2, F3, F4, F5⟩, hb0⟩ := hd_box w h 23
  obtain ⟨k, a, b, c, d, key⟩ := h
  simp only [rcV, hRng] at F0 F1 F2 F3 F4 F5 hb0 hr hk ⊢
  have HB := Lib.hid hb0
  obtain ⟨⟨a1, a2⟩, ⟨a3, a4⟩, ⟨a5, a6⟩, ⟨a7, a8⟩, ⟨a9, a10⟩⟩ := hr
  have d0 : ¬ k < 1 := by omega
  have d1 : ¬ 7 < k := by omega
  have d2 : ¬ a < 0 := by omega
  have d3 : ¬ 7 < a := by omega
  have d4 : ¬ b < 0 := by omega
  have d5 : ¬ 31 < b := by omega
  have d6 : ¬ c < 0 := by omega
  have d7 : ¬ 63 < c := by omega
  have d8 : ¬ d < 1 := by omega
  have d9 : ¬ 1099511627776 < d := by omega
  have e1 : (((key.size : Nat) : Int) != 16) = true := by rw [bne_iff_ne]; omega
  clear hb0 hk a1 a2 a3 a4 a5 a6 a7 a8 a9 a10
  go_enter Try.func10, Try.ntmps10
  go_wp2
  go_ret2
  exact ⟨rfl, HB.out⟩

end Go.Proofs.Ytbmgiekiildaaaa

namespace Go.Proofs.Ytbmgiekiildaaaa
open Go.RowKit

theorem hpow_8 (q : Nat) : (2 : Int) ^ (8 * q) = 256 ^ q := by rw [Int.pow_mul]; rfl
theorem cells_four (w : World) (x0 x1 x2 x3 : Value) (t : TypeId) : ∀ j u, [x0, x1, x2, x3][j]? = some u → (w.alloc (.cells #[x0, x1, x2, x3] t)).cell? ((⟨w.heap.size, 0, none⟩ : Addr).add j) = some u := by
  intro j u hj
  match j, hj with
  | 0, hj => simp at hj; subst hj; simp [Addr.add]
  | 1, hj => simp at hj; subst hj; simp [Addr.add]
  | 2, hj => simp at hj; subst hj; simp [Addr.add]
  | 3, hj => simp at hj; subst hj; simp [Addr.add]
theorem hstr_keyI (s : ByteArray) : Lib.strCells s = (keyI s).map (Value.int .u8) := by
  unfold Lib.strCells keyI; rw [List.map_map]; rfl
theorem hrow_slice {w : World} {base e n : Nat} {v : Value} {xs : List Value} (h : w.ownsRow base e 1 v n xs) : ∃ A c, v = .slice A n c := own_slice h

set_option maxHeartbeats 3200000 in
set_option maxRecDepth 20000 in
theorem hrefEnc_yes (h : Rc) (w : World) (hE : hErr h = 0) :
    Calls Try.prog 10 #[.agg (rcV h)] w fun e w' => ∃ A c, e = .returned (.tuple #[.slice A 64 c, .int .i64 0]) ∧ 64 ≤ c ∧ Ints w' w'.heap.size .u8 A (hSec h) ∧ Below w.heap.size w w' := by
  obtain ⟨hr, hk⟩ := hErr_zero.1 hE
  obtain ⟨i0, hi8, hz0, hz1, hz2⟩ := info_parts Try.infoU8H
  have HBX := hd_box w h 23
  obtain ⟨W, hW⟩ : ∃ W, W = w.alloc (.cells (rcV h) 23) := ⟨_, rfl⟩
  have HROW : Hid (W.heap[w.heap.size]? = some (.cells (rcV h) 23 (0, 0))) := by rw [hW]; exact heap_alloc_new _ _
  have HSW : Hid (W.heap.size = w.heap.size + 1) := by rw [hW]; unfold Hid; simp
  rw [← hW] at HBX
  obtain ⟨⟨F0, F1, F2, F3, F4, F5⟩, hbW⟩ := HBX
  have HBM := Lib.hid (hBody_mem h)
  have HFR := Lib.hid (hFront_eq hr)
  have HBD : Hid (hBody h = hFront h ++ keyI h.key ++ List.replicate 30 0) := by unfold Hid hBody; rw [List.append_assoc]
  have HSC : Hid (hSec h = hBody h ++ sumB (hBody h)) := rfl
  have HBL := Lib.hid (hBody_len hk)
  obtain ⟨k, a, b, c, d, key⟩ := h
  simp only at HBD HFR hk
  simp only [rcV, hRng] at F0 F1 F2 F3 F4 F5 hW hr ⊢
  obtain ⟨⟨a1, a2⟩, ⟨a3, a4⟩, ⟨a5, a6⟩, ⟨a7, a8⟩, ⟨a9, a10⟩⟩ := hr
  have d0 : ¬ k < 1 := by omega
  have d1 : ¬ 7 < k := by omega
  have d2 : ¬ a < 0 := by omega
  have d3 : ¬ 7 < a := by omega
  have d4 : ¬ b < 0 := by omega
  have d5 : ¬ 31 < b := by omega
  have d6 : ¬ c < 0 := by omega
  have d7 : ¬ 63 < c := by omega
  have d8 : ¬ d < 1 := by omega
  have d9 : ¬ 1099511627776 < d := by omega
  have e1 : (((key.size : Nat) : Int) != 16) = false := by rw [bne_eq_false_iff_eq]; omega
  have w1 : IntKind.u8.wrap k = k := IntWalk.u8_in _ (by omega)
  have w2 : IntKind.u8.wrap a = a := IntWalk.u8_in _ (by omega)
  have w3 : IntKind.u8.wrap b = b := IntWalk.u8_in _ (by omega)
  have w4 : IntKind.u8.wrap c = c := IntWalk.u8_in _ (by omega)
  have HD := Lib.hid (And.intro a9 a10)
  have HHK := Lib.hid hk
  have HBW := Lib.hid hbW
  clear hk a1 a2 a3 a4 a5 a6 a7 a8 a9 a10 hE hbW
  go_enter Try.func10, Try.ntmps10
  go_wp2
  rw [← hW]
  clear hW F0 F1 F2 F3 F4 F5 w1 w2 w3 w4 d0 d1 d2 d3 d4 d5 d6 d7 d8 d9
  obtain ⟨T, hT⟩ : ∃ T, T = [83, 72, k, a, b, c] := ⟨_, rfl⟩
  have HT := Lib.hid hT
  have hT6 : T.length = 6 := by rw [hT]; rfl
  have HT6 := Lib.hid hT6
  have HOW : Hid ((W.alloc (.cells #[.int .u8 83, .int .u8 72, .int .u8 k, .int .u8 a, .int .u8 b, .int .u8 c] 5)).ownsRow (w.heap.size + 1) 5 1 (.slice (some ⟨w.heap.size + 1, 0, none⟩) 6 6) 6 (T.map (Value.int .u8)) ∧ Below (w.heap.size + 1) W (W.alloc (.cells #[.int .u8 83, .int .u8 72, .int .u8 k, .int .u8 a, .int .u8 b, .int .u8 c] 5))) := by
    rw [hT, ← HSW.out]
    exact ⟨World.ownsRow_lit (base := W.heap.size) (e := 5) (size := 1) W #[.int .u8 83, .int .u8 72, .int .u8 k, .int .u8 a, .int .u8 b, .int .u8 c] 6 (Nat.le_refl _) (by decide) rfl, (Below.refl _ _).alloc (Nat.le_refl _) _⟩
  clear hT hT6
  go_loopw [4, 5] (fun v i wr => ∃ n : Nat, n ≤ 8 ∧ i = .int .i64 ((8 : Int) - 1 - n) ∧ (∃ A c, v = .slice A (6 + n) c) ∧ Hid (wr.ownsRow (w.heap.size + 1) 5 1 v (6 + n) ((T ++ bytesTo d 8 n).map (Value.int .u8)) ∧ Below (w.heap.size + 1) W wr)) (fun _ i _ => (intOf i + 1).toNat)
  case atStart => exact ⟨0, Nat.zero_le _, by go_num, ⟨_, _, rfl⟩, by rw [bytesTo_zero, List.append_nil]; exact HOW.out⟩
  case round =>
    obtain ⟨n, hn, rfl, ⟨A1, c1, rfl⟩, hS⟩ := hrel
    clear HOW
    by_cases hlt : n < 8
    · obtain ⟨hown, hbel⟩ := hS.out
      have hcell : wr.cell? ⟨w.heap.size, 4, none⟩ = some (.int .i64 d) := by
        rw [cell_of_row _ _ _ _ _ _ ((hbel.block _ (Nat.lt_succ_self _)).trans HROW.out)]; rfl
      obtain ⟨q, hq⟩ : ∃ q : Nat, q = 8 - 1 - n := ⟨_, rfl⟩
      have hq1 : (8 : Int) - 1 - n = (q : Int) := by omega
      rw [hq1]
      have HQ := Lib.hid hq1
      have hq7 : q ≤ 7 := by omega
      have hbs : w.heap.size + 1 ≤ wr.heap.size := by have := hbel.size; have := HSW.out; omega
      have HE1 : Hid (bytesTo d 8 (n + 1) = bytesTo d 8 n ++ [d / 256 ^ q % 256]) := by unfold Hid; rw [bytesTo_succ, hq]
      have HSH : Hid ((d / 2 ^ (8 * q) : Int) = d / 256 ^ q) := by unfold Hid; rw [hpow_8]
      clear hS hq1 hq
      go_wp2_with (at_builtin; refine wpList_append_own_at _ rfl _ _ 24 rfl (w.heap.size + 1) 5 i0 (.int .u8 0) 1 1 Try.underlying24 hi8 hz0 hz1 hz2 rfl (by decide) _ _ _ rfl (hown.alloc _) ⟨wr.heap.size, 0, none⟩ 1 1 [_] rfl rfl (cell_one_new _ _ _) ?c2 ?c3 ?c4 ?c5 ?_)
      case c2 => intro u hu; simp at hu; subst hu; rfl
      case c3 => unfold maxLen; omega
      case c4 => omega
      case c5 => simp; omega
      intro v1 w1 hown1 hgrow _ _
      have R : Hid (w1.ownsRow (w.heap.size + 1) 5 1 v1 (6 + (n + 1)) ((T ++ bytesTo d 8 (n + 1)).map (Value.int .u8)) ∧ Below (w.heap.size + 1) W w1) := by
        refine ⟨?_, (hbel.alloc hbs _).grown hgrow (by simp; omega) fun q hq => (hown.lt q hq).1⟩
        rw [HE1.out, List.map_append, List.map_append, ← HSH.out, ← Nat.add_assoc]
        exact hown1
      obtain ⟨A3, c3, rfl⟩ := own_slice R.out.1
      clear hown1 hgrow hown hbel hbs hcell
      go_wp2
      go_roundw
      case rel => have := HQ.out; first | exact ⟨n + 1, by omega, by go_num, ⟨A3, c3, rfl⟩, R⟩ | ((repeat apply Exists.intro); exact ⟨⟨n + 1, by omega, by go_num, ⟨A3, c3, rfl⟩, R⟩, rfl⟩)
      case measure => have := HQ.out; first | (simp [intOf]; done) | (simp [intOf]; omega)
    · have hn8 : n = 8 := by omega
      subst hn8
      have hneg : (8 : Int) - 1 - ((8 : Nat) : Int) = -1 := by omega
      rw [hneg]
      obtain ⟨hown, hbel⟩ := hS.out
      have hcell : wr.cell? ⟨w.heap.size, 5, none⟩ = some (.string key) := by
        rw [cell_of_row _ _ _ _ _ _ ((hbel.block _ (Nat.lt_succ_self _)).trans HROW.out)]; rfl
      have HFT : Hid (T ++ bytesTo d 8 8 = hFront ⟨k, a, b, c, d, key⟩) := by unfold Hid; rw [HFR.out, HT.out]; rfl
      rw [HFT.out] at hown
      have hbs : w.heap.size + 1 ≤ wr.heap.size := by have := hbel.size; have := HSW.out; omega
      have hks := HHK.out
      clear hS hneg
      go_wp2_with (have hguard := hown; clear hguard; at_builtin; refine Lib.wpList_append_own_string _ rfl _ _ 24 9 rfl (w.heap.size + 1) 5 i0 Try.underlying24 Try.underlying9 hi8 hz0 hz1 hz2 _ _ _ rfl hown key rfl ?e1 ?e2 hbs ?_)
      case e1 => unfold maxLen; omega
      case e2 => omega
      intro vk wk owk hgk _
      have bbk : Below (w.heap.size + 1) W wk := hbel.grown hgk hbs fun q9 hq9 => (hown.lt q9 hq9).1
      obtain ⟨T2, hT2⟩ : ∃ T2, T2 = hFront ⟨k, a, b, c, d, key⟩ ++ keyI key := ⟨_, rfl⟩
      have nT2 : T2.length = 30 := by rw [hT2, List.length_append, hFront_len, keyI_len, hks]
      have owT : wk.ownsRow (w.heap.size + 1) 5 1 vk 30 (T2.map (Value.int .u8)) := by
        rw [hT2, List.map_append, ← hstr_keyI]
        exact owk
      have HBD2 : Hid (hBody ⟨k, a, b, c, d, key⟩ = T2 ++ List.replicate 30 0) := by unfold Hid; rw [HBD.out, hT2]
      obtain ⟨A0, c0, rfl⟩ := own_slice owT
      have HO := Lib.hid (And.intro owT bbk)
      clear owk hgk owT bbk hown hbel hcell hbs hks hT2 HBD HFR HFT
      go_wp2
      go_loopw [4] (fun v wr => ∃ n : Nat, n ≤ 30 ∧ (∃ A c, v = .slice A (30 + n) c) ∧ Hid (wr.ownsRow (w.heap.size + 1) 5 1 v (30 + n) ((T2 ++ List.replicate n 0).map (Value.int .u8)) ∧ Below (w.heap.size + 1) W wr)) (fun v _ => match v with | .slice _ n _ => 60 - n | _ => 0)
      case atStart => exact ⟨0, Nat.zero_le _, ⟨A0, c0, rfl⟩, by rw [List.replicate_zero, List.append_nil]; exact HO.out⟩
      case round =>
        obtain ⟨n, hn, ⟨A1, c1, rfl⟩, hS⟩ := hrel
        clear HO
        by_cases hlt : n < 30
        · obtain ⟨hownr, hbel⟩ := hS.out
          have k1 : (30 : Int) + (n : Int) < 60 := by omega
          have hbs : w.heap.size + 1 ≤ wr.heap.size := by have := hbel.size; have := HSW.out; omega
          clear hS
          go_wp2_with (at_builtin; refine wpList_append_own_at _ rfl _ _ 24 rfl (w.heap.size + 1) 5 i0 (.int .u8 0) 1 1 Try.underlying24 hi8 hz0 hz1 hz2 rfl (by decide) _ _ _ rfl (hownr.alloc _) ⟨wr.heap.size, 0, none⟩ 1 1 [_] rfl rfl (cell_one_new _ _ _) ?c2 ?c3 ?c4 ?c5 ?_)
          case c2 => intro u hu; simp at hu; subst hu; rfl
          case c3 => unfold maxLen; omega
          case c4 => omega
          case c5 => simp; omega
          intro v1 w1 hown1 hgrow _ _
          have R1 : Hid (w1.ownsRow (w.heap.size + 1) 5 1 v1 (30 + (n + 1)) ((T2 ++ List.replicate (n + 1) 0).map (Value.int .u8)) ∧ Below (w.heap.size + 1) W w1) := by
            refine ⟨?_, (hbel.alloc hbs _).grown hgrow (by simp; omega) fun q hq => (hownr.lt q hq).1⟩
            rw [List.replicate_succ', List.map_append, List.map_append, List.map_replicate, ← Nat.add_assoc]; exact hown1
          obtain ⟨A3, c3, rfl⟩ := own_slice R1.out.1
          clear hown1 hgrow hownr hbel hbs
          go_wp2
          go_roundw
          case rel => first | exact ⟨n + 1, by omega, ⟨A3, c3, rfl⟩, R1⟩ | ((repeat apply Exists.intro); exact ⟨⟨n + 1, by omega, ⟨A3, c3, rfl⟩, R1⟩, rfl⟩)
          case measure => first | (simp; done) | (simp; omega)
        · have hn30 : n = 30 := by omega
          subst hn30
          obtain ⟨hownr, hbel⟩ := hS.out
          rw [← HBD2.out] at hownr
          have hbs : w.heap.size + 1 ≤ wr.heap.size := by have := hbel.size; have := HSW.out; omega
          obtain ⟨Bd, hBd⟩ : ∃ B, B = hBody ⟨k, a, b, c, d, key⟩ := ⟨_, rfl⟩
          rw [← hBd] at hownr HBM HBL HSC
          have hbl := HBL.out
          have hI : Ints wr wr.heap.size .u8 A1 Bd := Ints.of_own (n := 60) (c := c1) (by rw [hbl]; exact hownr)
          have HSU := Lib.hid (hrefSum_any A1 c1 wr.heap.size Bd wr hI HBM.out (by omega))
          rw [hbl] at HSU
          have hsm := moreN_lt 0 (nb Bd)
          obtain ⟨sm, hsme⟩ : ∃ s : Int, s = ((moreN 0 (nb Bd) : Nat) : Int) := ⟨_, rfl⟩
          have hsm0 : 0 ≤ sm ∧ sm ≤ 4294967295 := by omega
          rw [← hsme] at HSU
          have HS4 : Hid (sumB Bd = [sm / 16777216, sm / 65536 % 256, sm / 256 % 256, sm % 256]) := by
            unfold Hid sumB bytesOf bytesTo
            rw [← hsme]
            show [sm / 256 ^ 3 % 256, sm / 256 ^ 2 % 256, sm / 256 ^ 1 % 256, sm / 256 ^ 0 % 256] = _
            rw [show (256 : Int) ^ 3 = 16777216 by decide, show (256 : Int) ^ 2 = 65536 by decide, show (256 : Int) ^ 1 = 256 by decide, show (256 : Int) ^ 0 = 1 by decide, Int.ediv_one, Int.emod_eq_of_lt (a := sm / 16777216) (by omega) (by omega)]
          clear hI hS hbl hsm hsme hBd
          go_wp2_with (first
            | (go_at_call 23; with_reducible (refine Calls.mono HSU.out ?_); rintro e wq ⟨rfl, rfl⟩)
            | (at_builtin; refine wpList_append_own_at _ rfl _ _ 24 rfl (w.heap.size + 1) 5 i0 (.int .u8 0) 1 1 Try.underlying24 hi8 hz0 hz1 hz2 rfl (by decide) _ _ _ rfl (hownr.alloc _) ⟨wr.heap.size, 0, none⟩ 4 4 [_, _, _, _] rfl rfl (cells_four _ _ _ _ _ _) ?c2 ?c3 ?c4 ?c5 ?_))
          case c2 => intro u hu; simp at hu; rcases hu with rfl | rfl | rfl | rfl <;> rfl
          case c3 => unfold maxLen; omega
          case c4 => omega
          case c5 => simp; omega
          intro v1 w1 hown1 hgrow _ _
          have R : Hid (w1.ownsRow (w.heap.size + 1) 5 1 v1 64 ((hSec ⟨k, a, b, c, d, key⟩).map (Value.int .u8)) ∧ Below (w.heap.size + 1) W w1) := by
            refine ⟨?_, (hbel.alloc hbs _).grown hgrow (by simp; omega) fun q hq => (hownr.lt q hq).1⟩
            rw [HSC.out, HS4.out, List.map_append]
            exact hown1
          obtain ⟨A3, c3, rfl⟩ := own_slice R.out.1
          have HL : Hid ((hSec ⟨k, a, b, c, d, key⟩).length = 64) := by unfold Hid; rw [HSC.out, List.length_append, HBL.out, sumB_len]
          clear hown1 hgrow hownr hbel hbs
          go_wp2
          go_ret2
          refine ⟨A3, c3, rfl, own_le R.out.1, Ints.of_own (n := 64) (c := c3) (by rw [HL.out]; exact R.out.1), HBW.out.trans (R.out.2.mono (Nat.le_succ _))⟩

end Go.Proofs.Ytbmgiekiildaaaa
