/-
  The landed header: goodOf. Written by wip/gen/head_good.py. The landed header: numbers, of a head that is in range. A row of bytes that lies whole in a block of one's own: what it holds; make of 64; copy of bytes and of a text into it.
-/
import Derived.Test.YtbmgiekiildaaaaIntRowG
import Derived.Deep.QuietTactic
import Derived.Deep.DeepCutAuto
import Derived.Test.YtbmgiekiildaaaaTableRef2G
import Derived.Test.YtbmgiekiildaaaaChecked
import Derived.Lib.BufferWrite
import Derived.Deep.OwnRows
namespace Go.Proofs.Ytbmgiekiildaaaa
open Go.RowKit

set_option maxHeartbeats 1600000 in
set_option maxRecDepth 20000 in
/-- 'goodOf'. -/
theorem hgood_any (v : Vol) (os : List Int) (A3 : Option Addr) (c3 : Nat) (A : Option Addr) (c : Nat) (hs : List Rc) (w : World) (hO : Ints w w.heap.size .i64 A3 os) (h : RecsAt w w.heap.size A hs) (hl : hs.length = os.length) (hm : os.length ≤ 64) :
    Calls Try.prog 27 #[.agg (volV v), .slice A3 os.length c3, .slice A hs.length c] w fun e w' => ∃ A' c', e = .returned (.slice A' (goodL v os hs).length c') ∧ (goodL v os hs).length ≤ c' ∧ RecsAt w' w'.heap.size A' (goodL v os hs) ∧ (∀ a, A' = some a → w.heap.size ≤ a.block ∧ a.block < w'.heap.size) ∧ Below w.heap.size w w' := by
  obtain ⟨i6, hi8, hz0, hz1, hz2⟩ := info_parts Try.infoHeadF
  have HNO := Lib.hid (fun n (hg : goodB v os n (hs.getD n hZero) = false) => goodTo_no (hs := hs) hg)
  have HYE := Lib.hid (fun n (hg : goodB v os n (hs.getD n hZero) = true) => goodTo_yes (hs := hs) hg)
  have HGL := Lib.hid (goodTo_len v os hs)
  have HGD : Hid (goodL v os hs = goodTo v os hs hs.length) := rfl
  have HBX := hvol_box w v 46
  obtain ⟨W, hW⟩ : ∃ W, W = w.alloc (.cells (volV v) 46) := ⟨_, rfl⟩
  have HSW : Hid (W.heap.size = w.heap.size + 1) := by rw [hW]; unfold Hid; simp
  have HROW : Hid (W.heap[w.heap.size]? = some (.cells (volV v) 46 (0, 0))) := by rw [hW]; exact heap_alloc_new _ _
  rw [← hW] at HBX
  obtain ⟨⟨F0, F1, F2, F3⟩, hbW⟩ := HBX
  have HI := Lib.hid hO
  have HH := Lib.hid h
  have HBW := Lib.hid hbW
  obtain ⟨N, hN⟩ : ∃ N, N = hs.length := ⟨_, rfl⟩
  have HGB : Hid (∀ n, goodB v os n (hs.getD n hZero) = decide ((hs.getD n hZero).c = (n : Int) ∧ (hs.getD n hZero).k = os.getD n 0 ∧ (hs.getD n hZero).a = v.id ∧ (hs.getD n hZero).k = v.ten ∧ (hs.getD n hZero).b < v.blocks ∧ 1 ≤ (hs.getD n hZero).d)) := fun n => rfl
  have HN : Hid (N = hs.length ∧ N = os.length) := ⟨hN, hN.trans hl⟩
  rw [← hN, ← HN.out.2]
  have hN64 : N ≤ 64 := by rw [HN.out.2]; exact hm
  obtain ⟨vi, vt, vb, va⟩ := v
  simp only [volV] at F0 F1 F2 F3 hW HGB ⊢
  clear h hO hl hm hN hbW F3
  go_enter Try.func27, Try.ntmps27
  go_wp2
  rw [← hW]
  clear hW F0 F1 F2
  obtain ⟨G, hG⟩ : ∃ G : Nat → List Rc, G = goodTo ⟨vi, vt, vb, va⟩ os hs := ⟨_, rfl⟩
  have HG0 : Hid (G 0 = []) := by rw [hG]; rfl
  have HGG : Hid (goodL ⟨vi, vt, vb, va⟩ os hs = G N) := by rw [hG, HN.out.1]; rfl
  simp only [← hG] at HNO HYE HGL
  clear hG HGD
  go_loopw [7, 14] (fun v i wr => ∃ n : Nat, n ≤ N ∧ i = .int .i64 n ∧ (∃ A c, v = .slice A (G n).length c) ∧ Hid (wr.ownsRow (w.heap.size + 1) 23 6 v (G n).length (flat hdC (G n)) ∧ Below (w.heap.size + 1) W wr)) (fun _ i _ => N - (intOf i).toNat)
  case atStart =>
    refine ⟨0, Nat.zero_le _, rfl, ⟨none, 0, by rw [HG0.out]; rfl⟩, ?_, Below.refl _ _⟩
    rw [HG0.out]; exact hown_nil _ _ _
  case round =>
    obtain ⟨n, hn, rfl, ⟨A1, c1, rfl⟩, hS⟩ := hrel
    by_cases hlt : n < N
    · obtain ⟨hown, hbel⟩ := hS.out
      have hbs : w.heap.size + 1 ≤ wr.heap.size := by have := hbel.size; have := HSW.out; omega
      have hbww : Below w.heap.size w wr := HBW.out.trans (hbel.mono (Nat.le_succ _))
      obtain ⟨b, off, rfl, hbl, hmid⟩ := recs_mid (HH.out.below hbww) (k := n) (by have := HN.out.1; omega)
      obtain ⟨bo, oo, rfl, hbo, hco⟩ := (HI.out.below hbww) n (by have := HN.out.2; omega)
      have hrw := (hbel.block w.heap.size (Nat.lt_succ_self _)).trans HROW.out
      have HNO1 := Lib.hid (HNO.out n)
      have HYE1 := Lib.hid (HYE.out n)
      have HGB1 := Lib.hid (HGB.out n)
      have hgl := HGL.out n
      have HGL1 := Lib.hid (HGL.out (n + 1))
      obtain ⟨x, hx⟩ : ∃ x, x = hs.getD n hZero := ⟨_, rfl⟩
      rw [← hx] at hmid HNO1 HYE1 HGB1
      obtain ⟨o0, ho0⟩ : ∃ o, o = os.getD n 0 := ⟨_, rfl⟩
      rw [← ho0] at hco HGB1
      -- the box of the round
      have HBOX : Hid ((wr.alloc (.cells (rcV x) 23)).ownsRow (w.heap.size + 1) 23 6 (.slice A1 (G n).length c1) (G n).length (flat hdC (G n)) ∧ Below (w.heap.size + 1) W (wr.alloc (.cells (rcV x) 23))) := ⟨hown.alloc _, hbel.alloc hbs _⟩
      have hxv : (hdC x).toArray = rcV x := Array.toArray_toList
      obtain ⟨xk, xa, xb, xc, xd, xs⟩ := x
      have hk0 : (0 : Int) ≤ (n : Int) := by omega
      have hk1 : (n : Int) < (N : Int) := by omega
      have HR := Lib.hid hrw
      clear hx ho0 hS hown hbel hbww hrw
      go_wp2_with (first
        | (refine wpList_load_mid rfl 23 _ rfl b (off + n * 6) rfl (hdC ⟨xk, xa, xb, xc, xd, xs⟩) _ hmid Try.underlying23 rfl Try.infoHead ?_; rw [hxv]; simp only [rcV])
        | fail)
      obtain ⟨X, hX⟩ : ∃ X, X = wr.alloc (.cells #[.int .i64 xk, .int .i64 xa, .int .i64 xb, .int .i64 xc, .int .i64 xd, .string xs] 23) := ⟨_, rfl⟩
      have HXB : Hid (X.ownsRow (w.heap.size + 1) 23 6 (.slice A1 (G n).length c1) (G n).length (flat hdC (G n)) ∧ Below (w.heap.size + 1) W X) := by rw [hX]; exact HBOX.out
      have hxr : X.heap[wr.heap.size]? = some (.cells (rcV ⟨xk, xa, xb, xc, xd, xs⟩) 23 (0, 0)) := by rw [hX]; exact heap_alloc_new _ _
      have hxw : Below wr.heap.size wr X := by rw [hX]; exact (Below.refl _ _).alloc (Nat.le_refl _) _
      have hxs : w.heap.size + 1 ≤ X.heap.size := Nat.le_trans hbs hxw.size
      rw [← hX]
      obtain ⟨p, hp⟩ : ∃ p, p = wr.heap.size := ⟨_, rfl⟩
      obtain ⟨y0, y1, y2, y3, y4, y5⟩ := cells6 hxr
      have hxv2 := (hxw.block _ (Array.getElem?_eq_some_iff.1 HR.out).1).trans HR.out
      have u0 := (hxw.cell (p := ⟨bo, oo + n, none⟩) (show bo < wr.heap.size by omega)).trans hco
      rw [← hp] at y0 y1 y2 y3 y4 y5 hxr ⊢
      have HXALL : Hid ((X.ownsRow (w.heap.size + 1) 23 6 (.slice A1 (G n).length c1) (G n).length (flat hdC (G n)) ∧ Below (w.heap.size + 1) W X) ∧ X.heap[p]? = some (.cells (rcV ⟨xk, xa, xb, xc, xd, xs⟩) 23 (0, 0)) ∧ X.heap[w.heap.size]? = some (.cells (volV ⟨vi, vt, vb, va⟩) 46 (0, 0)) ∧ w.heap.size + 1 ≤ X.heap.size) := ⟨HXB.out, hxr, hxv2, hxs⟩
      clear HBOX HR hX hxr hxw hxs hmid hco hp y5 hbl hbo HXB hxv2 hbs
      go_cut [10] (fun v10 wq => ∃ B, v10 = .bool B ∧ Hid (B = decide (xc = (n : Int) ∧ xk = o0)) ∧ Hid ((wq.ownsRow (w.heap.size + 1) 23 6 (.slice A1 (G n).length c1) (G n).length (flat hdC (G n)) ∧ Below (w.heap.size + 1) W wq) ∧ wq.heap[p]? = some (.cells (rcV ⟨xk, xa, xb, xc, xd, xs⟩) 23 (0, 0)) ∧ wq.heap[w.heap.size]? = some (.cells (volV ⟨vi, vt, vb, va⟩) 46 (0, 0)) ∧ w.heap.size + 1 ≤ wq.heap.size))
      case first =>
        by_cases d1 : xc = (n : Int)
        · have e1 : (xc == (n : Int)) = true := by rw [beq_iff_eq]; exact d1
          by_cases d2 : xk = o0
          · have e2 : (xk == o0) = true := by rw [beq_iff_eq]; exact d2
            have HD : Hid (true = decide (xc = (n : Int) ∧ xk = o0)) := (decide_eq_true ⟨d1, d2⟩).symm
            clear d1 d2
            go_quiet (fail)
            go_wp2
            go_meet
            exact ⟨_, rfl, HD, Lib.hid ⟨⟨HXALL.out.1.1, below_drewN HXALL.out.1.2 _⟩, HXALL.out.2⟩⟩
          · have e2 : (xk == o0) = false := by rw [beq_eq_false_iff_ne]; exact d2
            have HD : Hid (false = decide (xc = (n : Int) ∧ xk = o0)) := (decide_eq_false fun q => d2 q.2).symm
            clear d1 d2
            go_quiet (fail)
            go_wp2
            go_meet
            exact ⟨_, rfl, HD, Lib.hid ⟨⟨HXALL.out.1.1, below_drewN HXALL.out.1.2 _⟩, HXALL.out.2⟩⟩
        · have e1 : (xc == (n : Int)) = false := by rw [beq_eq_false_iff_ne]; exact d1
          have HD : Hid (false = decide (xc = (n : Int) ∧ xk = o0)) := (decide_eq_false fun q => d1 q.1).symm
          clear d1
          go_quiet (fail)
          go_wp2
          go_meet
          exact ⟨_, rfl, HD, Lib.hid ⟨⟨HXALL.out.1.1, below_drewN HXALL.out.1.2 _⟩, HXALL.out.2⟩⟩
      case rest =>
        obtain ⟨B, rfl, HB, HX⟩ := hcut
        clear HXALL y0 y1 y2 y3 y4 u0
        obtain ⟨y0, y1, y2, y3, y4, y5⟩ := cells6 HX.out.2.1
        obtain ⟨z0, z1, z2, z3⟩ := cells4 HX.out.2.2.1
        clear y3 y5 z3
        cases B
        · have HB2 := Lib.hid (of_decide_eq_false HB.out.symm)
          by_cases d3 : xa = vi
          · have e3 : (xa == vi) = true := by rw [beq_iff_eq]; exact d3
            have h3 := Lib.hid d3
            clear d3
            by_cases d4 : xk = vt
            · have e4 : (xk == vt) = true := by rw [beq_iff_eq]; exact d4
              have h4 := Lib.hid d4
              clear d4
              have HE := Lib.hid (HNO1.out (by rw [HGB1.out]; exact decide_eq_false (fun q => HB2.out ⟨q.1, q.2.1⟩)))
              have HLE : Hid ((G (n + 1)).length = (G n).length) := by unfold Hid; rw [HE.out]
              have HXB : Hid (wc.ownsRow (w.heap.size + 1) 23 6 (.slice A1 (G n).length c1) (G (n + 1)).length (flat hdC (G (n + 1))) ∧ Below (w.heap.size + 1) W wc) := by rw [HE.out]; exact HX.out.1
              go_wp2
              go_roundw
              case rel => first | exact ⟨n + 1, by omega, by go_num, ⟨A1, c1, by rw [HLE.out]⟩, HXB⟩ | ((repeat apply Exists.intro); exact ⟨⟨n + 1, by omega, by go_num, ⟨A1, c1, by rw [HLE.out]⟩, HXB⟩, rfl⟩)
              case measure => first | (simp [intOf]; done) | (simp [intOf]; omega)
            · have e4 : (xk == vt) = false := by rw [beq_eq_false_iff_ne]; exact d4
              have HE := Lib.hid (HNO1.out (by rw [HGB1.out]; exact decide_eq_false (fun q => d4 q.2.2.2.1)))
              have HLE : Hid ((G (n + 1)).length = (G n).length) := by unfold Hid; rw [HE.out]
              have HXB : Hid (wc.ownsRow (w.heap.size + 1) 23 6 (.slice A1 (G n).length c1) (G (n + 1)).length (flat hdC (G (n + 1))) ∧ Below (w.heap.size + 1) W wc) := by rw [HE.out]; exact HX.out.1
              go_wp2
              go_roundw
              case rel => first | exact ⟨n + 1, by omega, by go_num, ⟨A1, c1, by rw [HLE.out]⟩, HXB⟩ | ((repeat apply Exists.intro); exact ⟨⟨n + 1, by omega, by go_num, ⟨A1, c1, by rw [HLE.out]⟩, HXB⟩, rfl⟩)
              case measure => first | (simp [intOf]; done) | (simp [intOf]; omega)
          · have e3 : (xa == vi) = false := by rw [beq_eq_false_iff_ne]; exact d3
            have HE := Lib.hid (HNO1.out (by rw [HGB1.out]; exact decide_eq_false (fun q => d3 q.2.2.1)))
            have HLE : Hid ((G (n + 1)).length = (G n).length) := by unfold Hid; rw [HE.out]
            have HXB : Hid (wc.ownsRow (w.heap.size + 1) 23 6 (.slice A1 (G n).length c1) (G (n + 1)).length (flat hdC (G (n + 1))) ∧ Below (w.heap.size + 1) W wc) := by rw [HE.out]; exact HX.out.1
            go_wp2
            go_roundw
            case rel => first | exact ⟨n + 1, by omega, by go_num, ⟨A1, c1, by rw [HLE.out]⟩, HXB⟩ | ((repeat apply Exists.intro); exact ⟨⟨n + 1, by omega, by go_num, ⟨A1, c1, by rw [HLE.out]⟩, HXB⟩, rfl⟩)
            case measure => first | (simp [intOf]; done) | (simp [intOf]; omega)
        · have HB2 := Lib.hid (of_decide_eq_true HB.out.symm)
          by_cases d3 : xa = vi
          · have e3 : (xa == vi) = true := by rw [beq_iff_eq]; exact d3
            have h3 := Lib.hid d3
            clear d3
            by_cases d4 : xk = vt
            · have e4 : (xk == vt) = true := by rw [beq_iff_eq]; exact d4
              have h4 := Lib.hid d4
              clear d4
              by_cases d5 : xb < vb
              · by_cases d6 : 1 ≤ xd
                · have HE := Lib.hid (HYE1.out (by rw [HGB1.out]; exact decide_eq_true ⟨HB2.out.1, HB2.out.2, h3.out, h4.out, d5, d6⟩))
                  have HLE : Hid ((G (n + 1)).length = (G n).length + 1) := by unfold Hid; rw [HE.out, List.length_append]; rfl
                  have hinf : (Try.prog.info? 23).map (·.size) = some (rcV ⟨xk, xa, xb, xc, xd, xs⟩).size := Try.infoHead
                  go_wp2_with (first
                    | (refine wpList_load_row rfl 23 _ rfl p rfl 23 _ (0, 0) _ HX.out.2.1 Try.underlying23 rfl hinf ?_; simp only [rcV])
                    | (at_builtin; refine wpList_append_own_at _ rfl _ _ 39 rfl (w.heap.size + 1) 23 i6 (.agg #[.int .i64 0, .int .i64 0, .int .i64 0, .int .i64 0, .int .i64 0, .string ⟨#[]⟩]) 6 56 Try.underlying39 hi8 hz0 hz1 hz2 rfl (by decide) _ _ _ rfl (HX.out.1.1.alloc _) ⟨wc.heap.size, 0, none⟩ 1 1 [.int .i64 xk, .int .i64 xa, .int .i64 xb, .int .i64 xc, .int .i64 xd, .string xs] rfl rfl (hdC_new6 _ _ _ _ _ _ _ _) ?c2 ?c3 ?c4 ?c5 ?_))
                  case c2 => exact ⟨rfl, rfl, rfl, rfl, rfl, rfl⟩
                  case c3 => unfold maxLen; omega
                  case c4 => omega
                  case c5 => have := HX.out.2.2.2; simp; omega
                  intro v1 w1 hown1 hgrow _ _
                  have R : Hid (w1.ownsRow (w.heap.size + 1) 23 6 v1 (G (n + 1)).length (flat hdC (G (n + 1))) ∧ Below (w.heap.size + 1) W w1) := by
                    refine ⟨?_, (HX.out.1.2.alloc HX.out.2.2.2 _).grown hgrow (by have := HX.out.2.2.2; simp; omega) fun q hq => (HX.out.1.1.lt q hq).1⟩
                    rw [HE.out, List.length_append, flat_snoc]
                    exact hown1
                  obtain ⟨A9, c9, rfl⟩ := hown_slice R.out.1
                  clear hown1 hgrow
                  go_wp2
                  go_roundw
                  case rel => first | exact ⟨n + 1, by omega, by go_num, ⟨A9, c9, rfl⟩, R⟩ | ((repeat apply Exists.intro); exact ⟨⟨n + 1, by omega, by go_num, ⟨A9, c9, rfl⟩, R⟩, rfl⟩)
                  case measure => first | (simp [intOf]; done) | (simp [intOf]; omega)
                · have HE := Lib.hid (HNO1.out (by rw [HGB1.out]; exact decide_eq_false (fun q => d6 q.2.2.2.2.2)))
                  have HLE : Hid ((G (n + 1)).length = (G n).length) := by unfold Hid; rw [HE.out]
                  have HXB : Hid (wc.ownsRow (w.heap.size + 1) 23 6 (.slice A1 (G n).length c1) (G (n + 1)).length (flat hdC (G (n + 1))) ∧ Below (w.heap.size + 1) W wc) := by rw [HE.out]; exact HX.out.1
                  go_wp2
                  go_roundw
                  case rel => first | exact ⟨n + 1, by omega, by go_num, ⟨A1, c1, by rw [HLE.out]⟩, HXB⟩ | ((repeat apply Exists.intro); exact ⟨⟨n + 1, by omega, by go_num, ⟨A1, c1, by rw [HLE.out]⟩, HXB⟩, rfl⟩)
                  case measure => first | (simp [intOf]; done) | (simp [intOf]; omega)
              · have HE := Lib.hid (HNO1.out (by rw [HGB1.out]; exact decide_eq_false (fun q => d5 q.2.2.2.2.1)))
                have HLE : Hid ((G (n + 1)).length = (G n).length) := by unfold Hid; rw [HE.out]
                have HXB : Hid (wc.ownsRow (w.heap.size + 1) 23 6 (.slice A1 (G n).length c1) (G (n + 1)).length (flat hdC (G (n + 1))) ∧ Below (w.heap.size + 1) W wc) := by rw [HE.out]; exact HX.out.1
                go_wp2
                go_roundw
                case rel => first | exact ⟨n + 1, by omega, by go_num, ⟨A1, c1, by rw [HLE.out]⟩, HXB⟩ | ((repeat apply Exists.intro); exact ⟨⟨n + 1, by omega, by go_num, ⟨A1, c1, by rw [HLE.out]⟩, HXB⟩, rfl⟩)
                case measure => first | (simp [intOf]; done) | (simp [intOf]; omega)
            · have e4 : (xk == vt) = false := by rw [beq_eq_false_iff_ne]; exact d4
              have HE := Lib.hid (HNO1.out (by rw [HGB1.out]; exact decide_eq_false (fun q => d4 q.2.2.2.1)))
              have HLE : Hid ((G (n + 1)).length = (G n).length) := by unfold Hid; rw [HE.out]
              have HXB : Hid (wc.ownsRow (w.heap.size + 1) 23 6 (.slice A1 (G n).length c1) (G (n + 1)).length (flat hdC (G (n + 1))) ∧ Below (w.heap.size + 1) W wc) := by rw [HE.out]; exact HX.out.1
              go_wp2
              go_roundw
              case rel => first | exact ⟨n + 1, by omega, by go_num, ⟨A1, c1, by rw [HLE.out]⟩, HXB⟩ | ((repeat apply Exists.intro); exact ⟨⟨n + 1, by omega, by go_num, ⟨A1, c1, by rw [HLE.out]⟩, HXB⟩, rfl⟩)
              case measure => first | (simp [intOf]; done) | (simp [intOf]; omega)
          · have e3 : (xa == vi) = false := by rw [beq_eq_false_iff_ne]; exact d3
            have HE := Lib.hid (HNO1.out (by rw [HGB1.out]; exact decide_eq_false (fun q => d3 q.2.2.1)))
            have HLE : Hid ((G (n + 1)).length = (G n).length) := by unfold Hid; rw [HE.out]
            have HXB : Hid (wc.ownsRow (w.heap.size + 1) 23 6 (.slice A1 (G n).length c1) (G (n + 1)).length (flat hdC (G (n + 1))) ∧ Below (w.heap.size + 1) W wc) := by rw [HE.out]; exact HX.out.1
            go_wp2
            go_roundw
            case rel => first | exact ⟨n + 1, by omega, by go_num, ⟨A1, c1, by rw [HLE.out]⟩, HXB⟩ | ((repeat apply Exists.intro); exact ⟨⟨n + 1, by omega, by go_num, ⟨A1, c1, by rw [HLE.out]⟩, HXB⟩, rfl⟩)
            case measure => first | (simp [intOf]; done) | (simp [intOf]; omega)
    · have hnN : n = N := by omega
      have k1 : ¬ (n : Int) < (N : Int) := by omega
      have R : Hid ((G n).length ≤ c1 ∧ RecsAt wr wr.heap.size A1 (G n) ∧ (∀ a, A1 = some a → w.heap.size ≤ a.block ∧ a.block < wr.heap.size) ∧ Below w.heap.size w wr) := ⟨hown_le hS.out.1, hrecs_of_own hS.out.1 rfl, (fun a ha => by have := hS.out.1.lt a.block (by rw [ha]; rfl); omega), HBW.out.trans (hS.out.2.mono (Nat.le_succ _))⟩
      have HGG2 : Hid (goodL ⟨vi, vt, vb, va⟩ os hs = G n) := by rw [hnN]; exact HGG.out
      clear hS
      go_wp2
      go_ret
      exact ⟨A1, c1, by rw [HGG2.out, hnN]; rfl, by rw [HGG2.out]; exact R.out.1, by rw [HGG2.out]; exact R.out.2.1, R.out.2.2.1, R.out.2.2.2⟩

end Go.Proofs.Ytbmgiekiildaaaa

namespace Go.Proofs.Ytbmgiekiildaaaa
open Go.RowKit

/-- The numbers ahead of the tag, but for the mark. -/
def hTail (h : Rc) : List Int := [h.k, h.a, h.b, h.c, h.d]
def hNum (h : Rc) : List Int := 21320 :: hTail h
theorem hTail_at {h : Rc} (hr : hRng h) : ∀ i, i < 5 → 0 ≤ (hTail h).getD i 0 ∧ (hTail h).getD i 0 ≤ 1099511627776 := by
  obtain ⟨q1, q2, q3, q4, q5⟩ := hr
  intro i hi
  match i, hi with
  | 0, _ => show 0 ≤ h.k ∧ h.k ≤ _; omega
  | 1, _ => show 0 ≤ h.a ∧ h.a ≤ _; omega
  | 2, _ => show 0 ≤ h.b ∧ h.b ≤ _; omega
  | 3, _ => show 0 ≤ h.c ∧ h.c ≤ _; omega
  | 4, _ => show 0 ≤ h.d ∧ h.d ≤ _; omega
theorem Try.infoU64H : (Try.prog.info? 54).map (fun i => (i.zero, i.size, i.bytes)) = some (some (.int .u64 0), 1, 8) := by kernel_rfl

set_option maxHeartbeats 1600000 in
set_option maxRecDepth 20000 in
/-- 'numbers'. -/
theorem hnumbers_any (h : Rc) (w : World) (hr : hRng h) :
    Calls Try.prog 19 #[.agg (rcV h)] w fun e w' => ∃ A c, e = .returned (.slice A 6 c) ∧ Ints w' w'.heap.size .u64 A (hNum h) ∧ Below w.heap.size w w' := by
  obtain ⟨i0, hi8, hz0, hz1, hz2⟩ := info_parts Try.infoU64H
  have HTB := Lib.hid (hTail_at hr)
  have HTT : Hid (ICs (hTail h) = #[.int .i64 h.k, .int .i64 h.a, .int .i64 h.b, .int .i64 h.c, .int .i64 h.d]) := rfl
  obtain ⟨T, hT⟩ : ∃ T, T = hTail h := ⟨_, rfl⟩
  have nT : T.length = 5 := by rw [hT]; rfl
  have HNL : Hid (hNum h = 21320 :: T) := by rw [hT]; rfl
  rw [← hT] at HTB HTT
  clear hr hT
  have HBX := hd_box w h 23
  obtain ⟨W, hW⟩ : ∃ W, W = w.alloc (.cells (rcV h) 23) := ⟨_, rfl⟩
  rw [← hW] at HBX
  obtain ⟨⟨F0, F1, F2, F3, F4, F5⟩, hbW⟩ := HBX
  have hWW := Lib.hid hW
  obtain ⟨a0, a1, a2, a3, a4, key⟩ := h
  simp only [rcV] at F0 F1 F2 F3 F4 F5 hW ⊢
  have hsW : W.heap.size = w.heap.size + 1 := by rw [hWW.out]; simp
  have hba : Below W.heap.size W (W.alloc (.cells #[.int .u64 21320] 54)) := (Below.refl _ _).alloc (Nat.le_refl _) _
  have HC : Hid (((W.alloc (.cells #[.int .u64 21320] 54)).alloc (.cells (ICs T) 3)).ownsRow (w.heap.size + 1) 54 1 (.slice (some ⟨w.heap.size + 1, 0, none⟩) 1 1) 1 [.int .u64 21320] ∧ IRow 3 (w.heap.size + 1 + 1) T ((W.alloc (.cells #[.int .u64 21320] 54)).alloc (.cells (ICs T) 3)) ∧ Below (w.heap.size + 1) W ((W.alloc (.cells #[.int .u64 21320] 54)).alloc (.cells (ICs T) 3))) := by
    rw [← hsW]
    refine ⟨((World.ownsRow_lit (base := W.heap.size) (e := 54) (size := 1) W #[.int .u64 21320] 1 (Nat.le_refl _) (by decide) rfl).alloc _), ?_, hba.alloc hba.size _⟩
    have h := IRow.new (W.alloc (.cells #[.int .u64 21320] 54)) 3 T
    rw [show (W.alloc (.cells #[.int .u64 21320] 54)).heap.size = W.heap.size + 1 by simp] at h
    exact h
  have HNK : Hid (∀ k, k < 5 → T.take (k + 1) = T.take k ++ [T.getD k 0]) := fun k hk => take_snoc T k (by omega)
  have HT5 : Hid (T.take 5 = T) := List.take_of_length_le (by omega)
  have HNT := Lib.hid nT
  have hbw := Lib.hid hbW
  have HSW : Hid (w.heap.size + 1 ≤ W.heap.size) := by unfold Hid; omega
  clear hbW hba hWW nT hsW
  go_enter Try.func19, Try.ntmps19
  go_wp2
  rw [← HTT.out, ← hW]
  obtain ⟨V, hV⟩ : ∃ V, V = (W.alloc (.cells #[.int .u64 21320] 54)).alloc (.cells (ICs T) 3) := ⟨_, rfl⟩
  rw [← hV] at HC ⊢
  clear hV hW HTT F0 F1 F2 F3 F4 F5
  go_loopw [3, 19] (fun v i wr => ∃ k : Nat, k ≤ 5 ∧ i = .int .i64 k ∧ (∃ A c, v = .slice A (1 + k) c) ∧ Hid (wr.ownsRow (w.heap.size + 1) 54 1 v (1 + k) ((21320 :: T.take k).map (Value.int .u64)) ∧ v.ownBlock ≠ some (w.heap.size + 1 + 1) ∧ IRow 3 (w.heap.size + 1 + 1) T wr ∧ Below (w.heap.size + 1) W wr)) (fun _ i _ => 5 - (intOf i).toNat)
  case atStart =>
    refine ⟨0, Nat.zero_le _, rfl, ⟨_, _, rfl⟩, HC.out.1, fun h => ?_, HC.out.2⟩
    have : w.heap.size + 1 = w.heap.size + 1 + 1 := by injection h
    omega
  case round =>
    obtain ⟨k, hk, rfl, ⟨A1, c1, rfl⟩, hS⟩ := hrel
    clear HC
    by_cases hlt : k < 5
    · obtain ⟨hown, hne, hrow, hbel⟩ := hS.out
      have hq0 := hrow.cell (i := k) (by have := HNT.out; omega)
      obtain ⟨x0, x1⟩ := HTB.out k hlt
      have HK1 := Lib.hid (HNK.out k hlt)
      have k1 : (k : Int) < 5 := by omega
      have k0 : (0 : Int) ≤ (k : Int) := by omega
      have hq1 := hrow.lt
      obtain ⟨x, hx⟩ : ∃ x, x = T.getD k 0 := ⟨_, rfl⟩
      rw [← hx] at hq0 x0 x1 HK1
      have hw : IntKind.u64.wrap x = x := IntWalk.u64_in _ (by omega)
      have hHR := Lib.hid (And.intro hne hrow)
      have hbs := Nat.le_trans HSW.out hbel.size
      clear hx hS hne hrow
      go_wp2_with (at_builtin; refine wpList_append_own_at _ rfl _ _ 50 rfl (w.heap.size + 1) 54 i0 (.int .u64 0) 1 8 Try.underlying50 hi8 hz0 hz1 hz2 rfl (by decide) _ _ _ rfl (hown.alloc _) ⟨wr.heap.size, 0, none⟩ 1 1 [_] rfl rfl (cell_one_new _ _ _) ?c2 ?c3 ?c4 ?c5 ?_)
      case c2 => intro u hu; simp at hu; subst hu; rfl
      case c3 => unfold maxLen; omega
      case c4 => omega
      case c5 => simp; omega
      intro v1 w1 hown1 hgrow _ hvb
      have R : Hid (w1.ownsRow (w.heap.size + 1) 54 1 v1 (1 + (k + 1)) ((21320 :: T.take (k + 1)).map (Value.int .u64)) ∧ v1.ownBlock ≠ some (w.heap.size + 1 + 1) ∧ IRow 3 (w.heap.size + 1 + 1) T w1 ∧ Below (w.heap.size + 1) W w1) := by
        obtain ⟨hne, hrow⟩ := hHR.out
        refine ⟨?_, ?_, ?_, (hbel.alloc hbs _).grown hgrow (by simp; omega) fun q hq => (hown.lt q hq).1⟩
        · have e : (21320 :: (T.take k ++ [x])).map (Value.int .u64) = Value.int .u64 21320 :: ((T.map (Value.int .u64)).take k ++ [Value.int .u64 x]) := by simp [List.map_take]
          rw [HK1.out, ← Nat.add_assoc, e]; exact hown1
        · rcases hvb with h | h
          · rw [h]; exact hne
          · rw [h]; intro e; injection e with e; simp at e; omega
        · show _ = _
          rw [hgrow.block _ (by simp; omega) (fun e => hne e.symm), Below.heap_alloc _ _ _ hq1]; exact hrow
      obtain ⟨A3, c3, rfl⟩ := own_slice R.out.1
      clear hown1 hgrow hown hbel hHR hvb hq0 hq1 hw hbs
      go_wp2
      go_roundw
      case rel => first | exact ⟨k + 1, by omega, by go_num, ⟨A3, c3, rfl⟩, R⟩ | ((repeat apply Exists.intro); exact ⟨⟨k + 1, by omega, by go_num, ⟨A3, c3, rfl⟩, R⟩, rfl⟩)
      case measure => first | (simp [intOf]; done) | (simp [intOf]; omega)
    · have hk5 : k = 5 := by omega
      subst hk5
      have HR : Hid (Ints wr wr.heap.size .u64 A1 (hNum ⟨a0, a1, a2, a3, a4, key⟩) ∧ Below w.heap.size w wr) := by
        obtain ⟨hown, _, _, hbel⟩ := hS.out
        rw [HT5.out] at hown
        refine ⟨?_, hbw.out.trans (hbel.mono (Nat.le_succ _))⟩
        rw [HNL.out]
        exact Ints.of_own (n := 6) (c := c1) (by have e : (21320 :: T).length = 6 := by rw [List.length_cons, HNT.out]
                                                 rw [e]; exact hown)
      clear hS
      go_wp2
      go_ret
      exact ⟨A1, c1, rfl, HR.out.1, HR.out.2⟩

end Go.Proofs.Ytbmgiekiildaaaa

namespace Go.Proofs.Ytbmgiekiildaaaa
open Go.RowKit

def UB (l : List Int) : Array Value := (l.map (Value.int .u8)).toArray
theorem UB_at {l : List Int} {i : Nat} (h : i < l.length) : (UB l)[i]? = some (.int .u8 (l.getD i 0)) := by
  simp [UB, List.getD_eq_getElem?_getD, h]
/-- The bytes l, whole, in block g. -/
def BtRow (t : TypeId) (g : Nat) (l : List Int) (w : World) : Prop := w.heap[g]? = some (.cells (UB l) t (0, 0))
section
variable {t : TypeId} {g : Nat} {l : List Int} {w w' : World}
theorem BtRow.cell (h : BtRow t g l w) {i : Nat} (hi : i < l.length) : w.cell? ⟨g, i, none⟩ = some (.int .u8 (l.getD i 0)) := by
  rw [cell_of_row _ _ _ _ _ _ h, UB_at hi]
theorem BtRow.thaw (h : BtRow t g l w) (i : Nat) : w.frozen? ⟨g, i, none⟩ = false := frozen_of_row _ _ _ _ _ h
theorem BtRow.lt (h : BtRow t g l w) : g < w.heap.size := (Array.getElem?_eq_some_iff.1 h).1
theorem BtRow.ints (h : BtRow t g l w) : Ints w w.heap.size .u8 (some ⟨g, 0, none⟩) l := fun i hi =>
  ⟨g, 0, rfl, h.lt, by rw [Nat.zero_add]; exact h.cell hi⟩
theorem BtRow.below {B : Nat} (h : BtRow t g l w) (hb : Below B w w') (hg : g < B) : BtRow t g l w' := by
  show _ = _
  rw [hb.block g hg]; exact h
theorem BtRow.new (w : World) (t : TypeId) (l : List Int) : BtRow t w.heap.size l (w.alloc (.cells (UB l) t)) := heap_alloc_new w (.cells (UB l) t)
theorem BtRow.set (h : BtRow t g l w) (i : Nat) (x : Int) : BtRow t g (l.set i x) (w.setCell ⟨g, i, none⟩ (.int .u8 x)) := by
  show _ = _
  have e : (w.setCell ⟨g, i, none⟩ (.int .u8 x)).heap[g]? = some (.cells ((UB l).setIfInBounds i (.int .u8 x)) t (0, 0)) := by
    have h' : w.heap[g]? = some (.cells (UB l) t (0, 0)) := h
    simp [World.setCell, Array.getElem?_modify, h']
  rw [e]
  unfold UB
  rw [List.setIfInBounds_toArray, List.map_set]
end
/-- Bytes laid over others, from a place on. -/
def overI (cur : List Int) (off : Nat) (l : List Int) : List Int := cur.take off ++ (l ++ cur.drop (off + l.length))
theorem over_splice (cur l : List Int) (off : Nat) : (Go.splice (cur.map (Value.int .u8)) off (l.map (Value.int .u8))).toArray = UB (overI cur off l) := by
  unfold Go.splice UB overI
  simp only [List.map_append, List.map_take, List.map_drop, List.length_map]
theorem Try.infoU8B : (Try.prog.info? 5).map (fun i => (i.zero, i.size, i.bytes)) = some (some (.int .u8 0), 1, 1) := by kernel_rfl
/-- 'make([]byte, n)'. -/
theorem makeBytes (n : Nat) (hn : n ≤ 100000) (w : World) : (Instr.makeSlice 24 (.int .i64 (n : Int)) (.int .i64 (n : Int))).run Try.prog w = .ok (.slice (some ⟨w.heap.size, 0, none⟩) n n) (w.alloc (.cells (UB (List.replicate n 0)) 5)) := by
  have h := run_make_row' (P := Try.prog) 24 5 (.int .u8 0) 1 Try.underlying24 Try.infoU8B rfl .i64 .i64 n (by omega) (by omega) w
  rw [show madeCells #[Value.int .u8 0] n = UB (List.replicate n 0) from Array.toList_inj.1 (by rw [toList_madeCells_one]; simp [UB])] at h
  exact h
theorem src_of_ints {w : World} {B : Nat} {A : Option Addr} {l : List Int} (h : Ints w B .u8 A l) (h0 : 0 < l.length) : ∃ ad, A = some ad ∧ ∀ j v, (l.map (Value.int .u8))[j]? = some v → w.cell? (ad.add j) = some v := by
  obtain ⟨b, off, rfl, _, hc⟩ := h.at_ h0
  refine ⟨_, rfl, fun j v hv => ?_⟩
  have hj : j < l.length := by
    rcases Nat.lt_or_ge j l.length with q | q
    · exact q
    · rw [List.getElem?_eq_none (by rw [List.length_map]; exact q)] at hv; cases hv
  have hadd : (⟨b, off, none⟩ : Addr).add j = ⟨b, off + j, none⟩ := by unfold Addr.add; split <;> simp_all
  rw [hadd, hc j hj, ← hv, List.getElem?_map, List.getElem?_eq_getElem hj]
  simp [List.getD_eq_getElem?_getD, hj]
/-- 'copy(out[off:], b)', all of b. -/
theorem wpList_copy_ints {w : World} {ops : Array Oper} {rest : List Oper} {o : Oper} {a : Act} {Q : Exit → Act → World → Prop} (hgd : o.guard = none) (d s : Operand)
    (ho : o.op = .call { callee := .builtin .copy, args := #[d, s], argTypes := #[24, 24] }) (g off : Nat) (dn dc : Nat) (A : Option Addr) (n c : Nat) (hd : a.eval d = .slice (some ⟨g, off, none⟩) dn dc) (hs : a.eval s = .slice A n c)
    (l cur new : List Int) (hn : l.length = n) (hle : n ≤ dn) (t : TypeId) (hg : BtRow t g cur w) (B1 : Nat) (hI : Ints w B1 .u8 A l) (hfit : off + n ≤ cur.length) (hnew : overI cur off l = new) (B : Nat) (w0 : World) (hb : Below B w0 w) (hBg : B ≤ g)
    (h : ∀ w', BtRow t g new w' → Below B w0 w' → wpList Try.prog ops Q rest (a.put o.dst (goInt n)) w') : wpList Try.prog ops Q (o :: rest) a w := by
  subst hn hnew
  refine wpList_copy_splice hgd d s 24 24 ho 5 Try.underlying24 (by kernel_rfl) _ _ dn dc l.length c hd hs g off (cur.map (Value.int .u8)) t hg (l.map (Value.int .u8)) ?_ (fun h0 => ?_) ?_ ?_ B w0 hb hBg fun w' q1 q2 => ?_
  · rw [List.length_map]; exact (Nat.min_eq_left hle).symm
  · exact ⟨rfl, src_of_ints hI (by simpa using h0)⟩
  · rw [List.length_map, List.length_map]; exact hfit
  · intro v hv; obtain ⟨z, _, rfl⟩ := List.mem_map.1 hv; rfl
  · have q3 := q1.out
    rw [over_splice] at q3
    have e := h w' q3 q2
    rw [List.length_map]
    exact e
/-- A text's bytes, as integers. -/
def strI (s : ByteArray) : List Int := s.data.toList.map fun b => (b.toNat : Int)
theorem strI_len (s : ByteArray) : (strI s).length = s.size := by unfold strI; rw [List.length_map]; rfl
/-- 'copy(out[off:], s)', all of a text, as one step of a region that draws. -/
theorem step_copy_text {ops : Array Oper} {o : Oper} {a : Act} {w : World} {K : Act → World → Prop} {Q : Exit → Act → World → Prop} {E : Prop} (hgd : o.guard = none) (d s : Operand)
    (ho : o.op = .call { callee := .builtin .copy, args := #[d, s], argTypes := #[24, 9] }) (g off : Nat) (dn dc : Nat) (x : ByteArray) (hd : a.eval d = .slice (some ⟨g, off, none⟩) dn dc) (hs : a.eval s = .string x)
    (cur new : List Int) (hle : x.size ≤ dn) (t : TypeId) (hg : BtRow t g cur w) (hfit : off + x.size ≤ cur.length) (hnew : overI cur off (strI x) = new) (B : Nat) (w0 : World) (hb : Below B w0 w) (hBg : B ≤ g)
    (h : ∀ w', Hid (BtRow t g new w') → Below B w0 w' → K (a.put o.dst (goInt x.size)) w') :
    if Region.wanted o (yielded ops a.tmps) = true then Oper.wp Try.prog o a w K Q else E := by
  have hw : Region.wanted o (yielded ops a.tmps) = true := by simp [Region.wanted, hgd]
  rw [if_pos hw]
  subst hnew
  have hcur : (UB cur).size = cur.length := by simp [UB]
  have hrun := Lib.run_copy_row_string (P := Try.prog) w 24 9 o.type 5 g off dn dc x (UB cur) t Try.underlying24 (by kernel_rfl) hg hle (by rw [hcur]; exact hfit)
  unfold Oper.wp
  simp [execOp, ho, resolve, invoke, builtin, hd, hs, hrun, Result.andThen]
  refine h _ ?_ (below_setRow hb hBg _)
  have e := setRow_heap w g (UB cur) ((UB cur).toList.take off ++ Lib.byteCells x.data.toList ++ (UB cur).toList.drop (off + x.size)).toArray t (0, 0) hg
  have e2 : ((UB cur).toList.take off ++ Lib.byteCells x.data.toList ++ (UB cur).toList.drop (off + x.size)).toArray = UB (overI cur off (strI x)) := by
    unfold UB overI
    have e3 : Lib.byteCells x.data.toList = (strI x).map (Value.int .u8) := by unfold Lib.byteCells strI; rw [List.map_map]; rfl
    rw [e3, strI_len]
    simp
  show _ = _
  rw [← e2]
  simpa using e

end Go.Proofs.Ytbmgiekiildaaaa
