/-
  A block of 16 bytes of one's own, as a slice that is handed on. The document's own streams (stowageref05, Apply) as a walk. The document's own counters (stowageref06).
-/
import Derived.Test.YtanpfodmmeagaaaDoorAesBlockG
import Derived.Test.YtanpfodmmeagaaaDoorAesWalk
import Derived.Test.YtanpfodmmeagaaaDoorAesBlkG
import Derived.Deep.RegionHeld3
import Derived.Test.YtanpfodmmeagaaaDoorShaNumsG
namespace Go.Proofs.YtanpfodmmeagaaaDoor
open Go.RowKit

theorem Blk.ints {base g cap : Nat} {w : World} {l : List Nat} (h : Blk base w (.slice (some ⟨g, 0, none⟩) 16 cap) l) : Ints w w.heap.size .u8 (some ⟨g, 0, none⟩) (up l) ∧ 16 ≤ cap := by
  obtain ⟨h1, _, B, g', cap', hv, _, _, _, h6⟩ := h
  refine ⟨Ints.of_own (c := cap) (n := 16) (base := B) (t := 5) ?_, own_le h6⟩
  rw [up_len, h1]
  exact h6
theorem Blk.lt {base g cap n : Nat} {w : World} {l : List Nat} (h : Blk base w (.slice (some ⟨g, 0, none⟩) n cap) l) : g < w.heap.size := by
  obtain ⟨_, _, B, g', cap', hv, _, _, h5, _⟩ := h
  injection hv with hA _ _
  injection hA with hA
  injection hA with hA
  omega

end Go.Proofs.YtanpfodmmeagaaaDoor

namespace Go.Proofs.YtanpfodmmeagaaaDoor
open Go.RowKit

theorem ints_at' {w : World} {B : Nat} {A : Option Addr} {l : List Nat} (h : Ints w B .u8 A (up l)) {i : Nat} (hi : i < l.length) : ∃ b o, A = some ⟨b, o, none⟩ ∧ b < B ∧ w.cell? ⟨b, o + i, none⟩ = some (.int .u8 (l.getD i 0 : Nat)) := by
  obtain ⟨b, o, e, hb, hc⟩ := h i (by rw [up_len]; exact hi)
  rw [up_getD] at hc
  exact ⟨b, o, e, hb, hc⟩
theorem Blk.to' {base B g cap : Nat} {w w' : World} {l : List Nat} (h : Blk base w (.slice (some ⟨g, 0, none⟩) 16 cap) l) (hb : Below B w w') (hg : g < B) : Blk base w' (.slice (some ⟨g, 0, none⟩) 16 cap) l := by
  obtain ⟨h1, h2, B', g', cap', hv, h3, h4, h5, h6⟩ := h
  injection hv with hA hn hc
  injection hA with hA
  injection hA with hA
  subst hA hc
  exact ⟨h1, h2, B', g, cap, rfl, h3, h4, Nat.lt_of_lt_of_le h5 hb.size, own_same h6 fun q hq => hb.block q (by simp [Value.ownBlock] at hq; omega)⟩
theorem own_call' {w w' : World} {base e n : Nat} {v : Value} {xs : List Value} (h : w.ownsRow base e 1 v n xs) (hb : Below w.heap.size w w') : w'.ownsRow base e 1 v n xs := own_same h fun g hg => hb.block g (h.lt g hg).2

set_option maxRecDepth 20000 in
set_option maxHeartbeats 3200000 in
theorem refApply_any (A0 A1 A2 : Option Addr) (c0 c1 c2 : Nat) (key ctr text : List Nat) (w : World) (h0 : Ints w w.heap.size .u8 A0 (up key)) (h1 : Ints w w.heap.size .u8 A1 (up ctr)) (h2 : Ints w w.heap.size .u8 A2 (up text))
    (hk : ∀ x ∈ key, x < 256) (hc : ∀ x ∈ ctr, x < 256) (ht : ∀ x ∈ text, x < 256) (hl0 : key.length = 16) (hl1 : ctr.length = 16) (hc0 : 16 ≤ c0) (htl : text.length ≤ 400) :
    Calls Tryd.prog 25 #[.slice A0 16 c0, .slice A1 16 c1, .slice A2 text.length c2] w fun e w' => ∃ A c, e = .returned (.slice A text.length c) ∧ text.length ≤ c ∧ Ints w' w'.heap.size .u8 A (up (applyN key ctr text)) ∧ Below w.heap.size w w' := by
  obtain ⟨i0, hi, hz0, hz1, hz2⟩ := info_parts Tryd.infoU8a
  have HSB := Lib.hid refSubs_any
  have HRB := Lib.hid (fun (W : World) (A4 A5 : Option Addr) (c4 c5 : Nat) (b : List Nat) (hw : Below w.heap.size w W) (hb : Ok16 b) (h4 : Ints W W.heap.size .u8 A4 (up b)) (hs : Ints W W.heap.size .u8 A5 (up sbox)) => refBlock_new A0 A4 A5 c0 c4 c5 key b W ((h0.below hw).more hw.size) h4 hs hk hb.lt hl0 hb.len hc0)
  have H1 := Lib.hid h1
  have HC := Lib.hid (Ok16.mk hl1 hc)
  have HN1 := Lib.hid (nil_of_ints (c := c1) h1 (by rw [up_len, hl1]; decide))
  have H2 := Lib.hid h2
  have HK := Lib.hid hk
  have HT := Lib.hid ht
  clear h0 h1 h2 hk hc ht hl0 hl1 hc0
  have HAN := Lib.hid (applyN_next key ctr text)
  have HXL := Lib.hid (applyN_len key ctr text)
  obtain ⟨X, hX⟩ : ∃ X, X = applyN key ctr text := ⟨_, rfl⟩
  rw [← hX] at HAN HXL ⊢
  clear hX
  go_enter Tryd.func25, Tryd.ntmps25
  go_wp2_with (first
    | (go_at_call 40; with_reducible (refine Calls.mono (HSB.out _) ?_); rintro e w3 ⟨A3, c3, rfl, hc3, hi3, hb3⟩)
    | (at_builtin; refine wpList_append_when _ rfl (.tmp 17) (.tmp 18) 24 rfl w3.heap.size 5 i0 (.int .u8 0) 1 Tryd.underlying24 hi hz0 hz1 hz2 rfl .u8 (.slice (some ⟨w3.heap.size, 0, none⟩) 0 0) [] (up ctr) w.heap.size c1 16 A1 (by rw [up_len, HC.out.len]) rfl rfl (World.ownsRow_made w3 #[] 0 (Nat.le_refl _) (Nat.zero_le _) rfl) ((H1.out.below hb3).alloc hb3.size _) HN1.out ?d1 ?d2 (by simp) ?_))
  case d1 => rw [up_len, HC.out.len]; decide
  case d2 => rw [up_len, HC.out.len]; decide
  intro v4 w4 hown4 hg4 _
  have R0 : Blk w3.heap.size w4 v4 (ctrAdd ctr 0) ∧ Below w3.heap.size w3 w4 := by
    rw [ctrAdd_zero HC.out]
    refine ⟨blk_of_own HC.out.len HC.out.lt (Nat.le_refl _) ?_, ((Below.refl w3.heap.size w3).alloc (Nat.le_refl _) _).grown hg4 (by simp) fun q hq => by simp [Value.ownBlock] at hq; omega⟩
    have h16 : (up ctr).length = 16 := by rw [up_len, HC.out.len]
    have h := hown4
    rw [h16] at h
    exact h
  obtain ⟨g, cap, hv⟩ := R0.1.slice
  subst hv
  have hgl := R0.1.lt
  have hgb := R0.1.base
  have HBW := Lib.hid (fun (W : World) (hb : Below w3.heap.size w3 W) => hb3.trans (hb.mono hb3.size))
  have HIS := Lib.hid (fun (W : World) (hb : Below w3.heap.size w3 W) => hi3.below hb)
  have hn1 : w3.heap.size ≤ w4.heap.size := R0.2.size
  have hw3 := hb3.size
  clear hown4 hg4 hi3 hb3
  have R9 : (w4.alloc (.cells #[] 5)).ownsRow w4.heap.size 5 1 (.slice (some ⟨w4.heap.size, 0, none⟩) 0 0) 0 [] ∧ Blk w3.heap.size (w4.alloc (.cells #[] 5)) (.slice (some ⟨g, 0, none⟩) 16 cap) (ctrAdd ctr 0) ∧ Below w3.heap.size w3 (w4.alloc (.cells #[] 5)) :=
    ⟨World.ownsRow_made w4 #[] 0 (Nat.le_refl _) (Nat.zero_le _) rfl, R0.1.to ((Below.refl _ _).alloc (Nat.le_refl _) _), R0.2.alloc hn1 _⟩
  clear R0
  go_wp2
  go_loopw [9, 10] (fun v i wr => ∃ m M e : Nat, M = 16 * m ∧ M < text.length + 16 ∧ e = min M text.length ∧ i = .int .i64 (M : Int) ∧ (∃ A c, v = .slice A e c) ∧ wr.ownsRow w4.heap.size 5 1 v e ((up (X.take M)).map (Value.int .u8)) ∧ Blk w3.heap.size wr (.slice (some ⟨g, 0, none⟩) 16 cap) (ctrAdd ctr m) ∧ Below w3.heap.size w3 wr ∧ w4.heap.size ≤ wr.heap.size) (fun _ i _ => text.length + 16 - (intOf i).toNat)
  case atStart => exact ⟨0, 0, 0, rfl, by omega, by omega, rfl, ⟨_, _, rfl⟩, R9.1, R9.2.1, R9.2.2, by simp⟩
  case round =>
    clear R9
    obtain ⟨m, M, e, hM, hMn, he, rfl, ⟨Av, cv, rfl⟩, hown, hblk, hbel, hsz⟩ := hrel
    by_cases hlt : M < text.length
    · have heM : e = M := by omega
      subst heM
      obtain ⟨wo, hwo⟩ : ∃ x, x = wr := ⟨_, rfl⟩
      subst hwo
      have hMi : (e : Int) < (text.length : Int) := by omega
      have hM4 : (e : Int) < 400 := by omega
      have HM := Lib.hid hM
      obtain ⟨hbi, hcap⟩ := hblk.ints
      have HB := Lib.hid (HRB.out wo (some ⟨g, 0, none⟩) A3 cap c3 (ctrAdd ctr m) (HBW.out wo hbel) (ctrAdd_ok _ _) hbi ((HIS.out wo hbel).more hbel.size))
      clear hM he hbi
      go_wp2_with (go_at_call 41; with_reducible (refine Calls.mono HB.out ?_); rintro e5 w5 ⟨gm, cm, rfl, hcm, hgm, hi5, hb5⟩)
      have hown5 := own_call' hown hb5
      have hblk5 := hblk.to hb5
      have hbel5 := hbel.trans (hb5.mono hbel.size)
      have hne5 : some gm ≠ (Value.slice Av e cv).ownBlock := fun h => by have := (hown.lt gm h.symm).2; omega
      have hgl5 : gm < w5.heap.size := by
        obtain ⟨b', o', e', hlt', _⟩ := hi5 0 (by rw [up_len, (encN_ok HK.out (ctrAdd_ok ctr m)).len]; decide)
        injection e' with e'
        injection e' with e1 _
        omega
      have HMC : Hid (∀ r, r < 16 → w5.cell? ⟨gm, r, none⟩ = some (.int .u8 (maskN key ctr (e + r) : Nat))) := fun r hr => by
        have h := hi5.cell (i := r) (by rw [up_len, (encN_ok HK.out (ctrAdd_ok ctr m)).len]; exact hr)
        rw [up_getD, maskN_step _ _ _ _ hr, ← HM.out, Nat.zero_add] at h
        exact h
      have hs5 := hb5.size
      clear hown hblk hbel hi5 hb5 HB hgm
      go_loopw [9, 12] (fun v kk wx => ∃ f : Nat, e ≤ f ∧ f ≤ e + 16 ∧ f ≤ text.length ∧ kk = .int .i64 (f : Int) ∧ (∃ A c, v = .slice A f c) ∧ wx.ownsRow w4.heap.size 5 1 v f ((up (X.take f)).map (Value.int .u8)) ∧ some gm ≠ v.ownBlock ∧ wx.heap[gm]? = w5.heap[gm]? ∧ Below w4.heap.size w5 wx) (fun _ kk _ => text.length - (intOf kk).toNat)
      case atStart => exact ⟨e, Nat.le_refl _, by omega, by omega, rfl, ⟨_, _, rfl⟩, hown5, hne5, rfl, Below.refl _ _⟩
      case round =>
        clear hown5 hne5
        obtain ⟨f, hf1, hf2, hf3, rfl, ⟨Af, cf, rfl⟩, hownf, hnef, hgmf, hbf⟩ := hrel
        by_cases hlf : f < e + 16 ∧ f < text.length
        · obtain ⟨hl16, hln⟩ := hlf
          have hb3x := hbel5.trans (hbf.mono hn1)
          obtain ⟨b2, o2, e2, hb2, hq2⟩ := ints_at' (H2.out.below (HBW.out wr hb3x)) (i := f) hln
          subst e2
          obtain ⟨r, hr⟩ : ∃ r, r = f - e := ⟨_, rfl⟩
          have hqm := (World.cell?_of_block (a := ⟨gm, r, none⟩) hgmf).trans (HMC.out r (by omega))
          rw [show e + r = f by omega] at hqm
          have hxl := getD_lt' (by decide) HT.out f
          have hml := maskN_lt HK.out ctr f
          have hnx := HAN.out f hln
          obtain ⟨x, hx⟩ : ∃ x, x = text.getD f 0 := ⟨_, rfl⟩
          obtain ⟨k, hk⟩ : ∃ k, k = maskN key ctr f := ⟨_, rfl⟩
          rw [← hx] at hq2 hxl hnx
          rw [← hk] at hqm hml hnx
          have hxx := b8_x x k hxl hml
          have hyl := xor_lt8 hxl hml
          obtain ⟨y, hy⟩ : ∃ y, y = x ^^^ k := ⟨_, rfl⟩
          rw [← hy] at hxx hyl hnx
          have HNX := Lib.hid hnx
          have hri : (f : Int) - (e : Int) = (r : Int) := by omega
          have hrw : IntKind.i64.wrap ((f : Int) - (e : Int)) = (r : Int) := by rw [hri]; exact IntWalk.i64_in _ (by omega)
          have hrw3 : IntKind.i64.wrap (r : Int) = (r : Int) := IntWalk.i64_in _ (by omega)
          have hr16 : (r : Int) < 16 := by omega
          have hrc : (r : Int) < (cm : Int) := by omega
          have hfn : (f : Int) < (text.length : Int) := by omega
          have hf16 : (f : Int) < (e : Int) + 16 := by omega
          have hf0 : (0 : Int) ≤ (f : Int) := by omega
          have hr0 : (0 : Int) ≤ (r : Int) := by omega
          have hbs := hbf.size
          have HBF := Lib.hid hbf
          have HGM := Lib.hid hgmf
          clear hx hk hy hnx hb3x hbf hgmf hr
          go_wp2
          have HKP : Hid (∀ W : World, Below w4.heap.size wr W → W.heap[gm]? = wr.heap[gm]? → W.cell? ⟨b2, o2 + f, none⟩ = some (.int .u8 (x : Nat)) ∧ W.cell? ⟨gm, r, none⟩ = some (.int .u8 (k : Nat))) := fun W hb hg =>
            ⟨(hb.cell (p := ⟨b2, o2 + f, none⟩) (by simp only []; omega)).trans hq2, (World.cell?_of_block (a := ⟨gm, r, none⟩) hg).trans hqm⟩
          have hgw : gm < wr.heap.size := by omega
          have HGW := Lib.hid hgw
          have HOWN := Lib.hid hownf
          have HNEF := Lib.hid hnef
          have hfl : (up (X.take f)).length = f := by rw [up_len, List.length_take, HXL.out]; omega
          have HFL := Lib.hid hfl
          clear hownf hnef hgw hfl hq2 hqm
          go_region_held3 (fun W => W.cell? ⟨b2, o2 + f, none⟩ = some (.int .u8 (x : Nat)) ∧ W.cell? ⟨gm, r, none⟩ = some (.int .u8 (k : Nat)))
            (first
              | exact HKP.out _ ((Below.refl _ _).drew) rfl
              | exact HKP.out _ (((Below.refl _ _).alloc (by omega) _).drew) (Below.heap_alloc _ _ _ HGW.out)
              | exact HKP.out _ hb7 hg7)
            (first
              | (refine step_append_when _ (by rfl) _ _ 24 (by rfl) w4.heap.size 5 i0 (.int .u8 0) 1 Tryd.underlying24 hi hz0 hz1 hz2 rfl .u8 (.slice Af f cf) (up (X.take f)) [(y : Int)] (wr.heap.size + 1) 1 1 (some ⟨wr.heap.size, 0, none⟩) rfl (by rfl) (by rfl) (by rw [HFL.out]; exact HOWN.out.alloc _) (Ints.new wr 5 .u8 [(y : Int)] _ rfl) (fun h => by cases h) (by rw [HFL.out]; show f + 1 ≤ maxLen; unfold maxLen; omega) (by rw [HFL.out]; show (f + 1) * 1 ≤ _; omega) (by show w4.heap.size ≤ (wr.alloc _).heap.size; simp; omega) ?_; intro v7 w7 hown7 hgr7 hv7; have hb7 : Below w4.heap.size wr w7 := ((Below.refl _ _).alloc (by omega) (.cells #[.int .u8 (y : Int)] 5)).grown ⟨hgr7.os, hgr7.tape, hgr7.output, hgr7.size, hgr7.block⟩ (by simp; omega) (fun q hq => (HOWN.out.lt q hq).1); have hg7 : w7.heap[gm]? = wr.heap[gm]? := (hgr7.block gm (by show gm < (wr.alloc _).heap.size; simp; have := HGW.out; omega) HNEF.out).trans (Below.heap_alloc _ _ _ HGW.out)))
          have R2 : w7.ownsRow w4.heap.size 5 1 v7 (f + 1) ((up (X.take (f + 1))).map (Value.int .u8)) ∧ some gm ≠ v7.ownBlock ∧ w7.heap[gm]? = w5.heap[gm]? ∧ Below w4.heap.size w5 w7 := by
            refine ⟨?_, ?_, hg7.trans HGM.out, HBF.out.trans hb7⟩
            · have h := hown7
              rw [show (up (X.take f) ++ [(y : Int)]).length = f + 1 by rw [List.length_append, HFL.out]; rfl] at h
              rw [HNX.out, up_append]
              exact h
            · rcases hv7 with h | h
              · rw [h]; exact HNEF.out
              · rw [h]
                intro e9
                injection e9 with e9
                have h1 := HGW.out
                have h2 : gm = (wr.alloc (.cells #[.int .u8 (y : Int)] 5)).heap.size := e9
                simp at h2
                omega
          obtain ⟨A7, c7, hv⟩ := own_slice R2.1
          subst hv
          clear hown7 hgr7 hv7 hb7 hg7 HOWN HNEF HGM HBF HKP HGW
          go_wp2
          go_roundw
          case rel => exact ⟨f + 1, by omega, by omega, by omega, by go_num, ⟨A7, c7, rfl⟩, R2.1, R2.2.1, R2.2.2.1, R2.2.2.2⟩
          case measure => simp [intOf]; omega
        · have hfe : f = min (e + 16) text.length := by omega
          have hq16 : ¬ ((f : Int) < (e : Int) + 16 ∧ (f : Int) < (text.length : Int)) := by omega
          have hb3x := hbel5.trans (hbf.mono hn1)
          have hblkx : Blk w3.heap.size wr (.slice (some ⟨g, 0, none⟩) 16 cap) (ctrAdd ctr m) := hblk5.to' hbf hgl
          obtain ⟨v, hv⟩ : ∃ v, v = valB (ctrAdd ctr m) := ⟨_, rfl⟩
          have hszx : w4.heap.size ≤ wr.heap.size := by have := hbf.size; omega
          have R1 : Blk w3.heap.size wr (.slice (some ⟨g, 0, none⟩) 16 cap) (ctrTo v 0) ∧ wr.ownsRow w4.heap.size 5 1 (.slice Af f cf) f ((up (X.take f)).map (Value.int .u8)) ∧ Below w3.heap.size w3 wr ∧ w4.heap.size ≤ wr.heap.size := by
            refine ⟨?_, hownf, hb3x, hszx⟩
            rw [ctrTo_zero, hv, be16_val (ctrAdd_ok _ _)]
            exact hblkx
          have HNX : Hid (be16 (v + 1) = ctrAdd ctr (m + 1)) := by
            unfold Hid
            rw [← ctrAdd_add ctr m 1, hv]
            rfl
          have HFE := Lib.hid hfe
          have HNF : Hid (¬ (f < e + 16 ∧ f < text.length)) := hlf
          clear hv hb3x hblkx hszx hownf hnef hgmf hbf hfe hlf hblk5 hbel5 HMC
          rcases (show (e + 16 ≤ f) ∨ (¬ (e + 16 ≤ f) ∧ text.length ≤ f) by have := HNF.out; omega) with hz | ⟨hz, hz'⟩
          · have hz1' : ¬ (f : Int) < (e : Int) + 16 := by omega
            go_wp2
            go_loopw [13, 14] (fun cr kk wx => ∃ j : Nat, j ≤ 16 ∧ kk = .int .i64 (15 - (j : Int)) ∧ cr = .int .i64 (carryN v j : Nat) ∧ Blk w3.heap.size wx (.slice (some ⟨g, 0, none⟩) 16 cap) (ctrTo v j) ∧ wx.ownsRow w4.heap.size 5 1 (.slice Af f cf) f ((up (X.take f)).map (Value.int .u8)) ∧ Below w3.heap.size w3 wx ∧ w4.heap.size ≤ wx.heap.size) (fun _ kk _ => (intOf kk + 1).toNat)
            case atStart => exact ⟨0, by omega, rfl, by rw [carry_zero]; rfl, R1.1, R1.2.1, R1.2.2.1, R1.2.2.2⟩
            case round =>
              clear R1
              obtain ⟨j, hj16, rfl, rfl, hblk, hown, hbel, hsz⟩ := hrel
              by_cases hj : j < 16
              · obtain ⟨K, hK⟩ : ∃ K : Nat, (K : Int) = 15 - (j : Int) := ⟨15 - j, by omega⟩
                rw [← hK]
                have hK16 : K < 16 := by omega
                have hKi : (K : Int) < 16 := by omega
                have hK0 : (0 : Int) ≤ (K : Int) := by omega
                have hbc := hblk.cells K hK16
                have hfz := hblk.thaw K
                rw [ctrTo_at v j K hK16, if_neg (by omega), show 15 - K = j by omega] at hbc
                have hnx := ctrTo_next v j hj
                rw [show 15 - j = K by omega] at hnx
                obtain ⟨_, hc2, hc3⟩ := carry_next v j
                have hyl : v / 256 ^ j % 256 < 256 := Nat.mod_lt _ (by decide)
                obtain ⟨y, hy⟩ : ∃ y, y = v / 256 ^ j % 256 := ⟨_, rfl⟩
                obtain ⟨c, hcc⟩ : ∃ c, c = carryN v j := ⟨_, rfl⟩
                obtain ⟨c', hcc'⟩ : ∃ c, c = carryN v (j + 1) := ⟨_, rfl⟩
                rw [← hy] at hbc hnx hyl hc2
                rw [← hcc] at hnx hc2 hc3 ⊢
                rw [← hcc'] at hc2
                obtain ⟨z, hz9⟩ : ∃ z, z = (y + c) % 256 := ⟨_, rfl⟩
                rw [← hz9] at hnx
                have n1 : ((y : Int) + (c : Int)) % 256 = (z : Int) := by omega
                have n2 : ((y : Int) + (c : Int)).tmod 256 = (z : Int) := by rw [Int.tmod_eq_emod_of_nonneg (by omega)]; exact n1
                have n3 : ((y : Int) + (c : Int)) / 256 = (c' : Int) := by omega
                have n4 : ((y : Int) + (c : Int)).tdiv 256 = (c' : Int) := by rw [Int.tdiv_eq_ediv_of_nonneg (by omega)]; exact n3
                have n5 : (z : Int) % 256 = (z : Int) := by omega
                have hzl : z < 256 := by omega
                have hyi : (y : Int) < 256 := by omega
                have hci : (c : Int) ≤ 1 := by omega
                have HST := Lib.hid (hblk.store (n := K) hzl)
                have HSB := Lib.hid (hbel.setCell (p := ⟨g, K, none⟩) hgb (.int .u8 (z : Nat)))
                have HOW : Hid ((wr.setCell ⟨g, K, none⟩ (.int .u8 (z : Nat))).ownsRow w4.heap.size 5 1 (.slice Af f cf) f ((up (X.take f)).map (Value.int .u8))) := own_same hown fun q hq => heap_setCell_other wr ⟨g, K, none⟩ q _ (by have := (hown.lt q hq).1; simp only []; omega)
                have HN := Lib.hid hnx
                have HCC := Lib.hid hcc'
                have HSZ : Hid (w4.heap.size ≤ (wr.setCell ⟨g, K, none⟩ (.int .u8 (z : Nat))).heap.size) := by unfold Hid; simpa using hsz
                have HKK := Lib.hid hK
                clear hnx hy hcc hcc' hz9 hblk hown hbel hsz hc2 hc3 hK
                go_wp2
                go_roundw
                case rel => exact ⟨j + 1, by omega, by have := HKK.out; go_num, by rw [← HCC.out], by rw [← HN.out]; exact HST.out, HOW.out, HSB.out, HSZ.out⟩
                case measure => have := HKK.out; simp [intOf]
              · have hj' : j = 16 := by omega
                subst hj'
                have R3 : wr.ownsRow w4.heap.size 5 1 (.slice Af f cf) f ((up (X.take (e + 16))).map (Value.int .u8)) ∧ Blk w3.heap.size wr (.slice (some ⟨g, 0, none⟩) 16 cap) (ctrAdd ctr (m + 1)) ∧ Below w3.heap.size w3 wr ∧ w4.heap.size ≤ wr.heap.size := by
                  refine ⟨?_, ?_, hbel, hsz⟩
                  · have h1 : X.take f = X.take (e + 16) := by
                      rw [HFE.out]
                      rcases Nat.le_total (e + 16) text.length with h | h
                      · rw [Nat.min_eq_left h]
                      · rw [Nat.min_eq_right h, List.take_of_length_le (by rw [HXL.out]; exact Nat.le_refl _), List.take_of_length_le (by rw [HXL.out]; exact h)]
                    rw [← h1]
                    exact hown
                  · rw [← HNX.out, ← ctrTo_full]
                    exact hblk
                clear hblk hown hbel hsz
                go_wp2
                go_roundw
                case rel => exact ⟨m + 1, e + 16, f, by have := HM.out; omega, by omega, HFE.out, by go_num, ⟨_, _, rfl⟩, R3.1, R3.2.1, R3.2.2.1, R3.2.2.2⟩
                case measure => simp [intOf]; omega
          · have hz1' : (f : Int) < (e : Int) + 16 := by omega
            have hz2' : ¬ (f : Int) < (text.length : Int) := by omega
            go_wp2
            go_loopw [13, 14] (fun cr kk wx => ∃ j : Nat, j ≤ 16 ∧ kk = .int .i64 (15 - (j : Int)) ∧ cr = .int .i64 (carryN v j : Nat) ∧ Blk w3.heap.size wx (.slice (some ⟨g, 0, none⟩) 16 cap) (ctrTo v j) ∧ wx.ownsRow w4.heap.size 5 1 (.slice Af f cf) f ((up (X.take f)).map (Value.int .u8)) ∧ Below w3.heap.size w3 wx ∧ w4.heap.size ≤ wx.heap.size) (fun _ kk _ => (intOf kk + 1).toNat)
            case atStart => exact ⟨0, by omega, rfl, by rw [carry_zero]; rfl, R1.1, R1.2.1, R1.2.2.1, R1.2.2.2⟩
            case round =>
              clear R1
              obtain ⟨j, hj16, rfl, rfl, hblk, hown, hbel, hsz⟩ := hrel
              by_cases hj : j < 16
              · obtain ⟨K, hK⟩ : ∃ K : Nat, (K : Int) = 15 - (j : Int) := ⟨15 - j, by omega⟩
                rw [← hK]
                have hK16 : K < 16 := by omega
                have hKi : (K : Int) < 16 := by omega
                have hK0 : (0 : Int) ≤ (K : Int) := by omega
                have hbc := hblk.cells K hK16
                have hfz := hblk.thaw K
                rw [ctrTo_at v j K hK16, if_neg (by omega), show 15 - K = j by omega] at hbc
                have hnx := ctrTo_next v j hj
                rw [show 15 - j = K by omega] at hnx
                obtain ⟨_, hc2, hc3⟩ := carry_next v j
                have hyl : v / 256 ^ j % 256 < 256 := Nat.mod_lt _ (by decide)
                obtain ⟨y, hy⟩ : ∃ y, y = v / 256 ^ j % 256 := ⟨_, rfl⟩
                obtain ⟨c, hcc⟩ : ∃ c, c = carryN v j := ⟨_, rfl⟩
                obtain ⟨c', hcc'⟩ : ∃ c, c = carryN v (j + 1) := ⟨_, rfl⟩
                rw [← hy] at hbc hnx hyl hc2
                rw [← hcc] at hnx hc2 hc3 ⊢
                rw [← hcc'] at hc2
                obtain ⟨z, hz9⟩ : ∃ z, z = (y + c) % 256 := ⟨_, rfl⟩
                rw [← hz9] at hnx
                have n1 : ((y : Int) + (c : Int)) % 256 = (z : Int) := by omega
                have n2 : ((y : Int) + (c : Int)).tmod 256 = (z : Int) := by rw [Int.tmod_eq_emod_of_nonneg (by omega)]; exact n1
                have n3 : ((y : Int) + (c : Int)) / 256 = (c' : Int) := by omega
                have n4 : ((y : Int) + (c : Int)).tdiv 256 = (c' : Int) := by rw [Int.tdiv_eq_ediv_of_nonneg (by omega)]; exact n3
                have n5 : (z : Int) % 256 = (z : Int) := by omega
                have hzl : z < 256 := by omega
                have hyi : (y : Int) < 256 := by omega
                have hci : (c : Int) ≤ 1 := by omega
                have HST := Lib.hid (hblk.store (n := K) hzl)
                have HSB := Lib.hid (hbel.setCell (p := ⟨g, K, none⟩) hgb (.int .u8 (z : Nat)))
                have HOW : Hid ((wr.setCell ⟨g, K, none⟩ (.int .u8 (z : Nat))).ownsRow w4.heap.size 5 1 (.slice Af f cf) f ((up (X.take f)).map (Value.int .u8))) := own_same hown fun q hq => heap_setCell_other wr ⟨g, K, none⟩ q _ (by have := (hown.lt q hq).1; simp only []; omega)
                have HN := Lib.hid hnx
                have HCC := Lib.hid hcc'
                have HSZ : Hid (w4.heap.size ≤ (wr.setCell ⟨g, K, none⟩ (.int .u8 (z : Nat))).heap.size) := by unfold Hid; simpa using hsz
                have HKK := Lib.hid hK
                clear hnx hy hcc hcc' hz9 hblk hown hbel hsz hc2 hc3 hK
                go_wp2
                go_roundw
                case rel => exact ⟨j + 1, by omega, by have := HKK.out; go_num, by rw [← HCC.out], by rw [← HN.out]; exact HST.out, HOW.out, HSB.out, HSZ.out⟩
                case measure => have := HKK.out; simp [intOf]
              · have hj' : j = 16 := by omega
                subst hj'
                have R3 : wr.ownsRow w4.heap.size 5 1 (.slice Af f cf) f ((up (X.take (e + 16))).map (Value.int .u8)) ∧ Blk w3.heap.size wr (.slice (some ⟨g, 0, none⟩) 16 cap) (ctrAdd ctr (m + 1)) ∧ Below w3.heap.size w3 wr ∧ w4.heap.size ≤ wr.heap.size := by
                  refine ⟨?_, ?_, hbel, hsz⟩
                  · have h1 : X.take f = X.take (e + 16) := by
                      rw [HFE.out]
                      rcases Nat.le_total (e + 16) text.length with h | h
                      · rw [Nat.min_eq_left h]
                      · rw [Nat.min_eq_right h, List.take_of_length_le (by rw [HXL.out]; exact Nat.le_refl _), List.take_of_length_le (by rw [HXL.out]; exact h)]
                    rw [← h1]
                    exact hown
                  · rw [← HNX.out, ← ctrTo_full]
                    exact hblk
                clear hblk hown hbel hsz
                go_wp2
                go_roundw
                case rel => exact ⟨m + 1, e + 16, f, by have := HM.out; omega, by omega, HFE.out, by go_num, ⟨_, _, rfl⟩, R3.1, R3.2.1, R3.2.2.1, R3.2.2.2⟩
                case measure => simp [intOf]; omega
    · have hen : e = text.length := by omega
      subst hen
      have htk : X.take M = X := List.take_of_length_le (by rw [HXL.out]; omega)
      rw [htk] at hown
      have hMi : ¬ (M : Int) < (text.length : Int) := by omega
      have hle := own_le hown
      have HIX : Hid (Ints wr wr.heap.size .u8 Av (up X)) := Ints.of_own (c := cv) (n := text.length) (by rw [up_len, HXL.out]; exact hown)
      have hbz := HBW.out wr hbel
      clear hown hblk hbel htk he hM hMn
      go_wp2
      go_ret
      exact ⟨_, _, rfl, hle, HIX.out, hbz⟩

end Go.Proofs.YtanpfodmmeagaaaDoor

namespace Go.Proofs.YtanpfodmmeagaaaDoor
open Go.RowKit

set_option maxRecDepth 20000 in
theorem eight6 (n : Int) (w : World) :
    Calls Tryd.prog 28 #[.int .i64 n] w fun e w' => ∃ A c, e = .returned (.slice A 8 c) ∧ 8 ≤ c ∧ Ints w' w'.heap.size .u8 A (up (eightN n)) ∧ Below w.heap.size w w' := by
  obtain ⟨i0, hi, hz0, hz1, hz2⟩ := info_parts Tryd.infoU8s
  have HE : Hid (eightTo (n % 18446744073709551616).toNat 8 = eightN n) := rfl
  obtain ⟨m, hm⟩ : ∃ m : Nat, (m : Int) = n % 18446744073709551616 := ⟨(n % 18446744073709551616).toNat, by omega⟩
  rw [← hm, Int.toNat_natCast] at HE
  go_enter Tryd.func28, Tryd.ntmps28
  go_wp2
  go_loopw [3, 4] (fun v i wr => ∃ k : Nat, k ≤ 8 ∧ i = .int .i64 (7 - (k : Int)) ∧ (∃ A c, v = .slice A k c) ∧ wr.ownsRow w.heap.size 5 1 v k ((up (eightTo m k)).map (Value.int .u8)) ∧ Below w.heap.size w wr) (fun _ i _ => (intOf i + 1).toNat)
  case atStart => exact ⟨0, by omega, by go_num, ⟨_, _, rfl⟩, World.ownsRow_made w #[] 0 (Nat.le_refl _) (Nat.zero_le _) rfl, (Below.refl _ _).alloc (Nat.le_refl _) _⟩
  case round =>
    obtain ⟨k, hk, rfl, ⟨A, c, rfl⟩, hown, hbel⟩ := hrel
    by_cases hlt : k < 8
    · obtain ⟨q, hq⟩ : ∃ q : Nat, (q : Int) = 7 - (k : Int) := ⟨7 - k, by omega⟩
      rw [← hq]
      have hq7 : q ≤ 7 := by omega
      have hsz := hbel.size
      have HQ := Lib.hid hq
      have HS := Lib.hid (eightTo_succ m k)
      have hm' := hm.symm
      clear hq hm
      go_wp2_with (at_builtin; refine wpList_append_own_at _ rfl _ _ 24 rfl w.heap.size 5 i0 (.int .u8 0) 1 1 Tryd.underlying24 hi hz0 hz1 hz2 rfl (by decide) _ _ _ rfl (hown.alloc _) ⟨wr.heap.size, 0, none⟩ 1 1 [_] rfl rfl (cell_one_new _ _ _) ?d1 ?d2 ?d3 ?d4 ?_)
      case d1 => intro u hu; simp at hu; subst hu; rfl
      case d2 => unfold maxLen; omega
      case d3 => omega
      case d4 => simp; omega
      intro v3 w3 hown3 hg3 _ _
      have R : w3.ownsRow w.heap.size 5 1 v3 (k + 1) ((up (eightTo m (k + 1))).map (Value.int .u8)) ∧ Below w.heap.size w w3 := by
        refine ⟨?_, (hbel.alloc hsz _).grown hg3 (by simp; omega) fun q hq => (hown.lt q hq).1⟩
        have e : (m : Int) / 2 ^ (8 * q) % 256 = ((m / 256 ^ (7 - k) % 256 : Nat) : Int) := by
          rw [show 7 - k = q by have := HQ.out; omega, Int.natCast_emod, Int.natCast_ediv, Int.natCast_pow, Int.pow_mul]; rfl
        rw [HS.out, up_append, List.map_append]
        have h := hown3
        have ew : IntKind.u64.wrap n = (m : Int) := hm'
        rw [ew, e] at h
        exact h
      obtain ⟨A3, q3, hv3⟩ := own_slice R.1
      subst hv3
      clear hown3 hg3 hown hbel
      go_wp2
      go_roundw
      case rel => first | exact ⟨k + 1, by omega, by have := HQ.out; go_num, ⟨A3, q3, rfl⟩, R.1, R.2⟩ | ((repeat apply Exists.intro); exact ⟨⟨k + 1, by omega, by have := HQ.out; go_num, ⟨A3, q3, rfl⟩, R.1, R.2⟩, rfl⟩)
      case measure => have := HQ.out; simp [intOf]; try omega
    · have hk8 : k = 8 := by omega
      subst hk8
      rw [HE.out] at hown
      have hle := own_le hown
      go_wp2
      go_ret
      exact ⟨_, _, rfl, hle, Ints.of_own (n := 8) hown, hbel⟩


/-- A text's bytes. -/

theorem own_call {w w' : World} {base e n : Nat} {v : Value} {xs : List Value} (h : w.ownsRow base e 1 v n xs) (hb : Below w.heap.size w w') : w'.ownsRow base e 1 v n xs := own_same h fun g hg => hb.block g (h.lt g hg).2
theorem ints_cut4 {w : World} {B b o c : Nat} {l : List Nat} (h : Ints w B .u8 (some ⟨b, o, none⟩) (up l)) (hl : l.length = 8) (hc : 8 ≤ c) : Ints w B .u8 (some ⟨b, o + 4, none⟩) (up (l.drop 4)) := by
  have := h.cut (n := 4) (c := c) (by rw [up_len]; omega) (by rw [up_len]; omega)
  rw [if_neg (by omega), Option.map_some, Addr.add_mid] at this
  rw [show up (l.drop 4) = (up l).drop 4 by simp [up]]
  exact this

theorem cells_new (W : World) (cs : Array Value) (t : TypeId) {l : List Value} (h : cs.toList = l) : ∀ j u, l[j]? = some u → (W.alloc (.cells cs t)).cell? ((⟨W.heap.size, 0, none⟩ : Addr).add j) = some u := fun j u hu => by
  rw [Addr.add_mid, Nat.zero_add, cell_of_row _ _ j _ _ _ (heap_alloc_new W _), ← Array.getElem?_toList, h]
  exact hu

set_option maxRecDepth 20000 in
set_option maxHeartbeats 800000 in
theorem refCounter_any (s v : Int) (w : World) : Calls Tryd.prog 27 #[.int .i64 s, .int .i64 v] w fun e w' => ∃ A c, e = .returned (.slice A 16 c) ∧ 16 ≤ c ∧ Ints w' w'.heap.size .u8 A (up (counterOf s v)) ∧ Below w.heap.size w w' := by
  obtain ⟨i0, hi, hz0, hz1, hz2⟩ := info_parts Tryd.infoU8s
  have HE := Lib.hid (eight6 s)
  have HV := Lib.hid (eight6 v)
  have HCO : Hid (counterOf s v = (eightN s).drop 4 ++ eightN v ++ [0, 0, 0, 0]) := rfl
  have hls : (eightN s).length = 8 := rfl
  have hlv : (eightN v).length = 8 := rfl
  obtain ⟨S, hS⟩ : ∃ S, S = eightN s := ⟨_, rfl⟩
  obtain ⟨V, hV⟩ : ∃ V, V = eightN v := ⟨_, rfl⟩
  rw [← hS] at HE HCO hls
  rw [← hV] at HV HCO hlv
  have hl4 : (S.drop 4).length = 4 := by rw [List.length_drop]; omega
  have HLS := Lib.hid hls
  have HLV := Lib.hid hlv
  have HL4 := Lib.hid hl4
  clear hS hV hls hlv hl4
  go_enter Tryd.func27, Tryd.ntmps27
  go_wp2_with (first
    | (go_at_call 28; with_reducible (refine Calls.mono (HE.out _) ?_); rintro e w1 ⟨A1, c1, rfl, hc1, hi1, hb1⟩; obtain ⟨b1, o1, rfl, hb1', _⟩ := hi1.at_ (by rw [up_len, HLS.out]; decide); have hc4 : (4 : Int) ≤ c1 := (by omega); have hcn : ¬ c1 = 4 := (by omega); have hi4 := ints_cut4 hi1 HLS.out hc1; have hown1 := own_call (World.ownsRow_made (e := 5) w #[] 0 (Nat.le_refl _) (Nat.zero_le _) rfl) hb1; have hbw1 := ((Below.refl w.heap.size w).alloc (Nat.le_refl _) _).trans (hb1.mono (by simp)))
    | (at_builtin; refine wpList_append_when _ rfl (.tmp 6) (.tmp 9) 24 rfl w.heap.size 5 i0 (.int .u8 0) 1 Tryd.underlying24 hi hz0 hz1 hz2 rfl .u8 (.slice (some ⟨w.heap.size, 0, none⟩) 0 0) [] (up (S.drop 4)) w1.heap.size (c1 - 4) 4 (some ⟨b1, o1 + 4, none⟩) (by rw [up_len, HL4.out]) rfl rfl hown1 hi4 (fun h => by cases h) ?d1 ?d2 hbw1.size ?_))
  case d1 => rw [up_len, HL4.out]; decide
  case d2 => rw [up_len, HL4.out]; decide
  intro v2 w2 hown2 hg2 _
  have hb2 := hbw1.grown hg2 hbw1.size fun q hq => by simp [Value.ownBlock] at hq; omega
  have hn2 : (up (S.drop 4)).length = 4 := by rw [up_len, HL4.out]
  rw [hn2] at hown2
  obtain ⟨A2, c2, hv2⟩ := own_slice hown2
  subst hv2
  clear hn2 hown1 hi4 hi1 hb1 hbw1 hg2
  go_wp2_with (first
    | (go_at_call 28; with_reducible (refine Calls.mono (HV.out _) ?_); rintro e w3 ⟨A3, c3, rfl, hc3, hi3, hb3⟩; have hown3 := own_call hown2 hb3; have hbw3 := hb2.trans (hb3.mono hb2.size); have hnil3 := nil_of_ints (c := c3) hi3 (by rw [up_len, HLV.out]; decide))
    | (at_builtin; refine wpList_append_when _ rfl (.tmp 11) (.tmp 13) 24 rfl w.heap.size 5 i0 (.int .u8 0) 1 Tryd.underlying24 hi hz0 hz1 hz2 rfl .u8 (.slice A2 4 c2) (up (S.drop 4)) (up V) w3.heap.size c3 8 A3 (by rw [up_len, HLV.out]) rfl rfl (by rw [up_len, HL4.out]; exact hown3) hi3 hnil3 ?d1 ?d2 hbw3.size ?_))
  case d1 => rw [up_len, up_len, HL4.out, HLV.out]; decide
  case d2 => rw [up_len, up_len, HL4.out, HLV.out]; decide
  intro v4 w4 hown4 hg4 _
  have hb4 := hbw3.grown hg4 hbw3.size fun q hq => (hown3.lt q hq).1
  replace hown4 : w4.ownsRow w.heap.size 5 1 v4 12 ((up (S.drop 4 ++ V)).map (Value.int .u8)) := by
    rw [up_len, up_len, HL4.out, HLV.out] at hown4
    rw [up_append, List.map_append]
    exact hown4
  obtain ⟨A4, c4, hv4⟩ := own_slice hown4
  subst hv4
  have hsz := hb4.size
  clear hown3 hown2 hi3 hb3 hbw3 hg4 hb2
  go_wp2_with (at_builtin; refine wpList_append_own_at _ rfl (.tmp 15) (.tmp 16) 24 rfl w.heap.size 5 i0 (.int .u8 0) 1 1 Tryd.underlying24 hi hz0 hz1 hz2 rfl (by decide) _ _ _ rfl (hown4.alloc _) ⟨w4.heap.size, 0, none⟩ 4 4 [.int .u8 0, .int .u8 0, .int .u8 0, .int .u8 0] rfl rfl (cells_new _ _ _ rfl) ?d1 ?d2 ?d3 ?d4 ?_)
  case d1 => intro u hu; simp at hu; subst hu; rfl
  case d2 => decide
  case d3 => decide
  case d4 => simp; omega
  intro v5 w5 hown5 hg5 _ _
  have hown6 : w5.ownsRow w.heap.size 5 1 v5 16 ((up (counterOf s v)).map (Value.int .u8)) := by
    rw [HCO.out, up_append, List.map_append]
    exact hown5
  have hb5 := (hb4.alloc hsz (.cells #[.int .u8 0, .int .u8 0, .int .u8 0, .int .u8 0] 5)).grown hg5 (by simp; omega) fun q hq => (hown4.lt q hq).1
  obtain ⟨A5, c5, hv5⟩ := own_slice hown6
  subst hv5
  have hc5 := own_le hown6
  have hi5 : Ints w5 w5.heap.size .u8 A5 (up (counterOf s v)) := Ints.of_own (c := c5) (n := 16) hown6
  clear hown5 hg5 hown6
  go_wp2
  go_ret
  exact ⟨_, _, rfl, hc5, hi5, hb5⟩

end Go.Proofs.YtanpfodmmeagaaaDoor
