/-
  StreamParts, from what is asked of the layer's calls.
-/
import Derived.Test.YtcoiincgclglbaaStrBack
import Derived.Test.YtcoiincgclglbaaStrCat
import Derived.Test.YtcoiincgclglbaaBlk2
namespace Go.Proofs.Ytcoiincgclglbaa
open Go.RowKit

theorem part_ints {w : World} {B b o m n c : Nat} {l : List Nat} (h : Ints w B .u8 (some ⟨b, o, none⟩) (up l)) (hm : m < l.length) (hc : l.length ≤ c) : Ints w B .u8 (some ⟨b, o + m, none⟩) (up ((l.drop m).take n)) := by
  have h1 := h.cut (n := m) (c := c) (by rw [up_len]; omega) (by rw [up_len]; exact hc)
  rw [if_neg (by omega), Option.map_some, Addr.add_mid] at h1
  have h2 := h1.take n
  rw [show ((up l).drop m).take n = up ((l.drop m).take n) by simp [up]] at h2
  exact h2
theorem drop_take_all (l : List Nat) (m q : Nat) (h1 : q = min (m + 16) l.length) : (l.drop m).take (q - m) = (l.drop m).take 16 := by
  rcases Nat.le_total (m + 16) l.length with h | h
  · rw [h1, Nat.min_eq_left h, Nat.add_sub_cancel_left]
  · rw [h1, Nat.min_eq_right h, List.take_of_length_le (by rw [List.length_drop]; omega), List.take_of_length_le (by rw [List.length_drop]; omega)]

set_option maxRecDepth 20000 in
set_option maxHeartbeats 3200000 in
theorem strParts_ok (A0 A1 A2 : Option Addr) (c0 c1 c2 : Nat) (key ctr text : List Nat) (w : World) (HS : StrSpec w) (h0 : Ints w w.heap.size .u8 A0 (up key)) (h1 : Ints w w.heap.size .u8 A1 (up ctr)) (h2 : Ints w w.heap.size .u8 A2 (up text)) (hA2 : A2 = none → c2 = 0)
    (hk : ∀ x ∈ key, x < 256) (hc : ∀ x ∈ ctr, x < 256) (ht : ∀ x ∈ text, x < 256) (hl0 : key.length = 16) (hl1 : ctr.length = 16) (hc0 : 16 ≤ c0) (hc1 : 16 ≤ c1) (hc2 : text.length ≤ c2) :
    Calls Try.prog 7 #[.slice A0 16 c0, .slice A1 16 c1, .slice A2 text.length c2] w fun e w' => e = .returned (.bool true) ∧ Below w.heap.size w w' := by
  obtain ⟨i0, hi, hz0, hz1, hz2⟩ := info_parts Try.infoU8s
  have HA := Lib.hid (strAwake HS)
  have HAP := Lib.hid (fun (W : World) (A : Option Addr) (c : Nat) (t : List Nat) (hb : Below w.heap.size w W) (h : Ints W W.heap.size .u8 A (up t)) (hA : A = none → c = 0) (htl : ∀ x ∈ t, x < 256) (hc : t.length ≤ c) (hm : t.length ≤ 1048576) => HS.apply A0 A1 A c0 c1 c key ctr t W hb ((h0.below hb).more hb.size) ((h1.below hb).more hb.size) h hA hk ‹_› htl hl0 hl1 hc0 hc1 hc hm)
  have HAQ := Lib.hid (fun (W : World) (A4 : Option Addr) (c4 : Nat) (cn : List Nat) (A : Option Addr) (c : Nat) (t : List Nat) (hb : Below w.heap.size w W) (h4 : Ints W W.heap.size .u8 A4 (up cn)) (hcn : Ok16 cn) (hc4 : 16 ≤ c4) (h : Ints W W.heap.size .u8 A (up t)) (hA : A = none → c = 0) (htl : ∀ x ∈ t, x < 256) (hc : t.length ≤ c) (hm : t.length ≤ 1048576) => HS.apply A0 A4 A c0 c4 c key cn t W hb ((h0.below hb).more hb.size) h4 h hA hk hcn.lt htl hl0 hcn.len hc0 hc4 hc hm)
  have H1 := Lib.hid h1
  have HC := Lib.hid (Ok16.mk hl1 hc)
  have hn1 := nil_of_ints (c := c1) h1 (by rw [up_len, hl1]; decide)
  have HN1 := Lib.hid hn1
  have H2 := Lib.hid h2
  have HK := Lib.hid hk
  have HT := Lib.hid ht
  have HA2 := Lib.hid hA2
  clear HS h0 h1 h2 hk hc ht hl0 hl1 hA2 hn1
  go_enter Try.func7, Try.ntmps7
  go_upto_if 18 with fail
  go_cut [2] (fun s wx => (∃ n : Nat, s = .slice A2 n c2 ∧ n ≤ text.length ∧ n ≤ 400) ∧ wx = w)
  case first =>
    by_cases h4 : (400 : Int) < text.length
    · have hc4 : (400 : Int) ≤ c2 := by omega
      have HL4 := Lib.hid h4
      clear hc2
      go_wp2
      go_meet
      exact ⟨⟨400, rfl, by have := HL4.out; omega, Nat.le_refl _⟩, rfl⟩
    · go_wp2
      go_meet
      exact ⟨⟨text.length, rfl, Nat.le_refl _, by omega⟩, rfl⟩
  case rest =>
    obtain ⟨⟨n, rfl, hn, hn4⟩, hw⟩ := hcut
    have hw' := hw.symm
    subst hw'
    have hTl : (text.take n).length = n := by rw [List.length_take]; omega
    have HTT : Hid (∀ x ∈ text.take n, x < 256) := fun x hx => HT.out x (List.mem_of_mem_take hx)
    have HIT := Lib.hid (take_up H2.out n)
    obtain ⟨T, hT⟩ : ∃ T, T = text.take n := ⟨_, rfl⟩
    rw [← hT] at hTl HTT HIT
    have HP1 := Lib.hid (HAP.out w A2 c2 T (Below.refl _ _) HIT.out HA2.out HTT.out (by omega) (by omega))
    rw [hTl] at HP1
    have HPA := Lib.hid (fun m => applyN_part key ctr T m)
    have hxl : (applyN key ctr T).length = n := by rw [applyN_len, hTl]
    obtain ⟨X, hX⟩ : ∃ X, X = applyN key ctr T := ⟨_, rfl⟩
    rw [← hX] at HP1 hxl
    simp only [← hX] at HPA
    have HXL := Lib.hid hxl
    have HTL := Lib.hid hTl
    clear hT hTl hw hX hxl
    go_wp2_with (first
      | (at_builtin; refine wpList_append_when _ rfl (.tmp 35) (.tmp 36) 22 rfl w4.heap.size 5 i0 (.int .u8 0) 1 Try.underlying22 hi hz0 hz1 hz2 rfl .u8 (.slice (some ⟨w4.heap.size, 0, none⟩) 0 0) [] (up ctr) w.heap.size c1 16 A1 (by rw [up_len, HC.out.len]) rfl rfl (World.ownsRow_made w4 #[] 0 (Nat.le_refl _) (Nat.zero_le _) rfl) ((H1.out.below hb34).alloc hb34.size _) HN1.out ?d1 ?d2 (by simp) ?_)
      | (go_at_call 10; with_reducible (refine Calls.mono (HA.out _ hb3) ?_); rintro e w4 ⟨rfl, hb4⟩; have hb34 := chain hb3 hb4)
      | (go_at_call 9; with_reducible (refine Calls.mono HP1.out ?_); rintro e w3 ⟨A3, c3, rfl, hc3, hn3, hi3, hb3⟩))
    case d1 => rw [up_len, HC.out.len]; decide
    case d2 => rw [up_len, HC.out.len]; decide
    intro v5 w5 hown5 hg5 _
    have R0 : Blk w4.heap.size w5 v5 (ctrAdd ctr 0) ∧ Below w4.heap.size w4 w5 := by
      rw [ctrAdd_zero HC.out]
      refine ⟨blk_of_own HC.out.len HC.out.lt (Nat.le_refl _) ?_, ((Below.refl w4.heap.size w4).alloc (Nat.le_refl _) _).grown hg5 (by simp) fun q hq => by simp [Value.ownBlock] at hq; omega⟩
      have h16 : (up ctr).length = 16 := by rw [up_len, HC.out.len]
      have h := hown5
      rw [h16] at h
      exact h
    obtain ⟨g, cap, hv⟩ := R0.1.slice
    subst hv
    have HI3 := Lib.hid (fun (W : World) (hb : Below w4.heap.size w4 W) => hi3.below (hb4.trans (hb.mono hb4.size)))
    have HBW := Lib.hid (fun (W : World) (hb : Below w4.heap.size w4 W) => hb34.trans (hb.mono hb34.size))
    clear hown5 hg5 hi3 hb3 hb4 hb34 HP1 hn3 HAP
    go_wp2
    go_loopw [10, 11] (fun s i wr => ∃ m M : Nat, M = 16 * m ∧ M < n + 16 ∧ i = .int .i64 (M : Int) ∧ s = .string (strOfNums (up (X.take M))) ∧ Blk w4.heap.size wr (.slice (some ⟨g, 0, none⟩) 16 cap) (ctrAdd ctr m) ∧ Below w4.heap.size w4 wr) (fun _ i _ => n + 16 - (intOf i).toNat)
    case atStart => exact ⟨0, 0, rfl, by omega, rfl, rfl, R0.1, R0.2⟩
    case round =>
      clear R0
      obtain ⟨m, M, hM, hMn, rfl, rfl, hblk, hbel⟩ := hrel
      by_cases hlt : M < n
      · obtain ⟨wo, hwo⟩ : ∃ x, x = wr := ⟨_, rfl⟩
        subst hwo
        have hMi : (M : Int) < (n : Int) := by omega
        have hM4 : (M : Int) < 400 := by omega
        have HM := Lib.hid hM
        obtain ⟨S, hS⟩ : ∃ S, S = strOfNums (up (X.take M)) := ⟨_, rfl⟩
        rw [← hS]
        have HSS := Lib.hid hS
        clear hM hS
        go_upto_if 49 with fail
        go_cut [12] (fun s wx => (∃ q : Nat, s = .int .i64 (q : Int) ∧ q = min (M + 16) n) ∧ wx = wo)
        case first =>
          by_cases h : (n : Int) < (M : Int) + 16
          · go_wp2
            go_meet
            exact ⟨⟨n, rfl, by omega⟩, rfl⟩
          · go_wp2
            go_meet
            exact ⟨⟨M + 16, rfl, by omega⟩, rfl⟩
        case rest =>
          obtain ⟨⟨q, rfl, hq⟩, hw⟩ := hcut
          have hw' := hw.symm
          subst hw'
          obtain ⟨b, o, rfl, hbb, _⟩ := HIT.out.at_ (by rw [up_len, HTL.out]; omega)
          have hq1 : (M : Int) ≤ (q : Int) := by omega
          have hq2 : (q : Int) ≤ (c2 : Int) := by omega
          have hM0 : (0 : Int) ≤ (M : Int) := by omega
          have hcM : ¬ c2 = M := by omega
          have hdt := drop_take_all T M q (by rw [HTL.out]; exact hq)
          have hpl : ((T.drop M).take (q - M)).length = q - M := by rw [List.length_take, List.length_drop, HTL.out]; omega
          obtain ⟨hbi, hcap⟩ := hblk.ints
          have HQ := Lib.hid (HAQ.out wo (some ⟨g, 0, none⟩) cap (ctrAdd ctr m) (some ⟨b, o + M, none⟩) (c2 - M) ((T.drop M).take (q - M)) (HBW.out wo hbel) hbi (ctrAdd_ok _ _) hcap (part_ints ((HIT.out.below (HBW.out wo hbel)).more (HBW.out wo hbel).size) (by rw [HTL.out]; exact hlt) (by rw [HTL.out]; omega)) (fun h => by cases h) (fun x hx => HTT.out x (List.mem_of_mem_drop (List.mem_of_mem_take hx))) (by rw [hpl]; omega) (by rw [hpl]; omega))
          have hpa := HPA.out m
          rw [← HM.out, ← hdt] at hpa
          rw [hpl, hpa] at HQ
          have hxt : X.take M ++ (X.drop M).take 16 = X.take (M + 16) := by rw [List.take_add]
          have hpl2 : ((X.drop M).take 16).length = q - M := by rw [List.length_take, List.length_drop, HXL.out]; omega
          obtain ⟨P, hP⟩ : ∃ P, P = (X.drop M).take 16 := ⟨_, rfl⟩
          rw [← hP] at HQ hxt hpl2
          have hup : (up P).length = q - M := by rw [up_len, hpl2]
          have HUP := Lib.hid hup
          obtain ⟨pt, hpt⟩ : ∃ t, strOfNums (up P) = t := ⟨_, rfl⟩
          have hcat := strOfNums_cat (X.take M) P
          rw [hxt, ← HSS.out, hpt] at hcat
          have HCAT := Lib.hid hcat
          have HPT := Lib.hid hpt
          have HBE := Lib.hid hbel
          have HBK := Lib.hid hblk
          have hSs : S.size ≤ 400 := by rw [HSS.out, strOfNums_size, up_len, List.length_take]; omega
          have hps : pt.size ≤ 16 := by rw [← hpt, strOfNums_size, hup]; omega
          have HQM := Lib.hid hq
          clear hpa hxt hpl hpl2 hdt hP hup hpt hcat hbi hw hblk hbel hbb hq
          go_wp2_with (go_at_call 9; with_reducible (refine Calls.mono HQ.out ?_); rintro e w6 ⟨A6, c6, rfl, hc6, hn6, hi6, hb6⟩; have hk6 := hi6.textAs (P := Try.prog) (n := q - M) (t := pt) Try.underlying22 Try.underlying5 Try.underlying9 HUP.out HPT.out c6)
          obtain ⟨v, hv⟩ : ∃ v, v = valB (ctrAdd ctr m) := ⟨_, rfl⟩
          have R1 : Blk w4.heap.size w6 (.slice (some ⟨g, 0, none⟩) 16 cap) (ctrTo v 0) ∧ Below w4.heap.size w4 w6 := by
            refine ⟨?_, HBE.out.trans (hb6.mono HBE.out.size)⟩
            rw [ctrTo_zero, hv, be16_val (ctrAdd_ok _ _)]
            exact HBK.out.to hb6
          have HNX : Hid (be16 (v + 1) = ctrAdd ctr (m + 1)) := by
            unfold Hid
            rw [← ctrAdd_add ctr m 1, hv]
            rfl
          have hMq : M + 16 < n + 16 := by omega
          clear hi6 hb6 hk6 hc6 hn6 hv HBE HBK HQ HUP HPT
          go_loopw [15] (fun kk wx => ∃ j K : Nat, K + j = 15 ∧ kk = .int .i64 (K : Int) ∧ Blk w4.heap.size wx (.slice (some ⟨g, 0, none⟩) 16 cap) (ctrTo v j) ∧ Below w4.heap.size w4 wx ∧ (v + 1) % 256 ^ j = 0) (fun kk _ => (intOf kk).toNat)
          case atStart => exact ⟨0, 15, rfl, rfl, R1.1, R1.2, by rw [Nat.pow_zero, Nat.mod_one]⟩
          case round =>
            clear R1
            obtain ⟨j, K, hKj, rfl, hblk, hbel, hvm⟩ := hrel
            have hK16 : K < 16 := by omega
            have hKi : (K : Int) < 16 := by omega
            have hK0 : (0 : Int) ≤ (K : Int) := by omega
            have hbc := hblk.cells K hK16
            have hfz := hblk.thaw K
            rw [ctrTo_at v j K hK16, if_neg (by omega), show 15 - K = j by omega] at hbc
            have hnx := ctrTo_next v j (by omega)
            rw [carry_one hvm, show 15 - j = K by omega] at hnx
            have hyl : v / 256 ^ j % 256 < 256 := Nat.mod_lt _ (by decide)
            have HMO : Hid (v / 256 ^ j % 256 = 255 → (v + 1) % 256 ^ (j + 1) = 0) := carry_more hvm
            have HLA : Hid (v / 256 ^ j % 256 ≠ 255 → ctrTo v (j + 1) = be16 (v + 1)) := fun h => carry_stop (by omega) (carry_last hvm h)
            have HFU : Hid (K = 0 → ctrTo v (j + 1) = be16 (v + 1)) := fun h => by rw [show j + 1 = 16 by omega]; exact ctrTo_full v
            obtain ⟨y, hy⟩ : ∃ y, y = v / 256 ^ j % 256 := ⟨_, rfl⟩
            rw [← hy] at hbc hnx hyl HMO HLA
            obtain ⟨z, hz⟩ : ∃ z, z = (y + 1) % 256 := ⟨_, rfl⟩
            rw [← hz] at hnx
            have hzi : ((y : Int) + 1) % 256 = (z : Int) := by omega
            have hzl : z < 256 := by omega
            have HST := Lib.hid (hblk.store (n := K) hzl)
            have HSB := Lib.hid (hbel.setCell (p := ⟨g, K, none⟩) hblk.base (.int .u8 (z : Nat)))
            have HN := Lib.hid hnx
            have hgo : (y = 255 ∧ 0 < K) ∨ (¬ y = 255 ∨ K = 0) := by omega
            clear hnx hvm hy hblk hbel
            rcases hgo with ⟨h255, h0⟩ | hstop
            · have hKp : (0 : Int) < (K : Int) := by omega
              have hz0' : z = 0 := by omega
              subst h255
              subst hz0'
              clear hz hzi
              go_wp2
              go_roundw
              case rel => exact ⟨j + 1, K - 1, by omega, by go_num, by rw [← HN.out]; exact HST.out, HSB.out, HMO.out rfl⟩
              case measure => simp [intOf]; omega
            · have hfin : ctrTo v (j + 1) = be16 (v + 1) := by
                rcases hstop with h | h
                · exact HLA.out h
                · exact HFU.out h
              have HFN := Lib.hid hfin
              have HB2 : Hid (Blk w4.heap.size (wr.setCell ⟨g, K, none⟩ (.int .u8 (z : Nat))) (.slice (some ⟨g, 0, none⟩) 16 cap) (ctrAdd ctr (m + 1))) := by
                unfold Hid
                rw [← HNX.out, ← hfin, ← HN.out]
                exact HST.out
              have HZY : Hid (¬ y = 255 → ((z : Nat) : Int) = (y : Int) + 1) := fun h => by omega
              clear hfin hz HMO HLA HFU
              rcases (show 0 < K ∧ ¬ y = 255 ∨ K = 0 by omega) with ⟨h0, hne⟩ | h0
              · have hKp : (0 : Int) < (K : Int) := by omega
                have hye : ((y : Int) == 255) = false := by rw [beq_eq_false_iff_ne]; omega
                have hyn : ¬ (y : Int) = 255 := by omega
                have hzy := HZY.out hne
                have h1 := HB2.out
                have h2 := HSB.out
                rw [hzy] at h1 h2
                have HB3 := Lib.hid h1
                have HSB3 := Lib.hid h2
                clear hstop h1 h2 hzy hzi
                go_wp2
                go_roundw
                case rel => exact ⟨m + 1, M + 16, by have := HM.out; omega, by omega, by go_num, by rw [HCAT.out], HB3.out, HSB3.out⟩
                case measure => simp [intOf]; omega
              · subst h0
                clear hstop
                go_wp2
                go_roundw
                case rel => exact ⟨m + 1, M + 16, by have := HM.out; omega, by omega, by go_num, by rw [HCAT.out], HB2.out, HSB.out⟩
                case measure => simp [intOf]; omega
      · have htk : X.take M = X := List.take_of_length_le (by rw [HXL.out]; omega)
        rw [htk]
        obtain ⟨xt, hxt⟩ : ∃ t, strOfNums (up X) = t := ⟨_, rfl⟩
        rw [hxt]
        have hxu : (up X).length = n := by rw [up_len, HXL.out]
        have hk3 := (HI3.out wr hbel).textAs (P := Try.prog) (n := n) (t := xt) Try.underlying22 Try.underlying5 Try.underlying9 hxu hxt c3
        have hbz := HBW.out wr hbel
        have hMi : ¬ (M : Int) < (n : Int) := by omega
        clear hblk hbel hxu hxt htk
        go_wp2
        go_ret
        exact ⟨rfl, hbz⟩

set_option maxRecDepth 20000 in
set_option maxHeartbeats 1600000 in
theorem strParts_no (A0 A1 A2 : Option Addr) (c0 c1 c2 : Nat) (key ctr text : List Nat) (w : World) (HS : StrSpec w) (h0 : Ints w w.heap.size .u8 A0 (up key)) (h1 : Ints w w.heap.size .u8 A1 (up ctr)) (h2 : Ints w w.heap.size .u8 A2 (up text))
    (hk : ∀ x ∈ key, x < 256) (hc : ∀ x ∈ ctr, x < 256) (hno : ¬ (key.length = 16 ∧ ctr.length = 16)) (hc0 : key.length ≤ c0) (hc1 : ctr.length ≤ c1) (hc2 : text.length ≤ c2) (hm0 : key.length ≤ 140737488355328) (hm1 : ctr.length ≤ 140737488355328) :
    Calls Try.prog 7 #[.slice A0 key.length c0, .slice A1 ctr.length c1, .slice A2 text.length c2] w fun e w' => e = .returned (.bool true) ∧ Below w.heap.size w w' := by
  have HA := Lib.hid (strAwake HS)
  have HAP := Lib.hid (fun (W : World) (A : Option Addr) (c : Nat) (t : List Nat) (hb : Below w.heap.size w W) (h : Ints W W.heap.size .u8 A (up t)) (hc : t.length ≤ c) (hm : t.length ≤ 140737488355328) => HS.applyArg A0 A1 A c0 c1 c key ctr t W hb ((h0.below hb).more hb.size) ((h1.below hb).more hb.size) h hk ‹_› hno hc0 hc1 hc hm0 hm1 hm)
  have H2 := Lib.hid h2
  clear HS h0 h1 h2 hk hc hno hc0 hc1 hm0 hm1
  go_enter Try.func7, Try.ntmps7
  go_upto_if 18 with fail
  go_cut [2] (fun s wx => (∃ n : Nat, s = .slice A2 n c2 ∧ n ≤ text.length ∧ n ≤ 400) ∧ wx = w)
  case first =>
    by_cases h4 : (400 : Int) < text.length
    · have hc4 : (400 : Int) ≤ c2 := by omega
      have HL4 := Lib.hid h4
      clear hc2
      go_wp2
      go_meet
      exact ⟨⟨400, rfl, by have := HL4.out; omega, Nat.le_refl _⟩, rfl⟩
    · go_wp2
      go_meet
      exact ⟨⟨text.length, rfl, Nat.le_refl _, by omega⟩, rfl⟩
  case rest =>
    obtain ⟨⟨n, rfl, hn, hn4⟩, hw⟩ := hcut
    have hw' := hw.symm
    subst hw'
    have hTl : (text.take n).length = n := by rw [List.length_take]; omega
    have HP1 := Lib.hid (HAP.out w A2 c2 (text.take n) (Below.refl _ _) (take_up H2.out n) (by omega) (by omega))
    rw [hTl] at HP1
    clear hTl hw
    go_wp2_with (first
      | (go_at_call 10; have h6 := hb6; with_reducible (refine Calls.mono (HA.out _ (chain hb3 h6)) ?_); rintro e w7 ⟨rfl, hb7⟩)
      | (go_at_call 10; with_reducible (refine Calls.mono (HA.out _ hb3) ?_); rintro e w6 ⟨rfl, hb6⟩)
      | (go_at_call 9; with_reducible (refine Calls.mono HP1.out ?_); rintro e w3 ⟨A3, c3, rfl, hb3⟩))
    go_ret
    exact ⟨rfl, chain hb3 (chain hb6 hb7)⟩

/-- StreamParts. -/
theorem strParts_go (A0 A1 A2 : Option Addr) (c0 c1 c2 : Nat) (key ctr text : List Nat) (w : World) (HS : StrSpec w) (h0 : Ints w w.heap.size .u8 A0 (up key)) (h1 : Ints w w.heap.size .u8 A1 (up ctr)) (h2 : Ints w w.heap.size .u8 A2 (up text)) (hA2 : A2 = none → c2 = 0)
    (hk : ∀ x ∈ key, x < 256) (hc : ∀ x ∈ ctr, x < 256) (ht : ∀ x ∈ text, x < 256) (hc0 : key.length ≤ c0) (hc1 : ctr.length ≤ c1) (hc2 : text.length ≤ c2) (hm0 : key.length ≤ 140737488355328) (hm1 : ctr.length ≤ 140737488355328) :
    Calls Try.prog 7 #[.slice A0 key.length c0, .slice A1 ctr.length c1, .slice A2 text.length c2] w fun e w' => e = .returned (.bool true) ∧ Below w.heap.size w w' := by
  by_cases h : key.length = 16 ∧ ctr.length = 16
  · have := strParts_ok A0 A1 A2 c0 c1 c2 key ctr text w HS h0 h1 h2 hA2 hk hc ht h.1 h.2 (by omega) (by omega) hc2
    rw [h.1, h.2]
    exact this
  · exact strParts_no A0 A1 A2 c0 c1 c2 key ctr text w HS h0 h1 h2 hk hc h hc0 hc1 hc2 hm0 hm1

end Go.Proofs.Ytcoiincgclglbaa
