/-
  The document's own header: Decode, of 64 bytes that are not all 0 (stowageref18). The document's own SameInts. The document's own Same (stowageref16), of the same tables.
-/
import Derived.Test.YtbmgiekiildaaaaHdC5G
import Derived.Test.YtbmgiekiildaaaaWordsG
import Derived.Test.YtbmgiekiildaaaaChecked
import Derived.Tactics
import Derived.Tactics2
import Derived.LoopTactic
import Derived.OpenShut
import Derived.WalkLawsBesides
import Derived.BigQuiet
import Derived.Test.YtbmgiekiildaaaaTableRef2G
namespace Go.Proofs.Ytbmgiekiildaaaa
open Go.RowKit

theorem hwrap64 (n : Int) : RowKit.wrap64 n = IntKind.i64.wrap n := by unfold RowKit.wrap64; rw [IntKind.wrap_i64]
theorem hpow_le8 (s : Nat) (h : s ≤ 8) : (256 : Int) ^ s ≤ 18446744073709551616 := by
  have : s = 0 ∨ s = 1 ∨ s = 2 ∨ s = 3 ∨ s = 4 ∨ s = 5 ∨ s = 6 ∨ s = 7 ∨ s = 8 := by omega
  rcases this with h | h | h | h | h | h | h | h | h <;> subst h <;> decide
theorem hpow_le7 (s : Nat) (h : s ≤ 7) : (256 : Int) ^ s ≤ 72057594037927936 := by
  have : s = 0 ∨ s = 1 ∨ s = 2 ∨ s = 3 ∨ s = 4 ∨ s = 5 ∨ s = 6 ∨ s = 7 := by omega
  rcases this with h | h | h | h | h | h | h | h <;> subst h <;> decide
/-- The version's first bytes. -/
def hVer (bs : List Int) (n : Nat) : Int := valOf (sub bs 6 (6 + n))
theorem hVer_succ {bs : List Int} {n : Nat} (h : 6 + n < bs.length) : hVer bs (n + 1) = hVer bs n * 256 + bs.getD (6 + n) 0 := by
  unfold hVer sub
  rw [show 6 + (n + 1) - 6 = n + 1 by omega, show 6 + n - 6 = n by omega, take_snoc _ n (by rw [List.length_drop]; omega), valOf_snoc]
  congr 1
  simp [List.getD_eq_getElem?_getD]
theorem hVer_bd {bs : List Int} (hz : ∀ z ∈ bs, 0 ≤ z ∧ z ≤ 255) {n : Nat} (hn : n ≤ 7) : 0 ≤ hVer bs n ∧ hVer bs n < 72057594037927936 := by
  have h := valOf_bd (sub bs 6 (6 + n)) fun z hz' => hz z (List.mem_of_mem_drop (List.mem_of_mem_take hz'))
  have hl : (sub bs 6 (6 + n)).length ≤ 7 := by unfold sub; rw [List.length_take]; omega
  have := hpow_le7 _ hl
  unfold hVer
  omega

set_option maxHeartbeats 3200000 in
set_option maxRecDepth 20000 in
theorem hrefDec_64 (b o c : Nat) (bs : List Int) (w : World) (h : Ints w w.heap.size .u8 (some ⟨b, o, none⟩) bs) (hz : ∀ z ∈ bs, 0 ≤ z ∧ z ≤ 255) (hl : bs.length = 64) (hc : 64 ≤ c) (hnz : bs ≠ zero64) :
    Calls Try.prog 13 #[.slice (some ⟨b, o, none⟩) 64 c] w fun e w' => e = .returned (.tuple #[.agg (rcV (hDec bs).2), .int .i64 (hDec bs).1]) ∧ Below w.heap.size w w' := by
  have HI := Lib.hid h
  have HZ := Lib.hid hz
  have hinf0 : (Try.prog.info? 23).map (·.size) = some zeroH.size := Try.infoHead
  have hone0 : zeroH.all (·.oneCell') = true := rcV_ones hZero
  obtain ⟨W0, hW0⟩ : ∃ W, W = w.alloc (.cells zeroH 23) := ⟨_, rfl⟩
  have hq0 : W0.heap[w.heap.size]? = some (.cells zeroH 23 (0, 0)) := by rw [hW0]; exact heap_alloc_new _ _
  have hb0 : Below w.heap.size w W0 := by rw [hW0]; exact (Below.refl _ _).alloc (Nat.le_refl _) _
  have hmk : ∀ w : World, (Instr.makeSlice 24 (.int .i64 64) (.int .i64 64)).run Try.prog w = .ok (.slice (some ⟨w.heap.size, 0, none⟩) 64 64) (w.alloc (.cells (UB zero64) 5)) := makeBytes 64 (by decide)
  have hi0 := h.below hb0
  have hr1 := BtRow.new W0 5 zero64
  have hb1 : Below w.heap.size w (W0.alloc (.cells (UB zero64) 5)) := hb0.alloc hb0.size _
  have hi1 := h.below hb1
  have hzz : ∀ z ∈ zero64, 0 ≤ z ∧ z ≤ 255 := fun z hz => by have := List.eq_of_mem_replicate hz; omega
  have HTX := textH_apart hz hzz
  rw [decide_eq_false hnz] at HTX
  have c1d := hi0.drew.textAs (P := Try.prog) (n := 64) Try.underlying24 Try.underlying5 Try.underlying9 hl rfl c
  have c2d := hi1.drew.textAs (P := Try.prog) (n := 64) Try.underlying24 Try.underlying5 Try.underlying9 hl rfl c
  have c3d := hr1.ints.drew.textAs (P := Try.prog) (n := 64) Try.underlying24 Try.underlying5 Try.underlying9 rfl rfl 64
  obtain ⟨s1, hs1⟩ : ∃ s, s = strOfNums bs := ⟨_, rfl⟩
  obtain ⟨s2, hs2⟩ : ∃ s, s = strOfNums zero64 := ⟨_, rfl⟩
  have HS1 := Lib.hid hs1
  rw [← hs1] at c1d c2d HTX
  rw [← hs2] at c3d HTX
  obtain ⟨O, hO⟩ : ∃ O, O = UB zero64 := ⟨_, rfl⟩
  rw [← hO] at hmk c2d c3d hb1
  have hq1 : (W0.alloc (.cells O 5)).heap[w.heap.size]? = some (.cells zeroH 23 (0, 0)) := by rw [Below.heap_alloc _ _ _ (Array.getElem?_eq_some_iff.1 hq0).1]; exact hq0
  have HQB := Lib.hid (And.intro hq1 hb1)
  unfold zeroH at hW0
  have HC := Lib.hid hc
  have HL := Lib.hid hl
  have HNZ := Lib.hid hnz
  clear h hi0 hr1 hb1 hi1 hzz hz hs1 hs2 hO hq1 hl hnz hc
  go_enter Try.func13, Try.ntmps13
  go_wp2
  rw [← hW0]
  clear hW0
  go_region
  obtain ⟨V, hV⟩ : ∃ V, V = (W0.alloc (.cells O 5)).drew := ⟨_, rfl⟩
  rw [← hV]
  have hq : V.heap[w.heap.size]? = some (.cells zeroH 23 (0, 0)) := by rw [hV]; exact HQB.out.1
  have hb : Below w.heap.size w V := by rw [hV]; exact HQB.out.2.drew
  have HV := Lib.hid (And.intro hq hb)
  have HB : Hid (∀ X, Below w.heap.size w X → X.cell? ⟨b, o + 2, none⟩ = some (.int .u8 (bs.getD 2 0)) ∧ X.cell? ⟨b, o + 3, none⟩ = some (.int .u8 (bs.getD 3 0)) ∧ X.cell? ⟨b, o + 4, none⟩ = some (.int .u8 (bs.getD 4 0)) ∧ X.cell? ⟨b, o + 5, none⟩ = some (.int .u8 (bs.getD 5 0)) ∧
      (convert 24 9 (.slice (some ⟨b, o + 14, none⟩) 16 (c - 14))).run Try.prog X = .ok (.string (strOfNums (sub bs 14 30))) X) := fun X hX => by
    have hh := HI.out.below hX
    refine ⟨hh.cell (by rw [HL.out]; decide), hh.cell (by rw [HL.out]; decide), hh.cell (by rw [HL.out]; decide), hh.cell (by rw [HL.out]; decide), ?_⟩
    have hi := (hh.cut (n := 14) (c := c) (by rw [HL.out]; decide) (by have := HC.out; have := HL.out; omega)).take 16
    rw [if_neg (by have := HC.out; omega)] at hi
    have e : (some (⟨b, o, none⟩ : Addr)).map (·.add 14) = some ⟨b, o + 14, none⟩ := by simp [Addr.add]
    rw [e] at hi
    exact hi.textAs Try.underlying24 Try.underlying5 Try.underlying9 (by rw [List.length_take, List.length_drop, HL.out]; rfl) rfl _
  have hwx : ∀ i, i < 64 → IntKind.i64.wrap (bs.getD i 0) = bs.getD i 0 := fun i hi => by
    have := HZ.out _ (getD_mem (l := bs) (i := i) (by rw [HL.out]; exact hi))
    exact IntWalk.i64_in _ (by omega)
  have e2 := hwx 2 (by decide)
  have e3 := hwx 3 (by decide)
  have e4 := hwx 4 (by decide)
  have e5 := hwx 5 (by decide)
  have HRD : Hid (∀ n, hRead bs = ⟨bs.getD 2 0, bs.getD 3 0, bs.getD 4 0, bs.getD 5 0, n, strOfNums (sub bs 14 30)⟩ ↔ n = wr64 (valOf (sub bs 6 14))) := fun n => by
    unfold hRead
    constructor
    · intro e; injection e with _ _ _ _ e; exact e.symm
    · rintro rfl; rfl
  obtain ⟨V1, hV1⟩ : ∃ V, V = bs.getD 2 0 := ⟨_, rfl⟩
  obtain ⟨V2, hV2⟩ : ∃ V, V = bs.getD 3 0 := ⟨_, rfl⟩
  obtain ⟨V3, hV3⟩ : ∃ V, V = bs.getD 4 0 := ⟨_, rfl⟩
  obtain ⟨V4, hV4⟩ : ∃ V, V = bs.getD 5 0 := ⟨_, rfl⟩
  obtain ⟨kk, hkk⟩ : ∃ k, k = strOfNums (sub bs 14 30) := ⟨_, rfl⟩
  simp only [← hV1, ← hV2, ← hV3, ← hV4, ← hkk] at HB e2 e3 e4 e5 HRD
  have hlq : (c : Int) - 14 = ((c - 14 : Nat) : Int) := by have := HC.out; omega
  have c30 : (30 : Int) ≤ (c : Int) := by have := HC.out; omega
  have e14 : ¬ c = 14 := by have := HC.out; omega
  clear hV hq hb c1d c2d c3d hV1 hV2 hV3 hV4 hkk hwx HTX
  go_wp2
  have hb := HV.out.2
  go_region_held3 (fun X => X.cell? ⟨b, o + 2, none⟩ = some (.int .u8 V1) ∧ X.cell? ⟨b, o + 3, none⟩ = some (.int .u8 V2) ∧ X.cell? ⟨b, o + 4, none⟩ = some (.int .u8 V3) ∧ X.cell? ⟨b, o + 5, none⟩ = some (.int .u8 V4) ∧
      (convert 24 9 (.slice (some ⟨b, o + 14, none⟩) 16 (c - 14))).run Try.prog X = .ok (.string kk) X)
    (first | exact HB.out _ hb | exact HB.out _ hb.drew | exact HB.out _ (hb.alloc hb.size _) | exact HB.out _ (hb.alloc hb.size _).drew)
    (first | fail)
  obtain ⟨p, hp⟩ : ∃ p, p = V.heap.size := ⟨_, rfl⟩
  have HP := Lib.hid hp
  have HST : Hid (((V.alloc (.cells #[.int .i64 V1, .int .i64 V2, .int .i64 V3, .int .i64 V4, .int .i64 0, .string kk] 23)).drew).heap[p]? = some (.cells #[.int .i64 V1, .int .i64 V2, .int .i64 V3, .int .i64 V4, .int .i64 0, .string kk] 23 (0, 0)) ∧ Below p V (V.alloc (.cells #[.int .i64 V1, .int .i64 V2, .int .i64 V3, .int .i64 V4, .int .i64 0, .string kk] 23)).drew) := by
    rw [hp]
    exact ⟨heap_alloc_new V _, ((Below.refl _ _).alloc (Nat.le_refl _) _).drew⟩
  rw [← hp]
  clear hp hb e2 e3 e4 e5
  obtain ⟨V5, hV5⟩ : ∃ X, X = (V.alloc (.cells #[.int .i64 V1, .int .i64 V2, .int .i64 V3, .int .i64 V4, .int .i64 0, .string kk] 23)).drew := ⟨_, rfl⟩
  rw [← hV5] at HST ⊢
  clear hV5
  go_wp2
  go_loopw [5] (fun i wr => ∃ n : Nat, n ≤ 8 ∧ i = .int .i64 ((6 : Int) + n) ∧ Hid (wr.heap[p]? = some (.cells #[.int .i64 V1, .int .i64 V2, .int .i64 V3, .int .i64 V4, .int .i64 (wr64 (hVer bs n)), .string kk] 23 (0, 0)) ∧ Below p V wr)) (fun i _ => 14 - (intOf i).toNat)
  case atStart => exact ⟨0, Nat.zero_le _, rfl, HST.out⟩
  case round =>
    obtain ⟨n, hn, rfl, hS⟩ := hrel
    clear HST
    by_cases hlt : n < 8
    · obtain ⟨hrow, hbel⟩ := hS.out
      obtain ⟨v, hv⟩ : ∃ v, v = hVer bs n := ⟨_, rfl⟩
      have hvb := hVer_bd HZ.out (n := n) (by omega)
      rw [← hv] at hrow hvb
      rw [show wr64 v = v from wr64_in (by omega) (by omega)] at hrow
      obtain ⟨x, hx⟩ : ∃ x, x = bs.getD (6 + n) 0 := ⟨_, rfl⟩
      have hxb := HZ.out _ (getD_mem (l := bs) (i := 6 + n) (by have := HL.out; omega))
      rw [← hx] at hxb
      have HNX : Hid (wr64 (hVer bs (n + 1)) = bits .or .i64 (IntKind.i64.wrap (v * 256)) x) := by
        unfold Hid
        rw [hor_byte v x hvb hxb, hVer_succ (by have := HL.out; omega), ← hv, ← hx]
      have hcx : wr.cell? ⟨b, o + (6 + n), none⟩ = some (.int .u8 x) := by
        have := (HI.out.below (HV.out.2.trans (hbel.mono (by rw [HP.out]; exact HV.out.2.size)))).cell (i := 6 + n) (by have := HL.out; omega)
        rw [this, hx]
      have hc4 := cell_of_row _ _ 4 _ _ _ hrow
      have hf4 := frozen_of_row _ _ 4 _ _ hrow
      have hc4' : wr.cell? ⟨p, 4, none⟩ = some (.int .i64 v) := hc4
      have wx : IntKind.i64.wrap x = x := IntWalk.i64_in _ (by omega)
      have k0 : (6 : Int) + (n : Int) < 14 := by omega
      have k1 : (0 : Int) ≤ (6 : Int) + (n : Int) := by omega
      have k2 : (6 : Int) + (n : Int) < 64 := by omega
      have k3 : ((6 : Int) + (n : Int)).toNat = 6 + n := by omega
      have HR := Lib.hid hrow
      clear hS hrow hv hx hvb hxb hc4
      go_wp2
      go_region
      have R : Hid ((wr.setCell ⟨p, 4, none⟩ (.int .i64 (bits .or .i64 (IntKind.i64.wrap (v * 256)) x))).drew.heap[p]? = some (.cells #[.int .i64 V1, .int .i64 V2, .int .i64 V3, .int .i64 V4, .int .i64 (wr64 (hVer bs (n + 1))), .string kk] 23 (0, 0)) ∧ Below p V (wr.setCell ⟨p, 4, none⟩ (.int .i64 (bits .or .i64 (IntKind.i64.wrap (v * 256)) x))).drew) := by
        rw [HNX.out]
        exact ⟨hsetc_row wr p 4 _ _ _ HR.out, (hbel.setCell (p := ⟨p, 4, none⟩) (Nat.le_refl _) _).drew⟩
      obtain ⟨wn, hwn⟩ : ∃ wn, wn = (wr.setCell ⟨p, 4, none⟩ (.int .i64 (bits .or .i64 (IntKind.i64.wrap (v * 256)) x))).drew := ⟨_, rfl⟩
      rw [← hwn] at R
      rw [hwrap64, ← hwn]
      clear hwn HNX HR hcx hc4' hf4 wx k0 k1 k2 k3 hbel
      go_wp2
      go_roundw
      case rel => first | exact ⟨n + 1, by omega, by go_num, R⟩ | ((repeat apply Exists.intro); exact ⟨⟨n + 1, by omega, by go_num, R⟩, rfl⟩)
      case measure => first | (simp [intOf]; done) | (simp [intOf]; omega)
    · have hn8 : n = 8 := by omega
      subst hn8
      obtain ⟨hrow, hbel⟩ := hS.out
      have hP : #[.int .i64 V1, .int .i64 V2, .int .i64 V3, .int .i64 V4, .int .i64 (wr64 (hVer bs 8)), .string kk] = rcV (hRead bs) := by rw [(HRD.out _).2 rfl]; rfl
      rw [hP] at hrow
      have hinf : (Try.prog.info? 23).map (·.size) = some (rcV (hRead bs)).size := Try.infoHead
      have hone := rcV_ones (hRead bs)
      have hsz : Hid (zeroH.size = (rcV (hRead bs)).size) := rfl
      have hbw : Below w.heap.size w wr := HV.out.2.trans (hbel.mono (by rw [HP.out]; exact HV.out.2.size))
      have hq := (hbel.block w.heap.size (by rw [HP.out]; exact (Array.getElem?_eq_some_iff.1 HV.out.1).1)).trans HV.out.1
      have HDR : hDec bs = if hErr (hRead bs) = 0 ∧ hSec (hRead bs) = bs then (0, hRead bs) else (2, hZero) := by
        unfold hDec
        rw [if_neg HNZ.out]
        by_cases q : hErr (hRead bs) = 0 ∧ hSec (hRead bs) = bs
        · rw [if_pos q, if_pos ⟨HL.out, q⟩]
        · rw [if_neg q, if_neg (fun h => q h.2)]
      have HEY := Lib.hid (fun W => hrefEnc_yes (hRead bs) W)
      have HEN := Lib.hid (fun W => hrefEnc_bad (hRead bs) W)
      have HTX : Hid (((strOfNums (hSec (hRead bs))).toList == s1.toList) = decide (hSec (hRead bs) = bs)) := by rw [HS1.out]; exact textH_apart (hSec_mem _) HZ.out
      have HSL : Hid (hErr (hRead bs) = 0 → (hSec (hRead bs)).length = 64) := fun q => hSec_len (hErr_zero.1 q).2
      have HCV : Hid (∀ X, Below w.heap.size w X → (convert 24 9 (.slice (some ⟨b, o, none⟩) 64 c)).run Try.prog X = .ok (.string s1) X) := fun X hX => by
        rw [HS1.out]
        exact (HI.out.below hX).textAs (n := 64) Try.underlying24 Try.underlying5 Try.underlying9 HL.out rfl c
      have HRW := Lib.hid hrow
      have HBW := Lib.hid hbw
      have HQ := Lib.hid hq
      obtain ⟨PH, hPH⟩ : ∃ P, P = hRead bs := ⟨_, rfl⟩
      rw [← hPH] at HRW hinf hone hsz HDR HTX HSL
      simp only [← hPH] at HEY HEN
      obtain ⟨PR, hPR⟩ : ∃ P, P = rcV PH := ⟨_, rfl⟩
      simp only [← hPR] at HRW hinf hone hsz HEY HEN
      have HPR := Lib.hid hPR
      clear hS hrow hP hbw hq hPH hPR HRD HB HNZ HI HZ HS1 hbel HV hlt hn hlq c30 e14
      by_cases hE : hErr PH = 0
      · have HEY := Lib.hid (fun W => HEY.out W hE)
        have hsl := HSL.out hE
        obtain ⟨S, hS⟩ : ∃ S, S = hSec PH := ⟨_, rfl⟩
        simp only [← hS] at HEY HTX hsl HDR
        by_cases hq : S = bs
        · rw [if_pos ⟨hE, hq⟩] at HDR
          have HD := Lib.hid HDR
          rw [decide_eq_true hq] at HTX
          have hx := HTX.out
          have hx2 : ((strOfNums S).toList != s1.toList) = false := by rw [bne, hx]; rfl
          clear HEN HDR hE hq hS HSL
          go_wp2_with (first
            | (refine wpList_load_row rfl 23 _ rfl p rfl 23 _ (0, 0) _ HRW.out Try.underlying23 rfl hinf ?_)
            | (go_at_call 10; with_reducible (refine Calls.mono (HEY.out _) ?_); rintro e w3 ⟨A3, c3, rfl, _, hi3, hb3⟩; have x3 := HBW.out.trans (hb3.mono HBW.out.size); have hq3 := Lib.hid ((hb3.block _ (Array.getElem?_eq_some_iff.1 HQ.out).1).trans HQ.out); have hr3 := Lib.hid ((hb3.block _ (Array.getElem?_eq_some_iff.1 HRW.out).1).trans HRW.out); have cv1 := hi3.textAs (P := Try.prog) (n := 64) Try.underlying24 Try.underlying5 Try.underlying9 hsl rfl c3; have cv2 := HCV.out w3 x3; clear hi3)
            | (have hguard := hr3; clear hguard; refine wpList_load_row rfl 23 _ rfl p rfl 23 _ (0, 0) _ hr3.out Try.underlying23 rfl hinf ?_)
            | (have hguard := hr3; clear hguard; refine wpList_store_fresh rfl 23 _ _ rfl w.heap.size PR rfl rfl 23 _ hq3.out hinf hsz.out hone x3 (Nat.le_refl _) ?_; intro W hW hbW hkW hsW; clear hkW hsW))
          exact bodyPost_ret (hres_row_tmp rfl _ _ w.heap.size _ _ _ _ rfl hW Try.underlying23 rfl hinf) rfl ⟨by rw [HD.out, HPR.out]; rfl, hbW⟩
        · rw [if_neg (fun h => hq h.2)] at HDR
          have HD := Lib.hid HDR
          rw [decide_eq_false hq] at HTX
          have hx := HTX.out
          have hx2 : ((strOfNums S).toList != s1.toList) = true := by rw [bne, hx]; rfl
          clear HEN HDR hE hq hS HPR HSL
          go_wp2_with (first
            | (refine wpList_load_row rfl 23 _ rfl p rfl 23 _ (0, 0) _ HRW.out Try.underlying23 rfl hinf ?_)
            | (go_at_call 10; with_reducible (refine Calls.mono (HEY.out _) ?_); rintro e w3 ⟨A3, c3, rfl, _, hi3, hb3⟩; have x3 := HBW.out.trans (hb3.mono HBW.out.size); have hq3 := Lib.hid ((hb3.block _ (Array.getElem?_eq_some_iff.1 HQ.out).1).trans HQ.out); have cv1 := hi3.textAs (P := Try.prog) (n := 64) Try.underlying24 Try.underlying5 Try.underlying9 hsl rfl c3; have cv2 := HCV.out w3 x3; clear hi3)
            | (have hguard := hq3; clear hguard; refine wpList_store_fresh rfl 23 _ _ rfl w.heap.size zeroH rfl rfl 23 _ hq3.out hinf0 rfl hone0 x3 (Nat.le_refl _) ?_; intro W hW hbW hkW hsW; clear hkW hsW))
          exact bodyPost_ret (hres_row_tmp rfl _ _ w.heap.size _ _ _ _ rfl hW Try.underlying23 rfl hinf0) rfl ⟨by rw [HD.out]; rfl, hbW⟩
      · have HEN := Lib.hid (fun W => HEN.out W hE)
        rw [if_neg (fun h => hE h.1)] at HDR
        have HD := Lib.hid HDR
        obtain ⟨E, hEE⟩ : ∃ E, E = hErr PH := ⟨_, rfl⟩
        rw [← hEE] at hE
        simp only [← hEE] at HEN
        have e1 : (E != 0) = true := by rw [bne_iff_ne]; exact hE
        clear HEY HDR hE hEE HPR HSL HTX HCV
        go_wp2_with (first
          | (refine wpList_load_row rfl 23 _ rfl p rfl 23 _ (0, 0) _ HRW.out Try.underlying23 rfl hinf ?_)
          | (go_at_call 10; with_reducible (refine Calls.mono (HEN.out _) ?_); rintro e w3 ⟨rfl, hb3⟩; have x3 := HBW.out.trans (hb3.mono HBW.out.size); have hq3 := Lib.hid ((hb3.block _ (Array.getElem?_eq_some_iff.1 HQ.out).1).trans HQ.out))
          | (have hguard := hq3; clear hguard; refine wpList_store_fresh rfl 23 _ _ rfl w.heap.size zeroH rfl rfl 23 _ hq3.out hinf0 rfl hone0 x3 (Nat.le_refl _) ?_; intro W hW hbW hkW hsW; clear hkW hsW))
        exact bodyPost_ret (hres_row_tmp rfl _ _ w.heap.size _ _ _ _ rfl hW Try.underlying23 rfl hinf0) rfl ⟨by rw [HD.out]; rfl, hbW⟩

/-- 'Decode'. -/
theorem hrefDec_any (A : Option Addr) (c : Nat) (bs : List Int) (w : World) (h : Ints w w.heap.size .u8 A bs) (hz : ∀ z ∈ bs, 0 ≤ z ∧ z ≤ 255) (hc : bs.length ≤ c) :
    Calls Try.prog 13 #[.slice A bs.length c] w fun e w' => e = .returned (.tuple #[.agg (rcV (hDec bs).2), .int .i64 (hDec bs).1]) ∧ Below w.heap.size w w' := by
  by_cases h0 : bs = zero64
  · have e : hDec bs = (4, hZero) := if_pos h0
    have := hrefDec_short A c bs w h hz (.inl h0)
    rw [if_pos h0] at this
    rw [e]; exact this
  · by_cases hl : bs.length = 64
    · obtain ⟨b, o, rfl, _⟩ := h.at_ (by omega)
      rw [hl]
      exact hrefDec_64 b o c bs w h hz hl (by omega) h0
    · have e : hDec bs = (2, hZero) := by unfold hDec; rw [if_neg h0, if_neg (fun q => hl q.1)]
      have := hrefDec_short A c bs w h hz (.inr hl)
      rw [if_neg h0] at this
      rw [e]; exact this

end Go.Proofs.Ytbmgiekiildaaaa

namespace Go.Proofs.Ytbmgiekiildaaaa
open Go.RowKit

theorem ints_none (w : World) (B : Nat) (A : Option Addr) : Ints w B .i64 A [] := fun i hi => absurd hi (Nat.not_lt_zero i)
end Go.Proofs.Ytbmgiekiildaaaa

namespace Go.Proofs.Ytbmgiekiildaaaa
open Go.RowKit

/-- Two tables laid in boxes of their own. -/
theorem box_two (w : World) (x y z x' y' z' : Value) (T : TypeId) : ∃ W, W = (w.alloc (.cells #[x, y, z] T)).alloc (.cells #[x', y', z'] T) ∧
    (∀ m, (W.drewN m).cell? ⟨w.heap.size, 0, none⟩ = some x ∧ (W.drewN m).cell? ⟨w.heap.size, 1, none⟩ = some y ∧ (W.drewN m).cell? ⟨w.heap.size, 2, none⟩ = some z ∧
      (W.drewN m).cell? ⟨w.heap.size + 1, 0, none⟩ = some x' ∧ (W.drewN m).cell? ⟨w.heap.size + 1, 1, none⟩ = some y' ∧ (W.drewN m).cell? ⟨w.heap.size + 1, 2, none⟩ = some z') ∧ Below w.heap.size w W ∧ ∀ m, Below w.heap.size w (W.drewN m) := by
  refine ⟨_, rfl, fun m => ?_, ?_, fun m => ?_⟩
  · have h := (heap_alloc_new w (.cells #[x, y, z] T))
    have h1 : ((w.alloc (.cells #[x, y, z] T)).alloc (.cells #[x', y', z'] T)).heap[w.heap.size]? = some (.cells #[x, y, z] T) := (Below.heap_alloc (w.alloc (.cells #[x, y, z] T)) (.cells #[x', y', z'] T) _ (by simp)).trans h
    have h2 := heap_alloc_new (w.alloc (.cells #[x, y, z] T)) (.cells #[x', y', z'] T)
    have e : (w.alloc (.cells #[x, y, z] T)).heap.size = w.heap.size + 1 := by simp
    rw [e] at h2
    have q1 : ∀ i v, (#[x, y, z] : Array Value)[i]? = some v → ((w.alloc (.cells #[x, y, z] T)).alloc (.cells #[x', y', z'] T)).cell? ⟨w.heap.size, i, none⟩ = some v := fun i v hv => by rw [cell_of_row _ _ _ _ _ _ h1, hv]
    have q2 : ∀ i v, (#[x', y', z'] : Array Value)[i]? = some v → ((w.alloc (.cells #[x, y, z] T)).alloc (.cells #[x', y', z'] T)).cell? ⟨w.heap.size + 1, i, none⟩ = some v := fun i v hv => by rw [cell_of_row _ _ _ _ _ _ h2, hv]
    exact ⟨q1 0 x rfl, q1 1 y rfl, q1 2 z rfl, q2 0 x' rfl, q2 1 y' rfl, q2 2 z' rfl⟩
  · exact ((Below.refl _ _).alloc (Nat.le_refl _) _).alloc (by simp) _
  · exact below_drewN (((Below.refl _ _).alloc (Nat.le_refl _) _).alloc (by simp) _) m

end Go.Proofs.Ytbmgiekiildaaaa
