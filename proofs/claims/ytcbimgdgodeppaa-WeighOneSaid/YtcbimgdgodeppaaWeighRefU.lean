/-
  The document's own units (stowageref08): what they are; nothing that was there is changed.
-/
import Derived.Test.YtcbimgdgodeppaaWeighRef
import Derived.Test.YtcbimgdgodeppaaArrs
namespace Go.Proofs.Ytcbimgdgodeppaa
open Go.RowKit

/-- A slice that reads as numbers of 64 bits. -/
def Flts (w : World) (B : Nat) (A : Option Addr) (bs : List Nat) : Prop := ∀ i, i < bs.length → ∃ b off, A = some ⟨b, off, none⟩ ∧ b < B ∧ w.cell? ⟨b, off + i, none⟩ = some (.float .f64 (bs.getD i 0))
theorem Flts.below {w w' : World} {A : Option Addr} {bs : List Nat} {B : Nat} (h : Flts w B A bs) (hb : Below B w w') : Flts w' B A bs := fun i hi => by
  obtain ⟨b, off, e, hlt, hc⟩ := h i hi
  exact ⟨b, off, e, hlt, (hb.cell (p := ⟨b, off + i, none⟩) hlt).trans hc⟩
theorem Flts.more {w : World} {A : Option Addr} {bs : List Nat} {B B' : Nat} (h : Flts w B A bs) (hb : B ≤ B') : Flts w B' A bs := fun i hi => by
  obtain ⟨b, off, e, hlt, hc⟩ := h i hi
  exact ⟨b, off, e, by omega, hc⟩
def maxO (a : Option Int) (t : Int) : Option Int := match a with | none => some t | some s => some (max s t)
theorem most_snoc (x : Nat) : ∀ l : List Nat, mostN (l ++ [x]) = if posN x && !infN x then maxO (mostN l) (topN x) else mostN l
  | [] => by
    simp only [List.nil_append, mostN]; rfl
  | a :: l => by
    simp only [List.cons_append, mostN, most_snoc x l]
    by_cases hx : (posN x && !infN x) = true
    · rw [if_pos hx, if_pos hx]
      by_cases ha : (posN a && !infN a) = true
      · rw [if_pos ha, if_pos ha]
        cases mostN l with
        | none => rfl
        | some t => simp only [maxO, Option.some.injEq]; omega
      · rw [if_neg ha, if_neg ha]
    · rw [if_neg hx, if_neg hx]
theorem anyInf_snoc (x : Nat) (l : List Nat) : anyInf (l ++ [x]) = (anyInf l || infN x) := by
  unfold anyInf
  rw [List.any_append]; simp
theorem take_snocN (l : List Nat) {k : Nat} (h : k < l.length) : l.take (k + 1) = l.take k ++ [l.getD k 0] := by
  rw [List.take_add_one, List.getElem?_eq_getElem h]
  simp [List.getD_eq_getElem?_getD, h]
theorem Try.infoI64w : (Try.prog.info? 3).map (fun i => (i.zero, i.size, i.bytes)) = some (some (.int .i64 0), 1, 8) := by kernel_rfl
theorem top_bound {b : Nat} : -1074 ≤ topN b ∧ topN b ≤ 1025 := by
  obtain ⟨h1, h2⟩ := expo_bound b
  have := log2_bound (mant_bound b)
  unfold topN
  omega
theorem unitsN_at (l : List Nat) {i : Nat} (h : i < l.length) : (unitsN l).getD i 0 = unitN (anyInf l) ((mostN l).getD 0) (l.getD i 0) := by
  simp [unitsN, List.getD_eq_getElem?_getD, h]

set_option maxHeartbeats 3200000 in
set_option maxRecDepth 20000 in
/-- 'Units'. -/
theorem refUnits_any (A : Option Addr) (c : Nat) (bs : List Nat) (w : World) (h : Flts w w.heap.size A bs) (hlt : ∀ b ∈ bs, b < 18446744073709551616) (hn : bs.length ≤ 100000) :
    Calls Try.prog 14 #[.slice A bs.length c] w fun e w' => ∃ A' c', e = .returned (.slice A' bs.length c') ∧ bs.length ≤ c' ∧ Ints w' w'.heap.size .i64 A' (up (unitsN bs)) ∧ Below w.heap.size w w' := by
  obtain ⟨i0, hi, hz0, hz1, hz2⟩ := info_parts Try.infoI64w
  have HX := Lib.hid (fun i (hi : i < bs.length) => hlt (bs.getD i 0) (by rw [List.getD_eq_getElem?_getD, List.getElem?_eq_getElem hi]; exact List.getElem_mem hi))
  have HFI := Lib.hid (fun (b : Nat) (W : World) => refInf_any b W)
  have HFP := Lib.hid (fun (b : Nat) (W : World) => refPos_any b W)
  have HFT := Lib.hid (fun (b : Nat) (W : World) (hb : b < 18446744073709551616) => refTop_any b W hb)
  have HFS := Lib.hid (fun (b : Nat) (n : Int) (W : World) (hb : b < 18446744073709551616) (hn : -2000 ≤ n ∧ n ≤ 2000) (hs : scaledN b n < 4294967296) => refScaled_any b n W hb hn hs)
  have HF := Lib.hid h
  have HB := Lib.hid (fun b (hb : b ∈ bs) => unit_lt hb)
  have hni : (bs.length : Int) ≤ 100000 := by omega
  clear h hlt
  go_enter Try.func14, Try.ntmps14
  go_wp2
  go_loop [3, 4, 5, 6] (fun a b m i => ∃ k : Nat, k ≤ bs.length ∧ i = .int .i64 k ∧ a = .bool (anyInf (bs.take k)) ∧ b = .bool (mostN (bs.take k)).isNone ∧ m = .int .i64 ((mostN (bs.take k)).getD 0)) (fun _ _ _ i => bs.length - (intOf i).toNat)
  case atStart => exact ⟨0, Nat.zero_le _, rfl, rfl, rfl, rfl⟩
  case round =>
    obtain ⟨k, hk, rfl, rfl, rfl, rfl⟩ := hrel
    by_cases hlt : k < bs.length
    · obtain ⟨b1, off, hA, _, hc⟩ := HF.out k hlt
      have hbl := HX.out k hlt
      have ht := take_snocN bs hlt
      obtain ⟨x, hx⟩ : ∃ x, x = bs.getD k 0 := ⟨_, rfl⟩
      rw [← hx] at hc hbl ht
      have hI := fun W => HFI.out x W
      have hP := fun W => HFP.out x W
      have hT := fun W => HFT.out x W hbl
      have ha := anyInf_snoc x (bs.take k)
      have hm := most_snoc x (bs.take k)
      rw [← ht] at ha hm
      have k1 : (k : Int) < (bs.length : Int) := by omega
      have k0 : (0 : Int) ≤ (k : Int) := by omega
      obtain ⟨tb1, tb2⟩ := top_bound (b := x)
      have HT1 := Lib.hid hT
      obtain ⟨a, ha'⟩ : ∃ a, a = anyInf (bs.take k) := ⟨_, rfl⟩
      obtain ⟨O, hO'⟩ : ∃ O, O = mostN (bs.take k) := ⟨_, rfl⟩
      rw [← ha'] at ha ⊢
      rw [← hO'] at hm ⊢
      subst hA
      clear hx hbl ht hT ha' hO'
      by_cases hi1 : infN x = true
      · have hp1 : (posN x && !infN x) = false := by rw [hi1]; simp
        rw [hi1] at hI ha
        rw [hp1] at hm
        rw [Bool.or_true] at ha
        rw [if_neg (by simp)] at hm
        have HI1 := Lib.hid hI
        have HP1 := Lib.hid hP
        have HA2 := Lib.hid ha
        have HO2 := Lib.hid hm
        clear hI hP ha hm hi1 hp1
        go_wp2_with (first
          | (go_at_call 24; with_reducible (refine Calls.mono (HI1.out _) ?_); rintro e w' ⟨rfl, rfl⟩)
          | (go_at_call 25; with_reducible (refine Calls.mono (HP1.out _) ?_); rintro e w' ⟨rfl, rfl⟩)
          | (go_at_call 26; with_reducible (refine Calls.mono (HT1.out _) ?_); rintro e w' ⟨rfl, rfl⟩))
        go_round
        case rel => exact ⟨k + 1, by omega, by go_num, by rw [HA2.out], by rw [HO2.out], by rw [HO2.out]⟩
        case measure => simp [intOf]; omega
      · rw [Bool.not_eq_true] at hi1
        rw [hi1] at hI ha
        rw [Bool.or_false] at ha
        have HI1 := Lib.hid hI
        have HA2 := Lib.hid ha
        clear hI ha
        by_cases hp1 : posN x = true
        · rw [hp1] at hP
          have HP1 := Lib.hid hP
          rw [hp1, hi1, if_pos (by simp)] at hm
          clear hP hp1 hi1
          cases O with
          | none =>
            have HO2 : Hid (mostN (bs.take (k + 1)) = some (topN x)) := hm
            clear hm
            go_wp2_with (first
              | (go_at_call 24; with_reducible (refine Calls.mono (HI1.out _) ?_); rintro e w' ⟨rfl, rfl⟩)
              | (go_at_call 25; with_reducible (refine Calls.mono (HP1.out _) ?_); rintro e w' ⟨rfl, rfl⟩)
              | (go_at_call 26; with_reducible (refine Calls.mono (HT1.out _) ?_); rintro e w' ⟨rfl, rfl⟩))
            go_round
            case rel => exact ⟨k + 1, by omega, by go_num, by rw [HA2.out], by rw [HO2.out]; rfl, by rw [HO2.out]; rfl⟩
            case measure => simp [intOf]; omega
          | some s =>
            have HO2 : Hid (mostN (bs.take (k + 1)) = some (max s (topN x))) := hm
            clear hm
            by_cases hgt : s < topN x
            · have hmx : max s (topN x) = topN x := by omega
              rw [hmx] at HO2
              clear hmx
              have hgd : topN x > s := hgt
              go_wp2_with (first
                | (go_at_call 24; with_reducible (refine Calls.mono (HI1.out _) ?_); rintro e w' ⟨rfl, rfl⟩)
                | (go_at_call 25; with_reducible (refine Calls.mono (HP1.out _) ?_); rintro e w' ⟨rfl, rfl⟩)
                | (go_at_call 26; with_reducible (refine Calls.mono (HT1.out _) ?_); rintro e w' ⟨rfl, rfl⟩))
              go_round
              case rel => exact ⟨k + 1, by omega, by go_num, by rw [HA2.out], by rw [HO2.out]; rfl, by rw [HO2.out]; rfl⟩
              case measure => simp [intOf]; omega
            · have hmx : max s (topN x) = s := by omega
              rw [hmx] at HO2
              clear hmx
              have hgd : ¬ topN x > s := hgt
              go_wp2_with (first
                | (go_at_call 24; with_reducible (refine Calls.mono (HI1.out _) ?_); rintro e w' ⟨rfl, rfl⟩)
                | (go_at_call 25; with_reducible (refine Calls.mono (HP1.out _) ?_); rintro e w' ⟨rfl, rfl⟩)
                | (go_at_call 26; with_reducible (refine Calls.mono (HT1.out _) ?_); rintro e w' ⟨rfl, rfl⟩))
              go_round
              case rel => exact ⟨k + 1, by omega, by go_num, by rw [HA2.out], by rw [HO2.out]; rfl, by rw [HO2.out]; rfl⟩
              case measure => simp [intOf]; omega
        · rw [Bool.not_eq_true] at hp1
          rw [hp1] at hP
          have HP1 := Lib.hid hP
          rw [hp1, Bool.false_and, if_neg (by simp)] at hm
          have HO2 := Lib.hid hm
          clear hP hp1 hi1 hm
          go_wp2_with (first
            | (go_at_call 24; with_reducible (refine Calls.mono (HI1.out _) ?_); rintro e w' ⟨rfl, rfl⟩)
            | (go_at_call 25; with_reducible (refine Calls.mono (HP1.out _) ?_); rintro e w' ⟨rfl, rfl⟩)
            | (go_at_call 26; with_reducible (refine Calls.mono (HT1.out _) ?_); rintro e w' ⟨rfl, rfl⟩))
          go_round
          case rel => exact ⟨k + 1, by omega, by go_num, by rw [HA2.out], by rw [HO2.out], by rw [HO2.out]⟩
          case measure => simp [intOf]; omega
    · have hk' : k = bs.length := by omega
      subst hk'
      rw [List.take_length]
      have hOb : -1074 ≤ (mostN bs).getD 0 ∧ (mostN bs).getD 0 ≤ 1025 := by
        cases hq : mostN bs with
        | none => exact ⟨by decide, by decide⟩
        | some t =>
          obtain ⟨b, _, _, _, hbt⟩ := most_at hq
          have := top_bound (b := b)
          rw [Option.getD_some]; omega
      have HAT := Lib.hid (fun i (hi : i < bs.length) => unitsN_at bs hi)
      have HUL := Lib.hid (unitsN_len bs)
      have HOO := Lib.hid hOb
      obtain ⟨Z, hZ⟩ : ∃ Z, Z = anyInf bs := ⟨_, rfl⟩
      obtain ⟨O, hO⟩ : ∃ O, O = (mostN bs).getD 0 := ⟨_, rfl⟩
      obtain ⟨F, hF⟩ : ∃ F, F = (mostN bs).isNone := ⟨_, rfl⟩
      simp only [← hZ, ← hO] at HAT HB HOO
      rw [← hZ, ← hO, ← hF]
      obtain ⟨o1, o2⟩ := HOO.out
      clear hZ hO hF hOb HOO hlt
      go_wp2
      go_loopw [7, 8] (fun v i wr => ∃ k : Nat, k ≤ bs.length ∧ i = .int .i64 k ∧ (∃ A c, v = .slice A k c) ∧ wr.ownsRow w.heap.size 3 1 v k ((up ((unitsN bs).take k)).map (Value.int .i64)) ∧ Below w.heap.size w wr) (fun _ i _ => bs.length - (intOf i).toNat)
      case atStart => exact ⟨0, Nat.zero_le _, rfl, ⟨_, _, rfl⟩, World.ownsRow_made w #[] 0 (Nat.le_refl _) (Nat.zero_le _) rfl, (Below.refl _ _).alloc (Nat.le_refl _) _⟩
      case round =>
        obtain ⟨k, hk, rfl, ⟨A1, c1, rfl⟩, hown, hbel⟩ := hrel
        by_cases hlt : k < bs.length
        · obtain ⟨b1, off, hA, _, hc⟩ := (HF.out.below hbel) k hlt
          have hbl := HX.out k hlt
          have hat := HAT.out k hlt
          have ht := take_snocN (unitsN bs) (k := k) (by rw [HUL.out]; exact hlt)
          have hul := HB.out (bs.getD k 0) (by rw [List.getD_eq_getElem?_getD, List.getElem?_eq_getElem hlt]; exact List.getElem_mem hlt)
          rw [hat] at ht
          obtain ⟨x, hx⟩ : ∃ x, x = bs.getD k 0 := ⟨_, rfl⟩
          rw [← hx] at hc hbl ht hul
          have hI := fun W => HFI.out x W
          have hP := fun W => HFP.out x W
          have k1 : (k : Int) < (bs.length : Int) := by omega
          have k0 : (0 : Int) ≤ (k : Int) := by omega
          subst hA
          clear hx hat
          cases Z with
          | true =>
            have HP1 := Lib.hid hP
            have HS1 : Hid (∀ W : World, W = W) := fun _ => rfl
            by_cases hi1 : infN x = true
            · have hu : unitN true O x = 1 := by unfold unitN; rw [if_pos rfl, if_pos hi1]
              rw [hu] at ht
              rw [hi1] at hI
              have HI1 := Lib.hid hI
              have HNN := Lib.hid ht
              clear hI hP ht hul hbl hi1 hu
              go_wp2_with (first
                | (go_at_call 24; with_reducible (refine Calls.mono (HI1.out _) ?_); rintro e w' ⟨rfl, rfl⟩)
                | (go_at_call 25; with_reducible (refine Calls.mono (HP1.out _) ?_); rintro e w' ⟨rfl, rfl⟩)
                | (go_at_call 27; with_reducible (refine Calls.mono (HS1.out _) ?_); rintro e w' ⟨rfl, rfl⟩)
                | (at_builtin; refine wpList_append_own_at _ rfl _ _ 27 rfl w.heap.size 3 i0 (.int .i64 0) 1 8 Try.underlying27 hi hz0 hz1 hz2 rfl (by decide) _ _ _ rfl (hown.alloc _) ⟨wr.heap.size, 0, none⟩ 1 1 [.int .i64 (1)] rfl rfl (cell_one_new _ _ _) ?d1 ?d2 ?d3 ?d4 ?_))
              case d1 => intro u hu; simp at hu; subst hu; rfl
              case d2 => unfold maxLen; omega
              case d3 => omega
              case d4 => have := hbel.size; simp; omega
              intro v3 w3 hown3 hg3 _ _
              have R : w3.ownsRow w.heap.size 3 1 v3 (k + 1) ((up ((unitsN bs).take (k + 1))).map (Value.int .i64)) ∧ Below w.heap.size w w3 := by
                refine ⟨?_, (hbel.alloc hbel.size _).grown hg3 (by have := hbel.size; simp; omega) fun q hq => (hown.lt q hq).1⟩
                rw [HNN.out, up_append, List.map_append]
                exact hown3
              obtain ⟨A3, q3, hv3⟩ := own_slice R.1
              subst hv3
              clear hown3 hg3 hown hbel
              go_wp2
              go_roundw
              case rel => first | exact ⟨k + 1, by omega, by go_num, ⟨A3, q3, rfl⟩, R.1, R.2⟩ | ((repeat apply Exists.intro); exact ⟨⟨k + 1, by omega, by go_num, ⟨A3, q3, rfl⟩, R.1, R.2⟩, rfl⟩)
              case measure => simp [intOf]; omega
            · have hu : unitN true O x = 0 := by unfold unitN; rw [if_pos rfl, if_neg hi1]
              rw [hu] at ht
              rw [Bool.not_eq_true] at hi1
              rw [hi1] at hI
              have HI1 := Lib.hid hI
              have HNN := Lib.hid ht
              clear hI hP ht hul hbl hi1 hu
              go_wp2_with (first
                | (go_at_call 24; with_reducible (refine Calls.mono (HI1.out _) ?_); rintro e w' ⟨rfl, rfl⟩)
                | (go_at_call 25; with_reducible (refine Calls.mono (HP1.out _) ?_); rintro e w' ⟨rfl, rfl⟩)
                | (go_at_call 27; with_reducible (refine Calls.mono (HS1.out _) ?_); rintro e w' ⟨rfl, rfl⟩)
                | (at_builtin; refine wpList_append_own_at _ rfl _ _ 27 rfl w.heap.size 3 i0 (.int .i64 0) 1 8 Try.underlying27 hi hz0 hz1 hz2 rfl (by decide) _ _ _ rfl (hown.alloc _) ⟨wr.heap.size, 0, none⟩ 1 1 [.int .i64 (0)] rfl rfl (cell_one_new _ _ _) ?d1 ?d2 ?d3 ?d4 ?_))
              case d1 => intro u hu; simp at hu; subst hu; rfl
              case d2 => unfold maxLen; omega
              case d3 => omega
              case d4 => have := hbel.size; simp; omega
              intro v3 w3 hown3 hg3 _ _
              have R : w3.ownsRow w.heap.size 3 1 v3 (k + 1) ((up ((unitsN bs).take (k + 1))).map (Value.int .i64)) ∧ Below w.heap.size w w3 := by
                refine ⟨?_, (hbel.alloc hbel.size _).grown hg3 (by have := hbel.size; simp; omega) fun q hq => (hown.lt q hq).1⟩
                rw [HNN.out, up_append, List.map_append]
                exact hown3
              obtain ⟨A3, q3, hv3⟩ := own_slice R.1
              subst hv3
              clear hown3 hg3 hown hbel
              go_wp2
              go_roundw
              case rel => first | exact ⟨k + 1, by omega, by go_num, ⟨A3, q3, rfl⟩, R.1, R.2⟩ | ((repeat apply Exists.intro); exact ⟨⟨k + 1, by omega, by go_num, ⟨A3, q3, rfl⟩, R.1, R.2⟩, rfl⟩)
              case measure => simp [intOf]; omega
          | false =>
            have HI1 := Lib.hid hI
            by_cases hp1 : posN x = true
            · have hu : unitN false O x = scaledN x (31 - O) := by unfold unitN; rw [if_neg (by simp), if_pos hp1]
              rw [hu] at ht hul
              rw [hp1] at hP
              have hS := fun W => HFS.out x (31 - O) W hbl ⟨by omega, by omega⟩ hul
              obtain ⟨q, hq⟩ : ∃ q, q = scaledN x (31 - O) := ⟨_, rfl⟩
              simp only [← hq] at hS ht
              have HP1 := Lib.hid hP
              have HS1 := Lib.hid hS
              have HNN := Lib.hid ht
              clear hI hP hS ht hul hbl hp1 hu hq
              go_wp2_with (first
                | (go_at_call 24; with_reducible (refine Calls.mono (HI1.out _) ?_); rintro e w' ⟨rfl, rfl⟩)
                | (go_at_call 25; with_reducible (refine Calls.mono (HP1.out _) ?_); rintro e w' ⟨rfl, rfl⟩)
                | (go_at_call 27; with_reducible (refine Calls.mono (HS1.out _) ?_); rintro e w' ⟨rfl, rfl⟩)
                | (at_builtin; refine wpList_append_own_at _ rfl _ _ 27 rfl w.heap.size 3 i0 (.int .i64 0) 1 8 Try.underlying27 hi hz0 hz1 hz2 rfl (by decide) _ _ _ rfl (hown.alloc _) ⟨wr.heap.size, 0, none⟩ 1 1 [.int .i64 (q : Int)] rfl rfl (cell_one_new _ _ _) ?d1 ?d2 ?d3 ?d4 ?_))
              case d1 => intro u hu; simp at hu; subst hu; rfl
              case d2 => unfold maxLen; omega
              case d3 => omega
              case d4 => have := hbel.size; simp; omega
              intro v3 w3 hown3 hg3 _ _
              have R : w3.ownsRow w.heap.size 3 1 v3 (k + 1) ((up ((unitsN bs).take (k + 1))).map (Value.int .i64)) ∧ Below w.heap.size w w3 := by
                refine ⟨?_, (hbel.alloc hbel.size _).grown hg3 (by have := hbel.size; simp; omega) fun q hq => (hown.lt q hq).1⟩
                rw [HNN.out, up_append, List.map_append]
                exact hown3
              obtain ⟨A3, q3, hv3⟩ := own_slice R.1
              subst hv3
              clear hown3 hg3 hown hbel
              go_wp2
              go_roundw
              case rel => first | exact ⟨k + 1, by omega, by go_num, ⟨A3, q3, rfl⟩, R.1, R.2⟩ | ((repeat apply Exists.intro); exact ⟨⟨k + 1, by omega, by go_num, ⟨A3, q3, rfl⟩, R.1, R.2⟩, rfl⟩)
              case measure => simp [intOf]; omega
            · have hu : unitN false O x = 0 := by unfold unitN; rw [if_neg (by simp), if_neg hp1]
              rw [hu] at ht
              rw [Bool.not_eq_true] at hp1
              rw [hp1] at hP
              have HP1 := Lib.hid hP
              have HS1 : Hid (∀ W : World, W = W) := fun _ => rfl
              have HNN := Lib.hid ht
              clear hI hP ht hul hbl hp1 hu
              go_wp2_with (first
                | (go_at_call 24; with_reducible (refine Calls.mono (HI1.out _) ?_); rintro e w' ⟨rfl, rfl⟩)
                | (go_at_call 25; with_reducible (refine Calls.mono (HP1.out _) ?_); rintro e w' ⟨rfl, rfl⟩)
                | (go_at_call 27; with_reducible (refine Calls.mono (HS1.out _) ?_); rintro e w' ⟨rfl, rfl⟩)
                | (at_builtin; refine wpList_append_own_at _ rfl _ _ 27 rfl w.heap.size 3 i0 (.int .i64 0) 1 8 Try.underlying27 hi hz0 hz1 hz2 rfl (by decide) _ _ _ rfl (hown.alloc _) ⟨wr.heap.size, 0, none⟩ 1 1 [.int .i64 (0)] rfl rfl (cell_one_new _ _ _) ?d1 ?d2 ?d3 ?d4 ?_))
              case d1 => intro u hu; simp at hu; subst hu; rfl
              case d2 => unfold maxLen; omega
              case d3 => omega
              case d4 => have := hbel.size; simp; omega
              intro v3 w3 hown3 hg3 _ _
              have R : w3.ownsRow w.heap.size 3 1 v3 (k + 1) ((up ((unitsN bs).take (k + 1))).map (Value.int .i64)) ∧ Below w.heap.size w w3 := by
                refine ⟨?_, (hbel.alloc hbel.size _).grown hg3 (by have := hbel.size; simp; omega) fun q hq => (hown.lt q hq).1⟩
                rw [HNN.out, up_append, List.map_append]
                exact hown3
              obtain ⟨A3, q3, hv3⟩ := own_slice R.1
              subst hv3
              clear hown3 hg3 hown hbel
              go_wp2
              go_roundw
              case rel => first | exact ⟨k + 1, by omega, by go_num, ⟨A3, q3, rfl⟩, R.1, R.2⟩ | ((repeat apply Exists.intro); exact ⟨⟨k + 1, by omega, by go_num, ⟨A3, q3, rfl⟩, R.1, R.2⟩, rfl⟩)
              case measure => simp [intOf]; omega
        · have hk8 : k = bs.length := by omega
          subst hk8
          rw [List.take_of_length_le (by rw [HUL.out]; exact Nat.le_refl _)] at hown
          go_wp2
          go_ret
          exact ⟨A1, c1, rfl, own_le hown, Ints.of_own (c := c1) (n := bs.length) (by rw [up_len, HUL.out]; exact hown), hbel⟩

end Go.Proofs.Ytcbimgdgodeppaa
