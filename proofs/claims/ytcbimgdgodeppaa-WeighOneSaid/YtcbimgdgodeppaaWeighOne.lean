/-
  WeighOne, from what is asked of the layer's calls.
-/
import Derived.Test.YtcbimgdgodeppaaWeighSpec
import Derived.Test.YtcbimgdgodeppaaWeighOneN
namespace Go.Proofs.Ytcbimgdgodeppaa
open Go.RowKit

/-- 'IsInf' above. -/
theorem isInf_any (b : Nat) (w : World) (hb : b < 18446744073709551616) : Calls Try.prog 21 #[.float .f64 b, .int .i64 1] w fun e w' => e = .returned (.bool (infN b)) ∧ w = w' := by
  have ho := order_max hb
  have h : (FloatKind.f64.format.order b 9218868437227405311 == some Ordering.gt) = infN b := by
    rw [Bool.eq_iff_iff, beq_iff_eq]
    exact ho
  have HO := Lib.hid h
  clear ho h
  go_enter Try.func21, Try.ntmps21
  go_wp2
  go_ret
  exact ⟨congrArg (fun x => Ending.returned (.bool x)) HO.out, rfl⟩

set_option maxHeartbeats 1600000 in
set_option maxRecDepth 20000 in
/-- WeighOne, refused. -/
theorem weighOne_arg (total : Int) (f : Nat) (A : Option Addr) (n c : Nat) (w : World) (HS : WeighSpec w) (ht : -9223372036854775808 ≤ total ∧ total ≤ 9223372036854775807) (hf : f < 18446744073709551616) (h : total < 0 ∨ total > 1048576) :
    Calls Try.prog 9 #[.int .i64 total, .int .u64 f, .slice A n c] w fun e w' => e = .returned (.bool true) ∧ Below w.heap.size w w' := by
  have HA := Lib.hid (weighAwake HS)
  have hcf := callFrom f
  have H1 : ∀ t : Nat, Hid (Calls Try.prog 15 #[.int .i64 total, .slice (some ⟨w.heap.size, 0, none⟩) 1 1] (w.alloc (.cells #[.float .f64 f] 35)) fun e w' => ∃ A c, e = .returned (.tuple #[.slice A 0 c, .int .i64 1]) ∧ Below w.heap.size w w') := fun t => by
    have q := HS.share total (some ⟨w.heap.size, 0, none⟩) 1 [f] (w.alloc (.cells #[.float .f64 f] 35)) ((Below.refl _ _).alloc (Nat.le_refl _) _) ht (flts_new w [f] _) (by simpa using hf) (Nat.le_refl _) (by simp)
    rw [share_arg_one h] at q
    exact q.mono fun e w' ⟨A', c', q1, _, _, q4⟩ => ⟨A', c', q1, ((Below.refl _ _).alloc (Nat.le_refl _) _).trans (q4.mono (by simp))⟩
  clear HS ht hf
  by_cases h0 : total < 0
  · clear h
    go_enter Try.func9, Try.ntmps9
    go_wp2_with (first
      | (go_at_call 15; with_reducible (refine Calls.mono (H1 0).out ?_); rintro e w1 ⟨A1, c1, rfl, hb1⟩)
      | (go_at_call 11; with_reducible (refine Calls.mono (HA.out _ hb1) ?_); rintro e w2 ⟨rfl, hb2⟩; replace hb1 := chain hb1 hb2))
    go_ret
    exact ⟨rfl, hb1⟩
  · have h1 : 0 ≤ total := by omega
    have h2 : 1048576 < total := by omega
    clear h h0
    go_enter Try.func9, Try.ntmps9
    go_wp2_with (first
      | (go_at_call 15; with_reducible (refine Calls.mono (H1 0).out ?_); rintro e w1 ⟨A1, c1, rfl, hb1⟩)
      | (go_at_call 11; with_reducible (refine Calls.mono (HA.out _ hb1) ?_); rintro e w2 ⟨rfl, hb2⟩; replace hb1 := chain hb1 hb2))
    go_ret
    exact ⟨rfl, hb1⟩

set_option maxHeartbeats 1600000 in
set_option maxRecDepth 20000 in
/-- WeighOne, of a weight that weighs nothing. -/
theorem weighOne_none (total : Int) (f : Nat) (A : Option Addr) (n c : Nat) (w : World) (HS : WeighSpec w) (hf : f < 18446744073709551616) (h0 : 0 ≤ total) (h1 : total ≤ 1048576) (hp : posN f = false) :
    Calls Try.prog 9 #[.int .i64 total, .int .u64 f, .slice A n c] w fun e w' => e = .returned (.bool true) ∧ Below w.heap.size w w' := by
  have HA := Lib.hid (weighAwake HS)
  have hcf := callFrom f
  have H1 : Hid (Calls Try.prog 15 #[.int .i64 total, .slice (some ⟨w.heap.size, 0, none⟩) 1 1] (w.alloc (.cells #[.float .f64 f] 35)) fun e w' => ∃ A c, e = .returned (.tuple #[.slice A 0 c, .int .i64 4]) ∧ Below w.heap.size w w') := by
    have q := HS.share total (some ⟨w.heap.size, 0, none⟩) 1 [f] (w.alloc (.cells #[.float .f64 f] 35)) ((Below.refl _ _).alloc (Nat.le_refl _) _) ⟨by omega, by omega⟩ (flts_new w [f] _) (by simpa using hf) (Nat.le_refl _) (by simp)
    rw [share_none_one (by omega) (by omega) hp] at q
    exact q.mono fun e w' ⟨A', c', q1, _, _, q4⟩ => ⟨A', c', q1, ((Below.refl _ _).alloc (Nat.le_refl _) _).trans (q4.mono (by simp))⟩
  have ho := order_pos hf
  have ho2 : (FloatKind.f64.format.order f 0 == some Ordering.gt) = false := by rw [← hp]; exact ho
  clear HS hf hp ho
  go_enter Try.func9, Try.ntmps9
  go_wp2_with (first
    | (go_at_call 15; with_reducible (refine Calls.mono H1.out ?_); rintro e w1 ⟨A1, c1, rfl, hb1⟩)
    | (go_at_call 11; with_reducible (refine Calls.mono (HA.out _ hb1) ?_); rintro e w2 ⟨rfl, hb2⟩; replace hb1 := chain hb1 hb2))
  go_ret
  exact ⟨rfl, hb1⟩

set_option maxHeartbeats 3200000 in
set_option maxRecDepth 20000 in
/-- WeighOne, of a weight. -/
theorem weighOne_some (total : Int) (f : Nat) (A : Option Addr) (c : Nat) (more : List Nat) (w : World) (HS : WeighSpec w) (hf : f < 18446744073709551616) (h0 : 0 ≤ total) (h1 : total ≤ 1048576) (hp : posN f = true) (h : Ints w w.heap.size .u64 A (up more)) (hlt : ∀ b ∈ more, b < 18446744073709551616) :
    Calls Try.prog 9 #[.int .i64 total, .int .u64 f, .slice A more.length c] w fun e w' => e = .returned (.bool true) ∧ Below w.heap.size w w' := by
  obtain ⟨i0, hif, hz0, hz1, hz2⟩ := info_parts Try.infoF64w
  have HA := Lib.hid (weighAwake HS)
  have hcf := callFrom f
  have H1 : Hid (Calls Try.prog 15 #[.int .i64 total, .slice (some ⟨w.heap.size, 0, none⟩) 1 1] (w.alloc (.cells #[.float .f64 f] 35)) fun e w' => ∃ b o c, e = .returned (.tuple #[.slice (some ⟨b, o, none⟩) 1 c, .int .i64 0]) ∧ b < w'.heap.size ∧ (1 : Int) ≤ c ∧ w'.cell? ⟨b, o, none⟩ = some (.int .i64 total) ∧ Below w.heap.size w w') := by
    have q := HS.share total (some ⟨w.heap.size, 0, none⟩) 1 [f] (w.alloc (.cells #[.float .f64 f] 35)) ((Below.refl _ _).alloc (Nat.le_refl _) _) ⟨by omega, by omega⟩ (flts_new w [f] _) (by simpa using hf) (Nat.le_refl _) (by simp)
    rw [share_single (by omega) (by omega) hp] at q
    refine q.mono fun e w' ⟨A', c', q1, q2, q3, q4⟩ => ?_
    obtain ⟨b, o, rfl, hbl, hc⟩ := q3.at_ (by simp)
    have q2' : 1 ≤ c' := q2
    exact ⟨b, o, c', q1, hbl, by omega, hc 0 (by simp), ((Below.refl _ _).alloc (Nat.le_refl _) _).trans (q4.mono (by simp))⟩
  have ho := order_pos hf
  have ho2 : FloatKind.f64.format.order f 0 = some .gt := by
    rw [hp] at ho
    exact eq_of_beq ho
  have HF := Lib.hid (fun (W : World) (hb : Below w.heap.size w W) => floats_own A c more W ((h.below hb).more hb.size))
  have HI := Lib.hid (fun (b : Nat) (W : World) (hb : b < 18446744073709551616) => isInf_any b W hb)
  obtain ⟨ms, hms⟩ : ∃ ms, ms = more.take 200 := ⟨_, rfl⟩
  have hml : ms.length ≤ 200 := by rw [hms]; exact take_len more
  have hmlt : ∀ b ∈ ms, b < 18446744073709551616 := by rw [hms]; exact take_lt hlt 200
  rw [← hms] at HF
  have hlall : ∀ b ∈ ms ++ [f], b < 18446744073709551616 := fun b hb => by
    rcases List.mem_append.1 hb with q | q
    · exact hmlt b q
    · have : b = f := by simpa using q
      omega
  have hul : (up (unitsN (ms ++ [f]))).length = ms.length + 1 := by rw [up_len, unitsN_len, List.length_append]; rfl
  have HU := Lib.hid (fun (W : World) (A' : Option Addr) (c' : Nat) (hw : Below w.heap.size w W) (hf' : Flts W W.heap.size A' (ms ++ [f])) (hc : (ms ++ [f]).length ≤ c') => HS.units A' c' (ms ++ [f]) W hw hf' hlall hc (by rw [List.length_append]; simp; omega))
  rw [show (ms ++ [f]).length = ms.length + 1 by simp] at HU
  have hM : (anyInf (ms ++ [f]) = true → maxN (unitsN (ms ++ [f])) = 1) ∧ (anyInf (ms ++ [f]) = false → 2147483648 ≤ maxN (unitsN (ms ++ [f])) ∧ maxN (unitsN (ms ++ [f])) < 4294967296) := ⟨most_inf, fun q => most_fin q (by simp) hp⟩
  have hia : anyInf (ms ++ [f]) = (anyInf ms || infN f) := anyInf_snoc f ms
  rw [hia] at hM
  have HM := Lib.hid hM
  have HULT := Lib.hid (units_lt (ms ++ [f]))
  obtain ⟨us, hus⟩ : ∃ us, us = unitsN (ms ++ [f]) := ⟨_, rfl⟩
  have husl : us.length = ms.length + 1 := by rw [hus, unitsN_len]; simp
  rw [← hus] at HU HM HULT
  have HMS := Lib.hid (And.intro hmlt hf)
  have HUL := Lib.hid husl
  clear HS hf hp ho h hlt hms hmlt hlall hul hM hia hus husl
  go_enter Try.func9, Try.ntmps9
  go_wp2_with (first
    | (go_at_call 15; with_reducible (refine Calls.mono H1.out ?_); rintro e w1 ⟨b1, o1, c1, rfl, hbl, hc1, hs1, hb1⟩)
    | (go_at_call 10; with_reducible (refine Calls.mono (HF.out _ hb1) ?_); rintro e w2 ⟨A2, c2, rfl, hc2, hown, hb2⟩)
    | (at_builtin; refine wpList_append_own_at _ rfl _ _ 23 rfl w1.heap.size 35 i0 (.float .f64 0) 1 8 Try.underlying23 hif hz0 hz1 hz2 rfl (by decide) _ _ _ rfl (hown.alloc _) ⟨w2.heap.size, 0, none⟩ 1 1 [.float .f64 f] rfl rfl (cell_one_new _ _ _) ?d1 ?d2 ?d3 ?d4 ?_))
  case d1 => first | rfl | (intro u hu; simp at hu; subst hu; rfl)
  case d2 => unfold maxLen; omega
  case d3 => omega
  case d4 => have := hb2.size; simp; omega
  intro v3 w3 hown3 hg3 _ _
  have hb13 : Below w1.heap.size w1 w3 := (hb2.alloc hb2.size _).grown hg3 (by have := hb2.size; simp; omega) fun q hq => (hown.lt q hq).1
  have hb3 : Below w.heap.size w w3 := chain hb1 hb13
  have hs3 := (hb13.cell (p := ⟨b1, o1, none⟩) hbl).trans hs1
  have hbl3 := Nat.lt_of_lt_of_le hbl hb13.size
  have hown3' : w3.ownsRow w1.heap.size 35 1 v3 (ms.length + 1) ((ms ++ [f]).map (Value.float .f64)) := by
    rw [List.map_append]; exact hown3
  obtain ⟨A3, c3, rfl⟩ := own_slice hown3'
  have hf3 := flts_of_own hown3'
  have hc3 := own_le hown3'
  clear hown hown3 hown3' hg3 hb2 hs1 hbl hb1 hb13
  go_wp2_with (first
    | (go_at_call 13; with_reducible (refine Calls.mono (HU.out _ _ _ hb3 hf3 hc3) ?_); rintro e w4 ⟨A4, c4, rfl, hc4, hi4, hb4⟩; have hs4 := (hb4.cell (p := ⟨b1, o1, none⟩) hbl3).trans hs3; have hbx := chain hb3 hb4)
    | (go_at_call 21; with_reducible (refine Calls.mono (HI.out f _ HMS.out.2) ?_); rintro e w5 ⟨rfl, rfl⟩))
  have hbl4 := Nat.lt_of_lt_of_le hbl3 hb4.size
  have HB4 := Lib.hid (And.intro hs4 (And.intro hbl4 hbx))
  clear hf3 hs3 hb3 hb4 hbl3 hc3 hs4 hbl4 hbx
  go_loopw [11, 13] (fun m i wr => ∃ k : Nat, k ≤ ms.length + 1 ∧ i = .int .i64 k ∧ m = .int .i64 ((maxN (us.take k) : Nat) : Int) ∧ wr = w4) (fun _ i _ => ms.length + 1 - (intOf i).toNat)
  case atStart => exact ⟨0, Nat.zero_le _, rfl, rfl, rfl⟩
  case round =>
    obtain ⟨k, hk, rfl, rfl, rfl⟩ := hrel
    by_cases hlt : k < ms.length + 1
    · have k1 : (k : Int) < (ms.length : Int) + 1 := by omega
      have k2 : (k : Int) < ((ms.length + 1 : Nat) : Int) := by omega
      have k0 : (0 : Int) ≤ (k : Int) := by omega
      have hlu : k < us.length := by rw [HUL.out]; exact hlt
      obtain ⟨b4, o4, rfl, _, hc⟩ := hi4 k (by rw [up_len]; exact hlu)
      rw [up_getD] at hc
      have hnx : maxN (us.take (k + 1)) = max (maxN (us.take k)) (us.getD k 0) := by rw [take_snocN us hlu, maxN_snoc]
      obtain ⟨x, hx⟩ : ∃ x, x = us.getD k 0 := ⟨_, rfl⟩
      obtain ⟨m, hm⟩ : ∃ m, m = maxN (us.take k) := ⟨_, rfl⟩
      rw [← hx] at hc hnx
      rw [← hm] at hnx ⊢
      have HNX := Lib.hid hnx
      clear hx hm hnx hlu
      by_cases hg : m < x
      · have hgi : (m : Int) < (x : Int) := by omega
        have hmx : Hid (maxN (us.take (k + 1)) = x) := by unfold Hid; rw [HNX.out]; omega
        clear HNX hg
        go_wp2
        go_roundw
        case rel => exact ⟨k + 1, by omega, by go_num, by rw [hmx.out], trivial⟩
        case measure => simp [intOf]; omega
      · have hgi : ¬ (m : Int) < (x : Int) := by omega
        have hmx : Hid (maxN (us.take (k + 1)) = m) := by unfold Hid; rw [HNX.out]; omega
        clear HNX hg
        go_wp2
        go_roundw
        case rel => exact ⟨k + 1, by omega, by go_num, by rw [hmx.out], trivial⟩
        case measure => simp [intOf]; omega
    · have hkk : k = ms.length + 1 := by omega
      subst hkk
      have hM := HM.out
      rw [show us.take (ms.length + 1) = us from List.take_of_length_le (by rw [HUL.out]; exact Nat.le_refl _)]
      obtain ⟨M, hMe⟩ : ∃ M, M = maxN us := ⟨_, rfl⟩
      rw [← hMe] at hM ⊢
      have HM2 := Lib.hid hM
      obtain ⟨hs4, hbl4, hbx⟩ := HB4.out
      clear hM hMe hi4 hc4 hk hlt
      go_wp2_with (go_at_call 10; with_reducible (refine Calls.mono (HF.out _ hbx) ?_); rintro e w5 ⟨A5, c5, rfl, hc5, hown5, hb5⟩)
      have hs5 := (hb5.cell (p := ⟨b1, o1, none⟩) hbl4).trans hs4
      have hbl5 := Nat.lt_of_lt_of_le hbl4 hb5.size
      have hbx5 := chain hbx hb5
      have hf5 := flts_of_own hown5
      have HB5 := Lib.hid (And.intro hs5 (And.intro hbl5 hbx5))
      clear hs4 hbl4 hbx hb5 hown5 hs5 hbl5 hbx5 HB4
      go_loopw [12, 15] (fun q i wz => ∃ k : Nat, k ≤ ms.length ∧ i = .int .i64 k ∧ q = .bool (infN f || anyInf (ms.take k)) ∧ wz = w5) (fun _ i _ => ms.length - (intOf i).toNat)
      case atStart => exact ⟨0, Nat.zero_le _, rfl, by simp [anyInf], rfl⟩
      case round =>
        obtain ⟨k, hk, rfl, rfl, rfl⟩ := hrel
        by_cases hlt : k < ms.length
        · have k1 : (k : Int) < (ms.length : Int) := by omega
          have k0 : (0 : Int) ≤ (k : Int) := by omega
          obtain ⟨b5, o5, rfl, _, hc⟩ := hf5 k hlt
          have hnx : anyInf (ms.take (k + 1)) = (anyInf (ms.take k) || infN (ms.getD k 0)) := by rw [take_snocN ms hlt, anyInf_snoc]
          have hxl : ms.getD k 0 < 18446744073709551616 := by
            rw [List.getD_eq_getElem?_getD, List.getElem?_eq_getElem hlt]; exact HMS.out.1 _ (List.getElem_mem hlt)
          obtain ⟨x, hx⟩ : ∃ x, x = ms.getD k 0 := ⟨_, rfl⟩
          rw [← hx] at hc hnx hxl
          have HX := Lib.hid hxl
          cases hF : (infN f || anyInf (ms.take k)) with
          | true =>
            have HNX : Hid ((infN f || anyInf (ms.take (k + 1))) = true) := by unfold Hid; rw [hnx, ← Bool.or_assoc, hF]; rfl
            clear hx hnx hF hxl
            go_wp2
            go_roundw
            case rel => exact ⟨k + 1, by omega, by go_num, by rw [HNX.out], trivial⟩
            case measure => simp [intOf]; omega
          | false =>
            have HNX : Hid ((infN f || anyInf (ms.take (k + 1))) = infN x) := by unfold Hid; rw [hnx, ← Bool.or_assoc, hF]; rfl
            clear hx hnx hF hxl
            go_wp2_with (go_at_call 21; with_reducible (refine Calls.mono (HI.out x _ HX.out) ?_); rintro e w6 ⟨rfl, rfl⟩)
            go_roundw
            case rel => exact ⟨k + 1, by omega, by go_num, by rw [HNX.out], trivial⟩
            case measure => simp [intOf]; omega
        · have hkk : k = ms.length := by omega
          subst hkk
          rw [List.take_length]
          obtain ⟨hs5, hbl5, hbx5⟩ := HB5.out
          have hM := HM2.out
          rw [Bool.or_comm] at hM
          clear hf5 HB5 HM2 hc5 hlt hk HF HU HI H1 HM HULT HMS HUL
          cases hF : (infN f || anyInf ms) with
          | true =>
            obtain rfl : M = 1 := hM.1 hF
            clear hM hF
            go_wp2_with (go_at_call 11; with_reducible (refine Calls.mono (HA.out _ hbx5) ?_); rintro e w7 ⟨rfl, hb7⟩; have hs7 := (hb7.cell (p := ⟨b1, o1, none⟩) hbl5).trans hs5; have hbx7 := chain hbx5 hb7)
            go_ret
            exact ⟨rfl, hbx7⟩
          | false =>
            obtain ⟨q1, q2⟩ := hM.2 hF
            have q3 : (2147483648 : Int) ≤ (M : Int) := by omega
            have q4 : (M : Int) < 4294967296 := by omega
            clear hM hF q1 q2
            go_wp2_with (go_at_call 11; with_reducible (refine Calls.mono (HA.out _ hbx5) ?_); rintro e w7 ⟨rfl, hb7⟩; have hs7 := (hb7.cell (p := ⟨b1, o1, none⟩) hbl5).trans hs5; have hbx7 := chain hbx5 hb7)
            go_ret
            exact ⟨rfl, hbx7⟩

/-- WeighOne. -/
theorem weighOne_go (total : Int) (f : Nat) (A : Option Addr) (c : Nat) (more : List Nat) (w : World) (HS : WeighSpec w) (ht : -9223372036854775808 ≤ total ∧ total ≤ 9223372036854775807) (hf : f < 18446744073709551616) (h : Ints w w.heap.size .u64 A (up more)) (hlt : ∀ b ∈ more, b < 18446744073709551616) :
    Calls Try.prog 9 #[.int .i64 total, .int .u64 f, .slice A more.length c] w fun e w' => e = .returned (.bool true) ∧ Below w.heap.size w w' := by
  by_cases h1 : total < 0 ∨ total > 1048576
  · exact weighOne_arg total f A _ c w HS ht hf h1
  · cases hp : posN f with
    | false => exact weighOne_none total f A _ c w HS hf (by omega) (by omega) hp
    | true => exact weighOne_some total f A c more w HS hf (by omega) (by omega) hp h hlt

end Go.Proofs.Ytcbimgdgodeppaa
