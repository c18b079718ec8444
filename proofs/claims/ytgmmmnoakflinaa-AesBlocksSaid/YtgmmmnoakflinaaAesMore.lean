/-
  More laws of layer 5 as walks, from what is asked of the layer's calls.
-/
import Derived.Test.YtgmmmnoakflinaaAesSpec
import Derived.Test.YtgmmmnoakflinaaTextEq
namespace Go.Proofs.Ytgmmmnoakflinaa
open Go.RowKit

set_option maxHeartbeats 1600000 in
/-- AesApart. -/
theorem aesApart_go {R : World → Addr → List Nat → Prop} (A0 A1 A2 : Option Addr) (c0 c1 c2 : Nat) (ka kb' b : List Nat) (w : World) (HS : AesSpec w R) (h0 : Ints w w.heap.size .u8 A0 (up ka)) (h1 : Ints w w.heap.size .u8 A1 (up kb')) (h2 : Ints w w.heap.size .u8 A2 (up b))
    (hka : ∀ x ∈ ka, x < 256) (hkb : ∀ x ∈ kb', x < 256) (hb : ∀ x ∈ b, x < 256)
    (hc0 : ka.length ≤ c0) (hc1 : kb'.length ≤ c1) (hc2 : b.length ≤ c2) (hm0 : ka.length ≤ 140737488355328) (hm1 : kb'.length ≤ 140737488355328) (hm2 : b.length ≤ 140737488355328) :
    Calls Try.prog 6 #[.slice A0 ka.length c0, .slice A1 kb'.length c1, .slice A2 b.length c2] w fun e w' => e = .returned (.bool true) ∧ Below w.heap.size w w' := by
  have HA := Lib.hid (aesAwake HS)
  have HN2 : Hid (∀ W, Below w.heap.size w W → Calls Try.prog 8 #[.slice A1 kb'.length c1] W fun e w' => ∃ p g, e = .returned (.tuple #[.pointer p, .int .i64 g]) ∧ Below W.heap.size W w') := fun W hw => by
    by_cases hl : kb'.length = 16
    · rw [hl]; exact (HS.new A1 c1 kb' W hw ((h1.below hw).more hw.size) hkb hl (by omega)).mono fun e w' ⟨a, e1, _, e3⟩ => ⟨some a, 0, e1, e3⟩
    · exact (HS.newNo A1 _ c1 W hw hl hm1).mono fun e w' ⟨e1, e3⟩ => ⟨none, 1, e1, e3⟩
  by_cases hl : ka.length = 16
  · have HN := Lib.hid (HS.new A0 c0 ka w (Below.refl _ _) h0 hka hl (by omega))
    rw [hl]
    by_cases hlb : b.length = 16
    · have H1 := Lib.hid (fun (W : World) (a : Addr) (hw : Below w.heap.size w W) (hr : R W a ka) => HS.block a ka A2 c2 b W hw hr hka ((h2.below hw).more hw.size) hb hlb (by omega))
      have HKP := Lib.hid HS.keep
      rw [hlb]
      by_cases hlk : kb'.length = 16
      · have HN3 := Lib.hid (fun (W : World) (hw : Below w.heap.size w W) => HS.new A1 c1 kb' W hw ((h1.below hw).more hw.size) hkb hlk (by omega))
        have H2 := Lib.hid (fun (W : World) (a : Addr) (hw : Below w.heap.size w W) (hr : R W a kb') => HS.block a kb' A2 c2 b W hw hr hkb ((h2.below hw).more hw.size) hb hlb (by omega))
        have oke : (encN ka b).length = 16 := (encN_ok hka ⟨hlb, hb⟩).len
        have HTX : Hid (∀ (W : World) (A : Option Addr) (c : Nat), Ints W W.heap.size .u8 A (up (encN ka b)) → (convert 22 9 (.slice A 16 c)).run Try.prog W = .ok (.string (strOfNums (up (encN ka b)))) W) := fun W A c h =>
          h.textAs Try.underlying22 Try.underlying5 Try.underlying9 (by rw [up_len, oke]) rfl c
        obtain ⟨tx, htx⟩ : ∃ t, t = strOfNums (up (encN ka b)) := ⟨_, rfl⟩
        rw [← htx] at HTX
        rw [hlk]
        clear htx oke HN2 HS h0 h1 h2 hka hkb hb hl hlb hlk hc0 hc1 hc2 hm0 hm1 hm2
        go_enter Try.func6, Try.ntmps6
        go_wp2_with (first
          | (go_at_call 10; have k4 := hi2; have q4 := hr4; with_reducible (refine Calls.mono (H1.out _ _ hbx hr5) ?_); rintro e w6 ⟨A6, c6, rfl, hc6, hi6, hb6⟩; have hbx := chain hbx hb6; have k6 := HTX.out _ _ c6 hi6; have k2 := HTX.out _ _ c2' ((hi2.below (chain hb3 (chain hb4 (chain hb5 hb6)))).more (chain hb3 (chain hb4 (chain hb5 hb6))).size))
          | (go_at_call 10; have q4 := hr4; with_reducible (refine Calls.mono (H2.out _ _ hbx hr4') ?_); rintro e w5 ⟨A5, c5, rfl, hc5, hi5, hb5⟩; have hbx := chain hbx hb5; have hr5 := HKP.out _ _ _ _ hr4 hb5)
          | (go_at_call 9; with_reducible (refine Calls.mono (HA.out _ hbx) ?_); rintro e w4 ⟨rfl, hb4⟩; have hbx := chain hbx hb4; have hr4 := HKP.out _ _ _ _ hr3 hb4; have hr4' := HKP.out _ _ _ _ hr3' hb4)
          | (go_at_call 8; have q2 := hr2; with_reducible (refine Calls.mono (HN3.out _ hbx) ?_); rintro e w3 ⟨a3, rfl, hr3', hb3⟩; have hbx := chain hbx hb3; have hr3 := HKP.out _ _ _ _ hr2 hb3)
          | (go_at_call 10; with_reducible (refine Calls.mono (H1.out _ _ hbx hr1) ?_); rintro e w2 ⟨A2', c2', rfl, hc2', hi2, hb2⟩; have hbx := chain hbx hb2; have hr2 := HKP.out _ _ _ _ hr1 hb2)
          | (go_at_call 8; with_reducible (refine Calls.mono HN.out ?_); rintro e w1 ⟨a, rfl, hr1, hbx⟩))
        go_ret
        exact ⟨rfl, hbx⟩
      · have HN3 := Lib.hid (fun (W : World) (hw : Below w.heap.size w W) => HS.newNo A1 kb'.length c1 W hw hlk hm1)
        clear HN2 HS h0 h1 h2 hka hkb hb hl hlb hlk hc0 hc1 hc2 hm0 hm1 hm2
        go_enter Try.func6, Try.ntmps6
        go_wp2_with (first
          | (go_at_call 9; have q3 := hb3; with_reducible (refine Calls.mono (HA.out _ hbx) ?_); rintro e w4 ⟨rfl, hb4⟩; have hbx := chain hbx hb4)
          | (go_at_call 8; have q2 := hr2; with_reducible (refine Calls.mono (HN3.out _ hbx) ?_); rintro e w3 ⟨rfl, hb3⟩; have hbx := chain hbx hb3)
          | (go_at_call 10; with_reducible (refine Calls.mono (H1.out _ _ hbx hr1) ?_); rintro e w2 ⟨A2', c2', rfl, hc2', hi2, hb2⟩; have hbx := chain hbx hb2; have hr2 := HKP.out _ _ _ _ hr1 hb2)
          | (go_at_call 8; with_reducible (refine Calls.mono HN.out ?_); rintro e w1 ⟨a, rfl, hr1, hbx⟩))
        go_ret
        exact ⟨rfl, hbx⟩
    · have H1 := Lib.hid (fun (W : World) (a : Addr) (hw : Below w.heap.size w W) (hr : R W a ka) => HS.blockNo a ka A2 b.length c2 W hw hr hlb hm2)
      clear HS h0 h1 h2 hka hkb hb hl hlb hc0 hc1 hc2 hm0 hm1 hm2
      go_enter Try.func6, Try.ntmps6
      go_wp2_with (first
        | (go_at_call 9; have q3 := hb3; with_reducible (refine Calls.mono (HA.out _ hbx) ?_); rintro e w4 ⟨rfl, hb4⟩; have hbx := chain hbx hb4)
        | (go_at_call 8; have q2 := hb2; with_reducible (refine Calls.mono (HN2.out _ hbx) ?_); rintro e w3 ⟨p3, g3, rfl, hb3⟩; have hbx := chain hbx hb3)
        | (go_at_call 10; with_reducible (refine Calls.mono (H1.out _ _ hbx hr1) ?_); rintro e w2 ⟨A2', c2', rfl, hb2⟩; have hbx := chain hbx hb2)
        | (go_at_call 8; with_reducible (refine Calls.mono HN.out ?_); rintro e w1 ⟨a, rfl, hr1, hbx⟩))
      go_ret
      exact ⟨rfl, hbx⟩
  · have HN := Lib.hid (HS.newNo A0 ka.length c0 w (Below.refl _ _) hl hm0)
    have H1 := Lib.hid (fun (W : World) (hw : Below w.heap.size w W) => HS.nilBlock A2 b.length c2 W hw)
    clear HS h0 h1 h2 hka hkb hb hl hc0 hc1 hc2 hm0 hm1 hm2
    go_enter Try.func6, Try.ntmps6
    go_wp2_with (first
      | (go_at_call 9; have q3 := hb3; with_reducible (refine Calls.mono (HA.out _ hbx) ?_); rintro e w4 ⟨rfl, hb4⟩; have hbx := chain hbx hb4)
      | (go_at_call 8; have q2 := hb2; with_reducible (refine Calls.mono (HN2.out _ hbx) ?_); rintro e w3 ⟨p3, g3, rfl, hb3⟩; have hbx := chain hbx hb3)
      | (go_at_call 10; with_reducible (refine Calls.mono (H1.out _ hbx) ?_); rintro e w2 ⟨A2', c2', rfl, hb2⟩; have hbx := chain hbx hb2)
      | (go_at_call 8; with_reducible (refine Calls.mono HN.out ?_); rintro e w1 ⟨rfl, hbx⟩))
    go_ret
    exact ⟨rfl, hbx⟩

set_option maxHeartbeats 1600000 in
/-- AesOnto. -/
theorem aesOnto_go {R : World → Addr → List Nat → Prop} (A0 A1 A2 : Option Addr) (c0 c1 c2 : Nat) (key a b : List Nat) (w : World) (HS : AesSpec w R) (h0 : Ints w w.heap.size .u8 A0 (up key)) (h1 : Ints w w.heap.size .u8 A1 (up a)) (h2 : Ints w w.heap.size .u8 A2 (up b))
    (hk : ∀ x ∈ key, x < 256) (ha : ∀ x ∈ a, x < 256) (hb : ∀ x ∈ b, x < 256)
    (hc0 : key.length ≤ c0) (hc1 : a.length ≤ c1) (hc2 : b.length ≤ c2) (hm0 : key.length ≤ 140737488355328) :
    Calls Try.prog 7 #[.slice A0 key.length c0, .slice A1 a.length c1, .slice A2 b.length c2] w fun e w' => e = .returned (.bool true) ∧ Below w.heap.size w w' := by
  have HA := Lib.hid (aesAwake HS)
  by_cases hl : key.length = 16
  · have HN := Lib.hid (HS.new A0 c0 key w (Below.refl _ _) h0 hk hl (by omega))
    rw [hl]
    by_cases hla : a.length = 16
    · by_cases hlb : b.length = 16
      · have oka : Ok16 a := ⟨hla, ha⟩
        have okb : Ok16 b := ⟨hlb, hb⟩
        have ea := encN_ok hk oka
        have eb := encN_ok hk okb
        have da := decN_ok hk oka
        have db := decN_ok hk okb
        have H1 := Lib.hid (fun (W : World) (p : Addr) (hw : Below w.heap.size w W) (hr : R W p key) => HS.block p key A1 c1 a W hw hr hk ((h1.below hw).more hw.size) ha hla (by omega))
        have H2 := Lib.hid (fun (W : World) (p : Addr) (hw : Below w.heap.size w W) (hr : R W p key) => HS.block p key A2 c2 b W hw hr hk ((h2.below hw).more hw.size) hb hlb (by omega))
        have H3 := Lib.hid (fun (W : World) (p : Addr) (hw : Below w.heap.size w W) (hr : R W p key) => HS.back p key A1 c1 a W hw hr hk ((h1.below hw).more hw.size) ha hla (by omega))
        have H4 := Lib.hid (fun (W : World) (p : Addr) (hw : Below w.heap.size w W) (hr : R W p key) => HS.back p key A2 c2 b W hw hr hk ((h2.below hw).more hw.size) hb hlb (by omega))
        have HKP := Lib.hid HS.keep
        have HT : ∀ (l : List Nat), l.length = 16 → Hid (∀ (W : World) (A : Option Addr) (c : Nat), Ints W W.heap.size .u8 A (up l) → (convert 22 9 (.slice A 16 c)).run Try.prog W = .ok (.string (strOfNums (up l))) W) := fun l hl W A c h =>
          h.textAs Try.underlying22 Try.underlying5 Try.underlying9 (by rw [up_len, hl]) rfl c
        have T1 := HT a hla
        have T2 := HT b hlb
        have T3 := HT _ ea.len
        have T4 := HT _ eb.len
        have T5 := HT _ da.len
        have T6 := HT _ db.len
        have I1 := Lib.hid h1
        have I2 := Lib.hid h2
        have q1 : ((strOfNums (up (encN key a))).toList == (strOfNums (up (encN key b))).toList) = ((strOfNums (up a)).toList == (strOfNums (up b)).toList) := by
          by_cases h : a = b
          · rw [h, beq_self_eq_true, beq_self_eq_true]
          · rw [beq_eq_false_iff_ne.2 (fun hh => h (strOfNums_up ha hb hh)), beq_eq_false_iff_ne.2 (fun hh => h ((enc_inj hk oka okb).1 (strOfNums_up ea.lt eb.lt hh)))]
        have q2 : ((strOfNums (up (decN key a))).toList == (strOfNums (up (decN key b))).toList) = ((strOfNums (up a)).toList == (strOfNums (up b)).toList) := by
          by_cases h : a = b
          · rw [h, beq_self_eq_true, beq_self_eq_true]
          · rw [beq_eq_false_iff_ne.2 (fun hh => h (strOfNums_up ha hb hh)), beq_eq_false_iff_ne.2 (fun hh => h ((dec_inj hk oka okb).1 (strOfNums_up da.lt db.lt hh)))]
        rw [hla, hlb]
        obtain ⟨t1, ht1⟩ : ∃ t, t = strOfNums (up a) := ⟨_, rfl⟩
        obtain ⟨t2, ht2⟩ : ∃ t, t = strOfNums (up b) := ⟨_, rfl⟩
        obtain ⟨t3, ht3⟩ : ∃ t, t = strOfNums (up (encN key a)) := ⟨_, rfl⟩
        obtain ⟨t4, ht4⟩ : ∃ t, t = strOfNums (up (encN key b)) := ⟨_, rfl⟩
        obtain ⟨t5, ht5⟩ : ∃ t, t = strOfNums (up (decN key a)) := ⟨_, rfl⟩
        obtain ⟨t6, ht6⟩ : ∃ t, t = strOfNums (up (decN key b)) := ⟨_, rfl⟩
        rw [← ht1] at T1 q1 q2
        rw [← ht2] at T2 q1 q2
        rw [← ht3] at T3 q1
        rw [← ht4] at T4 q1
        rw [← ht5] at T5 q2
        rw [← ht6] at T6 q2
        clear ht1 ht2 ht3 ht4 ht5 ht6 HT ea eb da db oka okb HS h0 h1 h2 hk ha hb hl hla hlb hc0 hc1 hc2 hm0
        go_enter Try.func7, Try.ntmps7
        go_wp2_with (first
          | (go_at_call 13; have z5 := hi5; with_reducible (refine Calls.mono (H4.out _ _ hbx hr5) ?_); rintro e w6 ⟨A6, c6, rfl, hc6, hi6, hb6⟩; have hbx := chain hbx hb6; have k6 := T6.out _ _ c6 hi6; have k5 := T5.out _ _ c5 ((hi5.below hb6).more hb6.size); have k4 := T4.out _ _ c4 ((hi4.below (chain hb5 hb6)).more (chain hb5 hb6).size); have k3 := T3.out _ _ c3 ((hi3.below (chain hb4 (chain hb5 hb6))).more (chain hb4 (chain hb5 hb6)).size); have k1 := T1.out w6 A1 c1 ((I1.out.below hbx).more hbx.size); have k2 := T2.out w6 A2 c2 ((I2.out.below hbx).more hbx.size))
          | (go_at_call 13; with_reducible (refine Calls.mono (H3.out _ _ hbx hr4) ?_); rintro e w5 ⟨A5, c5, rfl, hc5, hi5, hb5⟩; have hbx := chain hbx hb5; have hr5 := HKP.out _ _ _ _ hr4 hb5)
          | (go_at_call 10; have z3 := hi3; with_reducible (refine Calls.mono (H2.out _ _ hbx hr3) ?_); rintro e w4 ⟨A4, c4, rfl, hc4, hi4, hb4⟩; have hbx := chain hbx hb4; have hr4 := HKP.out _ _ _ _ hr3 hb4)
          | (go_at_call 10; with_reducible (refine Calls.mono (H1.out _ _ hbx hr2) ?_); rintro e w3 ⟨A3, c3, rfl, hc3, hi3, hb3⟩; have hbx := chain hbx hb3; have hr3 := HKP.out _ _ _ _ hr2 hb3)
          | (go_at_call 9; with_reducible (refine Calls.mono (HA.out _ hbx) ?_); rintro e w2 ⟨rfl, hb2⟩; have hbx := chain hbx hb2; have hr2 := HKP.out _ _ _ _ hr1 hb2)
          | (go_at_call 8; with_reducible (refine Calls.mono HN.out ?_); rintro e w1 ⟨p, rfl, hr1, hbx⟩))
        go_ret
        exact ⟨rfl, hbx⟩
      · have hnb : ((b.length : Int) != 16) = true := by simp; omega
        have hnb2 : ¬ (b.length : Int) = 16 := by omega
        rw [hla]
        clear HS h0 h1 h2 hk ha hb hl hla hlb hc0 hc1 hc2 hm0
        go_enter Try.func7, Try.ntmps7
        go_wp2_with (first
          | (go_at_call 9; with_reducible (refine Calls.mono (HA.out _ hbx) ?_); rintro e w2 ⟨rfl, hb2⟩; have hbx := chain hbx hb2)
          | (go_at_call 8; with_reducible (refine Calls.mono HN.out ?_); rintro e w1 ⟨p, rfl, hr1, hbx⟩))
        go_ret
        exact ⟨rfl, hbx⟩
    · have hna : ((a.length : Int) != 16) = true := by simp; omega
      have hna2 : ¬ (a.length : Int) = 16 := by omega
      clear HS h0 h1 h2 hk ha hb hl hla hc0 hc1 hc2 hm0
      go_enter Try.func7, Try.ntmps7
      go_wp2_with (first
        | (go_at_call 9; with_reducible (refine Calls.mono (HA.out _ hbx) ?_); rintro e w2 ⟨rfl, hb2⟩; have hbx := chain hbx hb2)
        | (go_at_call 8; with_reducible (refine Calls.mono HN.out ?_); rintro e w1 ⟨p, rfl, hr1, hbx⟩))
      go_ret
      exact ⟨rfl, hbx⟩
  · have HN := Lib.hid (HS.newNo A0 key.length c0 w (Below.refl _ _) hl hm0)
    clear HS h0 h1 h2 hk ha hb hl hc0 hc1 hc2 hm0
    go_enter Try.func7, Try.ntmps7
    go_wp2_with (first
      | (go_at_call 9; with_reducible (refine Calls.mono (HA.out _ hbx) ?_); rintro e w2 ⟨rfl, hb2⟩; have hbx := chain hbx hb2)
      | (go_at_call 8; with_reducible (refine Calls.mono HN.out ?_); rintro e w1 ⟨rfl, hbx⟩))
    go_ret
    exact ⟨rfl, hbx⟩

end Go.Proofs.Ytgmmmnoakflinaa
