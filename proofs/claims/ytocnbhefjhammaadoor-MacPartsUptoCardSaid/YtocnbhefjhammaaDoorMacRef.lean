/-
  The document's own codes (stowageref04), their smaller functions: what they answer; nothing that was there is changed.
-/
import Derived.Test.YtocnbhefjhammaaDoorShaAsk
import Derived.Test.YtocnbhefjhammaaDoorMacNums
namespace Go.Proofs.YtocnbhefjhammaaDoor
open Go.RowKit

theorem u8_x (a b : Nat) (ha : a < 256) (hb : b < 256) : bits .xor .u8 (a : Int) (b : Int) = ((a ^^^ b : Nat) : Int) := u8_xor_nat a b ha hb

theorem with_any (A : Option Addr) (c x : Nat) (key : List Nat) (w : World) (h0 : Ints w w.heap.size .u8 A (up key)) (hb : ∀ b ∈ key, b < 256) (hx : x < 256) :
    Calls Tryd.prog 19 #[.slice A key.length c, .int .u8 (x : Int)] w fun e w' => ∃ v, e = .returned v ∧ w'.ownsRow w.heap.size 5 1 v 64 ((up (xorK key x)).map (Value.int .u8)) ∧ Below w.heap.size w w' := by
  obtain ⟨i0, hi, hz0, hz1, hz2⟩ := info_parts Tryd.infoU8'
  have HB := Lib.hid hb
  clear hb
  go_enter Tryd.func19, Tryd.ntmps19
  go_wp2
  go_loopw [5, 6] (fun v i wr => ∃ k : Nat, k ≤ 64 ∧ i = .int .i64 k ∧ (∃ A c, v = .slice A k c) ∧ wr.ownsRow w.heap.size 5 1 v k ((up (xorTo key x k)).map (Value.int .u8)) ∧ Below w.heap.size w wr) (fun _ i _ => 64 - (intOf i).toNat)
  case atStart => exact ⟨0, by omega, rfl, ⟨_, _, rfl⟩, World.ownsRow_made w #[] 0 (Nat.le_refl _) (Nat.zero_le _) rfl, (Below.refl _ _).alloc (Nat.le_refl _) _⟩
  case round =>
    obtain ⟨k, hk, rfl, ⟨A5, c5, rfl⟩, hown, hbel⟩ := hrel
    by_cases hlt : k < 64
    · have hkd : key.getD k 0 < 256 := getD_lt (by decide) HB.out k
      have hcell : k < key.length → ∃ b off, A = some ⟨b, off, none⟩ ∧ wr.cell? ⟨b, off + k, none⟩ = some (.int .u8 (key.getD k 0 : Nat)) := fun h => by
        obtain ⟨b, off, e, _, hc⟩ := (h0.below hbel) k (by rw [up_len]; exact h)
        rw [up_getD] at hc
        exact ⟨b, off, e, hc⟩
      have hno : key.length ≤ k → key.getD k 0 = 0 := fun h => by rw [List.getD_eq_getElem?_getD, List.getElem?_eq_none h]; rfl
      have HN := Lib.hid (xorTo_succ key x k)
      obtain ⟨d, hd⟩ : ∃ d, d = key.getD k 0 := ⟨_, rfl⟩
      rw [← hd] at hkd hcell hno HN
      have hxr := u8_x d x hkd hx
      have hql : d ^^^ x < 256 := Nat.xor_lt_two_pow (n := 8) hkd hx
      obtain ⟨q, hq⟩ : ∃ q, q = d ^^^ x := ⟨_, rfl⟩
      rw [← hq] at hxr HN hql
      have hsz := hbel.size
      clear hd hq
      rcases Nat.lt_or_ge k key.length with hj | hj
      case' inl => obtain ⟨b, off, rfl, hc⟩ := hcell hj
      case' inr =>
        obtain rfl := hno hj
        replace hxr : bits .xor .u8 0 (x : Int) = ((q : Nat) : Int) := hxr
      all_goals
        clear hcell hno
        go_wp2_with (at_builtin; refine wpList_append_own_at _ rfl _ _ 22 rfl w.heap.size 5 i0 (.int .u8 0) 1 1 Tryd.underlying22 hi hz0 hz1 hz2 rfl (by decide) _ _ _ rfl (hown.alloc _) ⟨wr.heap.size, 0, none⟩ 1 1 [.int .u8 (q : Int)] rfl rfl (cell_one_new _ _ _) ?d1 ?d2 ?d3 ?d4 ?_)
        case d1 => intro u hu; simp at hu; subst hu; rfl
        case d2 => unfold maxLen; omega
        case d3 => omega
        case d4 => simp; omega
        intro v3 w3 hown3 hg3 _ _
        have R : w3.ownsRow w.heap.size 5 1 v3 (k + 1) ((up (xorTo key x (k + 1))).map (Value.int .u8)) ∧ Below w.heap.size w w3 := by
          refine ⟨?_, (hbel.alloc hsz _).grown hg3 (by simp; omega) fun q hq => (hown.lt q hq).1⟩
          rw [HN.out, up_append, List.map_append]
          exact hown3
        obtain ⟨A3, q3, hv3⟩ := own_slice R.1
        subst hv3
        clear hown3 hg3 hown hbel
        go_wp2
        go_roundw
        case rel => first | exact ⟨k + 1, by omega, by go_num, ⟨A3, q3, rfl⟩, R.1, R.2⟩ | ((repeat apply Exists.intro); exact ⟨⟨k + 1, by omega, by go_num, ⟨A3, q3, rfl⟩, R.1, R.2⟩, rfl⟩)
        case measure => simp [intOf]; omega
    · have hk64 : k = 64 := by omega
      subst hk64
      go_wp2
      go_ret
      exact ⟨_, rfl, hown, hbel⟩



set_option maxHeartbeats 800000 in
theorem refCode_any (HR : RefSpec) (A0 A1 : Option Addr) (c0 c1 : Nat) (key text : List Nat) (w : World) (h0 : Ints w w.heap.size .u8 A0 (up key)) (h1 : Ints w w.heap.size .u8 A1 (up text)) (hA0 : A0 = none → c0 = 0) (hA1 : A1 = none → c1 = 0) (hb0 : ∀ b ∈ key, b < 256) (hb1 : ∀ b ∈ text, b < 256)
    (hm0 : key.length ≤ 140737488355000) (hm1 : text.length ≤ 140737488354900) :
    Calls Tryd.prog 10 #[.slice A0 key.length c0, .slice A1 text.length c1] w fun e w' => ∃ A c, e = .returned (.slice A 32 c) ∧ 32 ≤ c ∧ Ints w' w'.heap.size .u8 A (up (macN key text)) ∧ Below w.heap.size w w' := by
  obtain ⟨i0, hi, hz0, hz1, hz2⟩ := info_parts Tryd.infoU8'
  have HK := Lib.hid (HR A0 c0 key w h0 hA0 hb0 hm0)
  have HKL := Lib.hid (keyN_lt hb0)
  have HX1 : Hid (∀ b ∈ xorK (keyN key) 54 ++ text, b < 256) := fun b hb => by
    rcases List.mem_append.1 hb with h | h
    · exact xorTo_lt (keyN_lt hb0) (by decide) 64 b h
    · exact hb1 b h
  have HX2 : Hid (∀ b ∈ xorK (keyN key) 92 ++ innerN key text, b < 256) := fun b hb => by
    rcases List.mem_append.1 hb with h | h
    · exact xorTo_lt (keyN_lt hb0) (by decide) 64 b h
    · exact digestN_lt _ b h
  have HA1 := Lib.hid hA1
  clear hb1
  go_enter Tryd.func10, Tryd.ntmps10
  go_upto_if 8 with fail
  go_cut [0] (fun s wx => ∃ A c, s = .slice A (keyN key).length c ∧ Ints wx wx.heap.size .u8 A (up (keyN key)) ∧ Below w.heap.size w wx)
  case first =>
    by_cases h6 : (64 : Int) < key.length
    · have hk : keyN key = digestN key := if_pos (by omega)
      go_wp2_with (go_at_call 18; with_reducible (refine Calls.mono HK.out ?_); rintro e w1 ⟨A, c, rfl, hc, hr, hb⟩)
      go_meet
      rw [hk]
      exact ⟨A, c, rfl, hr, hb⟩
    · have hk : keyN key = key := if_neg (by omega)
      go_wp2
      go_meet
      rw [hk]
      exact ⟨A0, c0, rfl, h0, Below.refl _ _⟩
  case rest =>
    obtain ⟨A2, c2, rfl, hr2, hb2⟩ := hcut
    have HW1 := Lib.hid (with_any A2 c2 54 (keyN key) _ hr2 HKL.out (by decide))
    have ht2 := h1.below hb2
    have HXL : (xorK (keyN key) 54).length = 64 := xorTo_len _ _ _
    clear h0 h1
    go_wp2_with (first
      | (go_at_call 19; with_reducible (refine Calls.mono HW1.out ?_); rintro e w3 ⟨v3, rfl, hown3, hb3⟩; obtain ⟨A3, c3, hv3⟩ := own_slice hown3; subst hv3)
      | (at_builtin; refine wpList_append_when _ rfl _ _ 22 rfl wc.heap.size 5 i0 (.int .u8 0) 1 Tryd.underlying22 hi hz0 hz1 hz2 rfl .u8 _ (up (xorK (keyN key) 54)) (up text) w.heap.size c1 text.length A1 (up_len text) rfl rfl (by rw [up_len, HXL]; exact hown3) (ht2.below (hb3.mono hb2.size)) HA1.out ?d1 ?d2 hb3.size ?_))
    case d1 => rw [up_len, up_len, HXL]; unfold maxLen; omega
    case d2 => rw [up_len, up_len, HXL]; omega
    intro v4 w4 hown4 hg4 _
    have b4 : Below wc.heap.size wc w4 := hb3.grown hg4 hb3.size fun q hq => (hown3.lt q hq).1
    have hw4 : w4.ownsRow wc.heap.size 5 1 v4 (xorK (keyN key) 54 ++ text).length ((up (xorK (keyN key) 54 ++ text)).map (Value.int .u8)) := by
      rw [up_append, List.map_append, List.length_append, ← up_len text, ← up_len (xorK (keyN key) 54)]; exact hown4
    clear hown4 hg4 hown3 hb3 ht2
    obtain ⟨A4, c4, hv4⟩ := own_slice hw4
    subst hv4
    have HD1 := Lib.hid (HR A4 c4 _ w4 (Ints.of_own (c := c4) (n := (xorK (keyN key) 54 ++ text).length) (by rw [up_len]; exact hw4)) (own_nil hw4) HX1.out (by rw [List.length_append, HXL]; omega))
    rw [List.length_append, HXL] at HD1
    clear hw4
    have HW2 := Lib.hid (fun (w5 : World) (h : Below wc.heap.size wc w5) => with_any A2 c2 92 (keyN key) w5 ((hr2.below h).more h.size) HKL.out (by decide))
    have HXL2 : (xorK (keyN key) 92).length = 64 := xorTo_len _ _ _
    go_wp2_with (first
      | (go_at_call 18; with_reducible (refine Calls.mono HD1.out ?_); rintro e w5 ⟨A5, c5, rfl, hc5, hr5, hb5⟩; have b5 := chain b4 hb5; have HN5 := nil_of_ints (c := c5) hr5 (by rw [up_len, digestN_len]; decide))
      | (go_at_call 19; with_reducible (refine Calls.mono (HW2.out _ b5) ?_); rintro e w6 ⟨v6, rfl, hown6, hb6⟩; obtain ⟨A6, c6, hv6⟩ := own_slice hown6; subst hv6)
      | (at_builtin; refine wpList_append_when _ rfl _ _ 22 rfl w5.heap.size 5 i0 (.int .u8 0) 1 Tryd.underlying22 hi hz0 hz1 hz2 rfl .u8 _ (up (xorK (keyN key) 92)) (up (innerN key text)) w5.heap.size c5 32 A5 (by rw [up_len]; rfl) rfl rfl (by rw [up_len, HXL2]; exact hown6) (hr5.below hb6) HN5 ?d1 ?d2 hb6.size ?_))
    case d1 => rw [up_len, up_len, HXL2]; show 64 + 32 ≤ maxLen; unfold maxLen; omega
    case d2 => rw [up_len, up_len, HXL2]; show (64 + 32) * 1 ≤ _; omega
    intro v7 w7 hown7 hg7 _
    have b7 : Below w5.heap.size w5 w7 := hb6.grown hg7 hb6.size fun q hq => (hown6.lt q hq).1
    have hw7 : w7.ownsRow w5.heap.size 5 1 v7 (xorK (keyN key) 92 ++ innerN key text).length ((up (xorK (keyN key) 92 ++ innerN key text)).map (Value.int .u8)) := by
      rw [up_append, List.map_append, List.length_append, ← up_len (innerN key text), ← up_len (xorK (keyN key) 92)]; exact hown7
    clear hown7 hg7 hown6 hb6
    obtain ⟨A7, c7, hv7⟩ := own_slice hw7
    subst hv7
    have HD2 := Lib.hid (HR A7 c7 _ w7 (Ints.of_own (c := c7) (n := (xorK (keyN key) 92 ++ innerN key text).length) (by rw [up_len]; exact hw7)) (own_nil hw7) HX2.out (by rw [List.length_append, HXL2]; show 64 + 32 ≤ _; omega))
    rw [List.length_append, HXL2, show (innerN key text).length = 32 from rfl] at HD2
    have HL3 : (innerN key text).length = 32 := rfl
    clear hw7
    have hc7 := chain (chain hb2 b5) b7
    go_wp2_with (go_at_call 18; with_reducible (refine Calls.mono HD2.out ?_); rintro e w8 ⟨A8, c8, rfl, hc8, hr8, hb8⟩; have b8 := chain hc7 hb8)
    go_ret
    exact ⟨_, _, rfl, hc8, hr8, b8⟩

end Go.Proofs.YtocnbhefjhammaaDoor
