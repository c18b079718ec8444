/-
  The document's own counters (stowageref06).
-/
import Derived.Test.YtcoiincgclglbaaStrAsk
import Derived.Test.YtcoiincgclglbaaRoom
namespace Go.Proofs.Ytcoiincgclglbaa
open Go.RowKit

set_option maxRecDepth 20000 in
theorem eight6 (n : Int) (w : World) :
    Calls Try.prog 22 #[.int .i64 n] w fun e w' => ∃ A c, e = .returned (.slice A 8 c) ∧ 8 ≤ c ∧ Ints w' w'.heap.size .u8 A (up (eightN n)) ∧ Below w.heap.size w w' := by
  obtain ⟨i0, hi, hz0, hz1, hz2⟩ := info_parts Try.infoU8s
  have HE : Hid (eightTo (n % 18446744073709551616).toNat 8 = eightN n) := rfl
  obtain ⟨m, hm⟩ : ∃ m : Nat, (m : Int) = n % 18446744073709551616 := ⟨(n % 18446744073709551616).toNat, by omega⟩
  rw [← hm, Int.toNat_natCast] at HE
  go_enter Try.func22, Try.ntmps22
  go_wp2
  go_loopw [3, 4] (fun v i wr => ∃ k : Nat, k ≤ 8 ∧ i = .int .i64 (7 - (k : Int)) ∧ (∃ A c, v = .slice A k c) ∧ wr.ownsRow w.heap.size 5 1 v k ((up (eightTo m k)).map (Value.int .u8)) ∧ Below w.heap.size w wr) (fun _ i _ => (intOf i + 1).toNat)
  case atStart => exact ⟨0, by omega, by go_num, ⟨_, _, rfl⟩, World.ownsRow_made w #[] 0 (Nat.le_refl _) (Nat.zero_le _) rfl, (Below.refl _ _).alloc (Nat.le_refl _) _⟩
  case round =>
    obtain ⟨k, hk, rfl, ⟨A, c, rfl⟩, hown, hbel⟩ := hrel
    by_cases hlt : k < 8
    · obtain ⟨q, hq⟩ : ∃ q : Nat, (q : Int) = 7 - (k : Int) := ⟨7 - k, by omega⟩
      rw [← hq]
      have hq7 : q ≤ 7 := by omega
      have hsz := hbel.size
      have HQ := Lib.hid hq
      have HS := Lib.hid (eightTo_succ m k)
      have hm' := hm.symm
      clear hq hm
      go_wp2_with (at_builtin; refine wpList_append_own_at _ rfl _ _ 22 rfl w.heap.size 5 i0 (.int .u8 0) 1 1 Try.underlying22 hi hz0 hz1 hz2 rfl (by decide) _ _ _ rfl (hown.alloc _) ⟨wr.heap.size, 0, none⟩ 1 1 [_] rfl rfl (cell_one_new _ _ _) ?d1 ?d2 ?d3 ?d4 ?_)
      case d1 => intro u hu; simp at hu; subst hu; rfl
      case d2 => unfold maxLen; omega
      case d3 => omega
      case d4 => simp; omega
      intro v3 w3 hown3 hg3 _ _
      have R : w3.ownsRow w.heap.size 5 1 v3 (k + 1) ((up (eightTo m (k + 1))).map (Value.int .u8)) ∧ Below w.heap.size w w3 := by
        refine ⟨?_, (hbel.alloc hsz _).grown hg3 (by simp; omega) fun q hq => (hown.lt q hq).1⟩
        have e : (m : Int) / 2 ^ (8 * q) % 256 = ((m / 256 ^ (7 - k) % 256 : Nat) : Int) := by
          rw [show 7 - k = q by have := HQ.out; omega, Int.natCast_emod, Int.natCast_ediv, Int.natCast_pow, Int.pow_mul]; rfl
        rw [HS.out, up_append, List.map_append]
        have h := hown3
        have ew : IntKind.u64.wrap n = (m : Int) := hm'
        rw [ew, e] at h
        exact h
      obtain ⟨A3, q3, hv3⟩ := own_slice R.1
      subst hv3
      clear hown3 hg3 hown hbel
      go_wp2
      go_roundw
      case rel => first | exact ⟨k + 1, by omega, by have := HQ.out; go_num, ⟨A3, q3, rfl⟩, R.1, R.2⟩ | ((repeat apply Exists.intro); exact ⟨⟨k + 1, by omega, by have := HQ.out; go_num, ⟨A3, q3, rfl⟩, R.1, R.2⟩, rfl⟩)
      case measure => have := HQ.out; simp [intOf]; try omega
    · have hk8 : k = 8 := by omega
      subst hk8
      rw [HE.out] at hown
      have hle := own_le hown
      go_wp2
      go_ret
      exact ⟨_, _, rfl, hle, Ints.of_own (n := 8) hown, hbel⟩


/-- A text's bytes. -/

theorem own_call {w w' : World} {base e n : Nat} {v : Value} {xs : List Value} (h : w.ownsRow base e 1 v n xs) (hb : Below w.heap.size w w') : w'.ownsRow base e 1 v n xs := own_same h fun g hg => hb.block g (h.lt g hg).2
theorem ints_cut4 {w : World} {B b o c : Nat} {l : List Nat} (h : Ints w B .u8 (some ⟨b, o, none⟩) (up l)) (hl : l.length = 8) (hc : 8 ≤ c) : Ints w B .u8 (some ⟨b, o + 4, none⟩) (up (l.drop 4)) := by
  have := h.cut (n := 4) (c := c) (by rw [up_len]; omega) (by rw [up_len]; omega)
  rw [if_neg (by omega), Option.map_some, Addr.add_mid] at this
  rw [show up (l.drop 4) = (up l).drop 4 by simp [up]]
  exact this

theorem cells_new (W : World) (cs : Array Value) (t : TypeId) {l : List Value} (h : cs.toList = l) : ∀ j u, l[j]? = some u → (W.alloc (.cells cs t)).cell? ((⟨W.heap.size, 0, none⟩ : Addr).add j) = some u := fun j u hu => by
  rw [Addr.add_mid, Nat.zero_add, cell_of_row _ _ j _ _ _ (heap_alloc_new W _), ← Array.getElem?_toList, h]
  exact hu

set_option maxRecDepth 20000 in
set_option maxHeartbeats 800000 in
theorem refCounter_any (s v : Int) (w : World) : Calls Try.prog 13 #[.int .i64 s, .int .i64 v] w fun e w' => ∃ A c, e = .returned (.slice A 16 c) ∧ 16 ≤ c ∧ Ints w' w'.heap.size .u8 A (up (counterOf s v)) ∧ Below w.heap.size w w' := by
  obtain ⟨i0, hi, hz0, hz1, hz2⟩ := info_parts Try.infoU8s
  have HE := Lib.hid (eight6 s)
  have HV := Lib.hid (eight6 v)
  have HCO : Hid (counterOf s v = (eightN s).drop 4 ++ eightN v ++ [0, 0, 0, 0]) := rfl
  have hls : (eightN s).length = 8 := rfl
  have hlv : (eightN v).length = 8 := rfl
  obtain ⟨S, hS⟩ : ∃ S, S = eightN s := ⟨_, rfl⟩
  obtain ⟨V, hV⟩ : ∃ V, V = eightN v := ⟨_, rfl⟩
  rw [← hS] at HE HCO hls
  rw [← hV] at HV HCO hlv
  have hl4 : (S.drop 4).length = 4 := by rw [List.length_drop]; omega
  have HLS := Lib.hid hls
  have HLV := Lib.hid hlv
  have HL4 := Lib.hid hl4
  clear hS hV hls hlv hl4
  go_enter Try.func13, Try.ntmps13
  go_wp2_with (first
    | (go_at_call 22; with_reducible (refine Calls.mono (HE.out _) ?_); rintro e w1 ⟨A1, c1, rfl, hc1, hi1, hb1⟩; obtain ⟨b1, o1, rfl, hb1', _⟩ := hi1.at_ (by rw [up_len, HLS.out]; decide); have hc4 : (4 : Int) ≤ c1 := (by omega); have hcn : ¬ c1 = 4 := (by omega); have hi4 := ints_cut4 hi1 HLS.out hc1; have hown1 := own_call (World.ownsRow_made (e := 5) w #[] 0 (Nat.le_refl _) (Nat.zero_le _) rfl) hb1; have hbw1 := ((Below.refl w.heap.size w).alloc (Nat.le_refl _) _).trans (hb1.mono (by simp)))
    | (at_builtin; refine wpList_append_when _ rfl (.tmp 6) (.tmp 9) 22 rfl w.heap.size 5 i0 (.int .u8 0) 1 Try.underlying22 hi hz0 hz1 hz2 rfl .u8 (.slice (some ⟨w.heap.size, 0, none⟩) 0 0) [] (up (S.drop 4)) w1.heap.size (c1 - 4) 4 (some ⟨b1, o1 + 4, none⟩) (by rw [up_len, HL4.out]) rfl rfl hown1 hi4 (fun h => by cases h) ?d1 ?d2 hbw1.size ?_))
  case d1 => rw [up_len, HL4.out]; decide
  case d2 => rw [up_len, HL4.out]; decide
  intro v2 w2 hown2 hg2 _
  have hb2 := hbw1.grown hg2 hbw1.size fun q hq => by simp [Value.ownBlock] at hq; omega
  have hn2 : (up (S.drop 4)).length = 4 := by rw [up_len, HL4.out]
  rw [hn2] at hown2
  obtain ⟨A2, c2, hv2⟩ := own_slice hown2
  subst hv2
  clear hn2 hown1 hi4 hi1 hb1 hbw1 hg2
  go_wp2_with (first
    | (go_at_call 22; with_reducible (refine Calls.mono (HV.out _) ?_); rintro e w3 ⟨A3, c3, rfl, hc3, hi3, hb3⟩; have hown3 := own_call hown2 hb3; have hbw3 := hb2.trans (hb3.mono hb2.size); have hnil3 := nil_of_ints (c := c3) hi3 (by rw [up_len, HLV.out]; decide))
    | (at_builtin; refine wpList_append_when _ rfl (.tmp 11) (.tmp 13) 22 rfl w.heap.size 5 i0 (.int .u8 0) 1 Try.underlying22 hi hz0 hz1 hz2 rfl .u8 (.slice A2 4 c2) (up (S.drop 4)) (up V) w3.heap.size c3 8 A3 (by rw [up_len, HLV.out]) rfl rfl (by rw [up_len, HL4.out]; exact hown3) hi3 hnil3 ?d1 ?d2 hbw3.size ?_))
  case d1 => rw [up_len, up_len, HL4.out, HLV.out]; decide
  case d2 => rw [up_len, up_len, HL4.out, HLV.out]; decide
  intro v4 w4 hown4 hg4 _
  have hb4 := hbw3.grown hg4 hbw3.size fun q hq => (hown3.lt q hq).1
  replace hown4 : w4.ownsRow w.heap.size 5 1 v4 12 ((up (S.drop 4 ++ V)).map (Value.int .u8)) := by
    rw [up_len, up_len, HL4.out, HLV.out] at hown4
    rw [up_append, List.map_append]
    exact hown4
  obtain ⟨A4, c4, hv4⟩ := own_slice hown4
  subst hv4
  have hsz := hb4.size
  clear hown3 hown2 hi3 hb3 hbw3 hg4 hb2
  go_wp2_with (at_builtin; refine wpList_append_own_at _ rfl (.tmp 15) (.tmp 16) 22 rfl w.heap.size 5 i0 (.int .u8 0) 1 1 Try.underlying22 hi hz0 hz1 hz2 rfl (by decide) _ _ _ rfl (hown4.alloc _) ⟨w4.heap.size, 0, none⟩ 4 4 [.int .u8 0, .int .u8 0, .int .u8 0, .int .u8 0] rfl rfl (cells_new _ _ _ rfl) ?d1 ?d2 ?d3 ?d4 ?_)
  case d1 => intro u hu; simp at hu; subst hu; rfl
  case d2 => decide
  case d3 => decide
  case d4 => simp; omega
  intro v5 w5 hown5 hg5 _ _
  have hown6 : w5.ownsRow w.heap.size 5 1 v5 16 ((up (counterOf s v)).map (Value.int .u8)) := by
    rw [HCO.out, up_append, List.map_append]
    exact hown5
  have hb5 := (hb4.alloc hsz (.cells #[.int .u8 0, .int .u8 0, .int .u8 0, .int .u8 0] 5)).grown hg5 (by simp; omega) fun q hq => (hown4.lt q hq).1
  obtain ⟨A5, c5, hv5⟩ := own_slice hown6
  subst hv5
  have hc5 := own_le hown6
  have hi5 : Ints w5 w5.heap.size .u8 A5 (up (counterOf s v)) := Ints.of_own (c := c5) (n := 16) hown6
  clear hown5 hg5 hown6
  go_wp2
  go_ret
  exact ⟨_, _, rfl, hc5, hi5, hb5⟩

end Go.Proofs.Ytcoiincgclglbaa
