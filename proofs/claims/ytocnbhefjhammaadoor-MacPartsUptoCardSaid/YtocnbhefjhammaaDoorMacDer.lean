/-
  The document's own keys for a purpose (stowageref04): what they answer; nothing that was there is changed.
-/
import Derived.Test.YtocnbhefjhammaaDoorMacRef
import Derived.Test.YtocnbhefjhammaaDoorRoom
namespace Go.Proofs.YtocnbhefjhammaaDoor
open Go.RowKit

theorem eight_ref (n : Int) (w : World) :
    Calls Tryd.prog 21 #[.int .i64 n] w fun e w' => ∃ A c, e = .returned (.slice A 8 c) ∧ 8 ≤ c ∧ Ints w' w'.heap.size .u8 A (up (eightN n)) ∧ Below w.heap.size w w' := by
  obtain ⟨i0, hi, hz0, hz1, hz2⟩ := info_parts Tryd.infoU8'
  have HE : Hid (eightTo (n % 18446744073709551616).toNat 8 = eightN n) := rfl
  obtain ⟨m, hm⟩ : ∃ m : Nat, (m : Int) = n % 18446744073709551616 := ⟨(n % 18446744073709551616).toNat, by omega⟩
  rw [← hm, Int.toNat_natCast] at HE
  go_enter Tryd.func21, Tryd.ntmps21
  go_wp2
  go_loopw [3, 4] (fun v i wr => ∃ k : Nat, k ≤ 8 ∧ i = .int .i64 (7 - (k : Int)) ∧ (∃ A c, v = .slice A k c) ∧ wr.ownsRow w.heap.size 5 1 v k ((up (eightTo m k)).map (Value.int .u8)) ∧ Below w.heap.size w wr) (fun _ i _ => (intOf i + 1).toNat)
  case atStart => exact ⟨0, by omega, by go_num, ⟨_, _, rfl⟩, World.ownsRow_made w #[] 0 (Nat.le_refl _) (Nat.zero_le _) rfl, (Below.refl _ _).alloc (Nat.le_refl _) _⟩
  case round =>
    obtain ⟨k, hk, rfl, ⟨A, c, rfl⟩, hown, hbel⟩ := hrel
    by_cases hlt : k < 8
    · obtain ⟨q, hq⟩ : ∃ q : Nat, (q : Int) = 7 - (k : Int) := ⟨7 - k, by omega⟩
      rw [← hq]
      have hq7 : q ≤ 7 := by omega
      have hsz := hbel.size
      have HQ := Lib.hid hq
      have HS := Lib.hid (eightTo_succ m k)
      have hm' := hm.symm
      clear hq hm
      go_wp2_with (at_builtin; refine wpList_append_own_at _ rfl _ _ 22 rfl w.heap.size 5 i0 (.int .u8 0) 1 1 Tryd.underlying22 hi hz0 hz1 hz2 rfl (by decide) _ _ _ rfl (hown.alloc _) ⟨wr.heap.size, 0, none⟩ 1 1 [_] rfl rfl (cell_one_new _ _ _) ?d1 ?d2 ?d3 ?d4 ?_)
      case d1 => intro u hu; simp at hu; subst hu; rfl
      case d2 => unfold maxLen; omega
      case d3 => omega
      case d4 => simp; omega
      intro v3 w3 hown3 hg3 _ _
      have R : w3.ownsRow w.heap.size 5 1 v3 (k + 1) ((up (eightTo m (k + 1))).map (Value.int .u8)) ∧ Below w.heap.size w w3 := by
        refine ⟨?_, (hbel.alloc hsz _).grown hg3 (by simp; omega) fun q hq => (hown.lt q hq).1⟩
        have e : (m : Int) / 2 ^ (8 * q) % 256 = ((m / 256 ^ (7 - k) % 256 : Nat) : Int) := by
          rw [show 7 - k = q by have := HQ.out; omega, Int.natCast_emod, Int.natCast_ediv, Int.natCast_pow, Int.pow_mul]; rfl
        rw [HS.out, up_append, List.map_append]
        have h := hown3
        have ew : IntKind.u64.wrap n = (m : Int) := hm'
        rw [ew, e] at h
        exact h
      obtain ⟨A3, q3, hv3⟩ := own_slice R.1
      subst hv3
      clear hown3 hg3 hown hbel
      go_wp2
      go_roundw
      case rel => first | exact ⟨k + 1, by omega, by have := HQ.out; go_num, ⟨A3, q3, rfl⟩, R.1, R.2⟩ | ((repeat apply Exists.intro); exact ⟨⟨k + 1, by omega, by have := HQ.out; go_num, ⟨A3, q3, rfl⟩, R.1, R.2⟩, rfl⟩)
      case measure => have := HQ.out; simp [intOf]; try omega
    · have hk8 : k = 8 := by omega
      subst hk8
      rw [HE.out] at hown
      have hle := own_le hown
      go_wp2
      go_ret
      exact ⟨_, _, rfl, hle, Ints.of_own (n := 8) hown, hbel⟩


/-- A text's bytes. -/
def textN (s : ByteArray) : List Nat := s.data.toList.map UInt8.toNat
theorem textN_len (s : ByteArray) : (textN s).length = s.size := by simp [textN]
theorem textN_lt (s : ByteArray) : ∀ b ∈ textN s, b < 256 := by
  intro b hb
  obtain ⟨x, _, rfl⟩ := List.mem_map.1 hb
  exact x.toNat_lt

set_option maxHeartbeats 800000 in
theorem refDerive_any (HR : RefSpec) (A0 : Option Addr) (c0 : Nat) (key : List Nat) (s : ByteArray) (n : Int) (w : World) (h0 : Ints w w.heap.size .u8 A0 (up key)) (hA0 : A0 = none → c0 = 0) (hb0 : ∀ b ∈ key, b < 256) (hm0 : key.length ≤ 140737488355000) (hs : s.size ≤ 140737488354000) :
    Calls Tryd.prog 13 #[.slice A0 key.length c0, .string s, .int .i64 n] w fun e w' => ∃ A c, e = .returned (.slice A 16 c) ∧ 16 ≤ c ∧ Ints w' w'.heap.size .u8 A (up (deriveN key (textN s) n)) ∧ Below w.heap.size w w' := by
  obtain ⟨i0, hi, hz0, hz1, hz2⟩ := info_parts Tryd.infoU8'
  have kc := fun (w : World) => Lib.run_convert_string_bytes (P := Tryd.prog) w 9 22 5 s Tryd.underlying9 Tryd.underlying22 Tryd.underlying5
  have HT := Lib.hid (room_of_text w 5 s (by unfold maxLen; omega))
  go_enter Tryd.func13, Tryd.ntmps13
  have hr1 : Room ((Lib.bytesWorld w 5 s).alloc (.cells #[.int .u8 0] 5)) w.heap.size (.slice (some ⟨w.heap.size, 0, none⟩) s.size (grownCap w s.size 0 5)) (textN s) := HT.out.1.below ((Below.refl _ _).alloc (Nat.le_refl _) _) (Nat.le_refl _)
  have hb1 : Below w.heap.size w ((Lib.bytesWorld w 5 s).alloc (.cells #[.int .u8 0] 5)) := HT.out.2.alloc HT.out.2.size _
  have hcell1 : ∀ j, j < [0].length → ((Lib.bytesWorld w 5 s).alloc (.cells #[.int .u8 0] 5)).cell? ((⟨(Lib.bytesWorld w 5 s).heap.size, 0, none⟩ : Addr).add j) = some (.int .u8 (([0] : List Nat).getD j 0 : Nat)) := by
    intro j hj
    have h0 : j = 0 := by simp at hj; omega
    subst h0
    exact cell_of_row _ _ 0 _ _ _ (heap_alloc_new _ _)
  have HRM := Lib.hid hr1
  have HBM := Lib.hid hb1
  have HCM := Lib.hid hcell1
  clear hr1 hb1 hcell1
  go_wp2_with (at_builtin; refine wpList_append_room _ rfl _ _ 22 rfl 5 i0 (.int .u8 0) Tryd.underlying22 hi hz0 hz1 hz2 rfl w.heap.size _ (textN s) [0] 1 1 ⟨(Lib.bytesWorld w 5 s).heap.size, 0, none⟩ rfl rfl rfl HRM.out HCM.out ?c1 ?c2 HBM.out.size ?_)
  case c1 => rw [textN_len]; show s.size + 1 ≤ maxLen; unfold maxLen; omega
  case c2 => rw [textN_len]; show s.size + 1 ≤ _; omega
  intro v2 w2 hr2 hb2
  have b2 := HBM.out.trans hb2
  obtain ⟨A2, c2, rfl, hc2, _, _⟩ := hr2.form
  have HE := Lib.hid (eight_ref n w2)
  have hl2 : (textN s ++ [0]).length = s.size + 1 := by rw [List.length_append, textN_len]; rfl
  have htl : ∀ x ∈ textN s ++ [0] ++ eightN n, x < 256 := fun x hx => by
    rcases List.mem_append.1 hx with h | h
    · rcases List.mem_append.1 h with h | h
      · exact textN_lt s x h
      · simp at h; omega
    · exact eightN_lt n x h
  have hl3 : (textN s ++ [0] ++ eightN n).length = s.size + 9 := by rw [List.length_append, hl2]; rfl
  have HCODE := Lib.hid (fun (w4 : World) (A : Option Addr) (c : Nat) (hb : Below w.heap.size w w4) (hr : Ints w4 w4.heap.size .u8 A (up (textN s ++ [0] ++ eightN n))) (hA : A = none → c = 0) =>
    refCode_any HR A0 A c0 c key (textN s ++ [0] ++ eightN n) w4 ((h0.below hb).more hb.size) hr hA0 hA hb0 htl hm0 (by rw [hl3]; omega))
  have HDER : Hid ((macN key (textN s ++ [0] ++ eightN n)).take 16 = deriveN key (textN s) n) := rfl
  obtain ⟨T, hT⟩ : ∃ T, T = textN s ++ [0] := ⟨_, rfl⟩
  obtain ⟨E, hEe⟩ : ∃ E, E = eightN n := ⟨_, rfl⟩
  have hEl : E.length = 8 := by rw [hEe]; rfl
  rw [← hT, ← hEe] at HCODE HDER hl3
  rw [← hT] at hr2 hl2
  rw [← hEe] at HE
  have HHL := Lib.hid hl2
  have HEL := Lib.hid hEl
  have HR2 := Lib.hid hr2
  rw [← hT, hl2]
  clear hr2 hb2 htl h0 hA0 hb0 hl2 hl3 HBM HCM HRM HT kc hT hEe hEl
  go_wp2_with (first
    | (go_at_call 21; with_reducible (refine Calls.mono HE.out ?_); rintro e w3 ⟨A3, c3, rfl, hc3, hi3, hb3⟩; obtain ⟨g3, o3, rfl, hcl3⟩ := ints_cells hi3 (by rw [HEL.out]; decide); have hr3 := HR2.out.below hb3 (Nat.le_refl _))
    | (at_builtin; refine wpList_append_room _ rfl _ _ 22 rfl 5 i0 (.int .u8 0) Tryd.underlying22 hi hz0 hz1 hz2 rfl w.heap.size (.slice A2 (s.size + 1) c2) T E c3 8 ⟨g3, o3, none⟩ HEL.out rfl rfl (by rw [HHL.out] at hr3; exact hr3) hcl3 ?d1 ?d2 (Nat.le_trans b2.size hb3.size) ?_))
  case d1 => rw [HHL.out, HEL.out]; unfold maxLen; omega
  case d2 => rw [HHL.out, HEL.out]; omega
  intro v4 w4 hr4 hb4
  have b4 : Below w.heap.size w w4 := (b2.trans (hb3.mono b2.size)).trans hb4
  obtain ⟨A4, c4, rfl, hc4, hi4, hn4⟩ := hr4.form
  have HC4 := Lib.hid (HCODE.out w4 A4 c4 b4 hi4 hn4)
  rw [List.length_append] at HC4
  clear hr4 hb4 hi4 hr3 hi3 hcl3
  go_wp2_with (go_at_call 10; with_reducible (refine Calls.mono HC4.out ?_); rintro e w5 ⟨A5, c5, rfl, hc5, hi5, hb5⟩; have hc5' : (16 : Int) ≤ c5 := by omega)
  go_ret
  refine ⟨_, _, rfl, by omega, ?_, chain b4 hb5⟩
  rw [← HDER.out]
  have h := hi5.take 16
  rw [show (up (macN key (T ++ E))).take 16 = up ((macN key (T ++ E)).take 16) by simp [up]] at h
  exact h

end Go.Proofs.YtocnbhefjhammaaDoor
