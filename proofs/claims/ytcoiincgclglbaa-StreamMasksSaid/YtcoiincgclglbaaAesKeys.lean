/-
  The document's own images of all bytes, and its round keys: what they answer; nothing that was there is changed.
-/
import Derived.Test.YtcoiincgclglbaaAesRef
import Derived.Test.YtcoiincgclglbaaRows2
namespace Go.Proofs.Ytcoiincgclglbaa
open Go.RowKit

theorem Try.infoU8a : (Try.prog.info? 5).map (fun i => (i.zero, i.size, i.bytes)) = some (some (.int .u8 0), 1, 1) := by kernel_rfl
theorem Try.infoSla : (Try.prog.info? 22).map (fun i => (i.zero, i.size, i.bytes)) = some (some (.slice none 0 0), 1, 24) := by kernel_rfl
theorem sbox_len : sbox.length = 256 := by decide +kernel
def subsTo (k : Nat) : List Nat := (List.range k).map fun b => sbox.getD b 0
theorem subsTo_succ (k : Nat) : subsTo (k + 1) = subsTo k ++ [sbox.getD k 0] := by simp [subsTo, List.range_succ]
theorem subsTo_len (k : Nat) : (subsTo k).length = k := by simp [subsTo]
theorem subsTo_all : subsTo 256 = sbox := by decide +kernel

set_option maxHeartbeats 800000 in
set_option maxRecDepth 100000 in
/-- 'Subs'. -/
theorem refSubs_any (w : World) : Calls Try.prog 19 #[] w fun e w' => ∃ A c, e = .returned (.slice A 256 c) ∧ 256 ≤ c ∧ Ints w' w'.heap.size .u8 A (up sbox) ∧ Below w.heap.size w w' := by
  obtain ⟨i0, hi, hz0, hz1, hz2⟩ := info_parts Try.infoU8a
  have HS := Lib.hid (fun (k : Nat) (hk : k < 256) (W : World) => refSub_any k W hk)
  have HALL := Lib.hid subsTo_all
  obtain ⟨sb, hsb⟩ : ∃ sb, sb = sbox := ⟨_, rfl⟩
  have HN : Hid (∀ k, subsTo (k + 1) = subsTo k ++ [sb.getD k 0]) := by rw [hsb]; exact subsTo_succ
  rw [← hsb] at HS HALL ⊢
  clear hsb
  go_enter Try.func19, Try.ntmps19
  go_wp2
  go_loopw [1, 2] (fun v i wr => ∃ k : Nat, k ≤ 256 ∧ i = .int .i64 k ∧ (∃ A c, v = .slice A k c) ∧ wr.ownsRow w.heap.size 5 1 v k ((up (subsTo k)).map (Value.int .u8)) ∧ Below w.heap.size w wr) (fun _ i _ => 256 - (intOf i).toNat)
  case atStart => exact ⟨0, by omega, rfl, ⟨_, _, rfl⟩, World.ownsRow_made w #[] 0 (Nat.le_refl _) (Nat.zero_le _) rfl, (Below.refl _ _).alloc (Nat.le_refl _) _⟩
  case round =>
    obtain ⟨k, hk, rfl, ⟨A, c, rfl⟩, hown, hbel⟩ := hrel
    by_cases hlt : k < 256
    · have hS := HS.out k hlt
      have hN := HN.out k
      obtain ⟨q, hq⟩ : ∃ q, q = sb.getD k 0 := ⟨_, rfl⟩
      rw [← hq] at hS hN
      have HSS := Lib.hid hS
      have HNN := Lib.hid hN
      have hsz := hbel.size
      have hk1 : (k : Int) ≤ 255 := by omega
      clear hS hN hq
      go_wp2_with (first
        | (go_at_call 36; with_reducible (refine Calls.mono (HSS.out _) ?_); rintro e w' ⟨rfl, m, rfl⟩)
        | (at_builtin; refine wpList_append_own_at _ rfl _ _ 22 rfl w.heap.size 5 i0 (.int .u8 0) 1 1 Try.underlying22 hi hz0 hz1 hz2 rfl (by decide) _ _ _ rfl ((show (wr.drewN m).ownsRow _ _ _ _ _ _ from hown).alloc _) ⟨wr.heap.size, 0, none⟩ 1 1 [.int .u8 (q : Int)] rfl rfl (cell_one_new _ _ _) ?d1 ?d2 ?d3 ?d4 ?_))
      case d1 => intro u hu; simp at hu; subst hu; rfl
      case d2 => unfold maxLen; omega
      case d3 => omega
      case d4 => simp; omega
      intro v3 w3 hown3 hg3 _ _
      have R : w3.ownsRow w.heap.size 5 1 v3 (k + 1) ((up (subsTo (k + 1))).map (Value.int .u8)) ∧ Below w.heap.size w w3 := by
        refine ⟨?_, ((below_drewN hbel m).alloc hsz _).grown hg3 (by simp; omega) fun q hq => (hown.lt q hq).1⟩
        rw [HNN.out, up_append, List.map_append]
        exact hown3
      obtain ⟨A3, q3, hv3⟩ := own_slice R.1
      subst hv3
      clear hown3 hg3 hown hbel
      go_wp2
      go_roundw
      case rel => first | exact ⟨k + 1, by omega, by go_num, ⟨A3, q3, rfl⟩, R.1, R.2⟩ | ((repeat apply Exists.intro); exact ⟨⟨k + 1, by omega, by go_num, ⟨A3, q3, rfl⟩, R.1, R.2⟩, rfl⟩)
      case measure => simp [intOf]; omega
    · have hk8 : k = 256 := by omega
      subst hk8
      rw [HALL.out] at hown
      have hsl : sb.length = 256 := by rw [← HALL.out, subsTo_len]
      go_wp2
      go_ret
      exact ⟨A, c, rfl, own_le hown, Ints.of_own (c := c) (n := 256) (by rw [up_len, hsl]; exact hown), hbel⟩

/-! ### Round keys -/
def kb (key : List Nat) (i : Nat) : Nat := (kbN key).getD i 0
def kw (key : List Nat) (i : Nat) : List Nat := [kb key (4 * i), kb key (4 * i + 1), kb key (4 * i + 2), kb key (4 * i + 3)]
theorem kbTo_stable (key : List Nat) (j : Nat) : ∀ d, (kbTo key (j + 1 + d)).getD j 0 = (kbTo key (j + 1)).getD j 0
  | 0 => rfl
  | d + 1 => by
    rw [← kbTo_stable key j d]
    show (kbTo key (j + 1 + d) ++ _).getD j 0 = _
    rw [List.getD_eq_getElem?_getD, List.getElem?_append_left (by rw [kbTo_len]; omega), List.getD_eq_getElem?_getD]
theorem kbTo_kb (key : List Nat) {j n : Nat} (hj : j < n) (hn : n ≤ 176) : (kbTo key n).getD j 0 = kb key j := by
  unfold kb kbN
  have e1 := kbTo_stable key j (n - (j + 1))
  have e2 := kbTo_stable key j (176 - (j + 1))
  rw [show j + 1 + (n - (j + 1)) = n by omega] at e1
  rw [show j + 1 + (176 - (j + 1)) = 176 by omega] at e2
  rw [e1, e2]
theorem kb_at (key : List Nat) {j : Nat} (hj : j < 176) : kb key j = if j < 16 then key.getD j 0 else kbNext (kbN key) j := by
  rw [← kbTo_kb key (n := j + 1) (by omega) (by omega)]
  show (kbTo key j ++ [_]).getD j 0 = _
  rw [List.getD_eq_getElem?_getD, List.getElem?_append_right (by rw [kbTo_len]; omega), kbTo_len, Nat.sub_self]
  simp only [List.getElem?_cons_zero, Option.getD_some]
  split
  · rfl
  · have h := fun i (hi : i < j) => kbTo_kb key (j := i) (n := j) hi (by omega)
    have h2 : ∀ i, kb key i = (kbN key).getD i 0 := fun _ => rfl
    unfold kbNext
    rw [h (j - 16) (by omega), h (j - 3) (by omega), h (j / 4 * 4 - 4 + (j + 1) % 4) (by omega), h (j - 4) (by omega)]
    simp only [h2]
theorem kb_lt {key : List Nat} (hk : ∀ x ∈ key, x < 256) (j : Nat) : kb key j < 256 := getD_lt' (by decide) (kbTo_lt hk 176) j
theorem kw_first (key : List Nat) {i : Nat} (hi : i < 4) : kw key i = [key.getD (4 * i) 0, key.getD (4 * i + 1) 0, key.getD (4 * i + 2) 0, key.getD (4 * i + 3) 0] := by
  unfold kw
  rw [kb_at key (by omega), kb_at key (by omega), kb_at key (by omega), kb_at key (by omega), if_pos (by omega), if_pos (by omega), if_pos (by omega), if_pos (by omega)]
theorem kw_four (key : List Nat) {i : Nat} (h4 : 4 ≤ i) (hi : i < 44) (hm : i % 4 = 0) : kw key i = [kb key (4 * (i - 4)) ^^^ (sbox.getD (kb key (4 * (i - 1) + 1)) 0 ^^^ xpow ((i - 1) / 4)), kb key (4 * (i - 4) + 1) ^^^ sbox.getD (kb key (4 * (i - 1) + 2)) 0,
    kb key (4 * (i - 4) + 2) ^^^ sbox.getD (kb key (4 * (i - 1) + 3)) 0, kb key (4 * (i - 4) + 3) ^^^ sbox.getD (kb key (4 * (i - 1))) 0] := by
  have h2 : ∀ i, (kbN key).getD i 0 = kb key i := fun _ => rfl
  unfold kw
  rw [kb_at key (j := 4 * i) (by omega), kb_at key (j := 4 * i + 1) (by omega), kb_at key (j := 4 * i + 2) (by omega), kb_at key (j := 4 * i + 3) (by omega), if_neg (by omega), if_neg (by omega), if_neg (by omega), if_neg (by omega)]
  unfold kbNext
  simp only [h2]
  rw [if_pos (by omega), if_pos (by omega), if_pos (by omega), if_neg (by omega), if_pos (by omega), if_neg (by omega), if_pos (by omega), if_neg (by omega)]
  rw [show 4 * i - 16 = 4 * (i - 4) by omega, show 4 * i + 1 - 16 = 4 * (i - 4) + 1 by omega, show 4 * i + 2 - 16 = 4 * (i - 4) + 2 by omega, show 4 * i + 3 - 16 = 4 * (i - 4) + 3 by omega,
    show 4 * i - 3 = 4 * (i - 1) + 1 by omega, show 4 * i / 16 - 1 = (i - 1) / 4 by omega, show (4 * i + 1) / 4 * 4 - 4 + (4 * i + 1 + 1) % 4 = 4 * (i - 1) + 2 by omega,
    show (4 * i + 2) / 4 * 4 - 4 + (4 * i + 2 + 1) % 4 = 4 * (i - 1) + 3 by omega, show (4 * i + 3) / 4 * 4 - 4 + (4 * i + 3 + 1) % 4 = 4 * (i - 1) by omega]
theorem kw_else (key : List Nat) {i : Nat} (h4 : 4 ≤ i) (hi : i < 44) (hm : i % 4 ≠ 0) : kw key i = [kb key (4 * (i - 4)) ^^^ kb key (4 * (i - 1)), kb key (4 * (i - 4) + 1) ^^^ kb key (4 * (i - 1) + 1),
    kb key (4 * (i - 4) + 2) ^^^ kb key (4 * (i - 1) + 2), kb key (4 * (i - 4) + 3) ^^^ kb key (4 * (i - 1) + 3)] := by
  have h2 : ∀ i, (kbN key).getD i 0 = kb key i := fun _ => rfl
  unfold kw
  rw [kb_at key (j := 4 * i) (by omega), kb_at key (j := 4 * i + 1) (by omega), kb_at key (j := 4 * i + 2) (by omega), kb_at key (j := 4 * i + 3) (by omega), if_neg (by omega), if_neg (by omega), if_neg (by omega), if_neg (by omega)]
  unfold kbNext
  simp only [h2]
  rw [if_neg (by omega), if_neg (by omega), if_neg (by omega), if_neg (by omega)]
  rw [show 4 * i - 16 = 4 * (i - 4) by omega, show 4 * i + 1 - 16 = 4 * (i - 4) + 1 by omega, show 4 * i + 2 - 16 = 4 * (i - 4) + 2 by omega, show 4 * i + 3 - 16 = 4 * (i - 4) + 3 by omega,
    show 4 * i - 4 = 4 * (i - 1) by omega, show 4 * i + 1 - 4 = 4 * (i - 1) + 1 by omega, show 4 * i + 2 - 4 = 4 * (i - 1) + 2 by omega, show 4 * i + 3 - 4 = 4 * (i - 1) + 3 by omega]

end Go.Proofs.Ytcoiincgclglbaa
