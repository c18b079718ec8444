/-
  Plain arithmetic of the program's own ways with blocks: bytes doubled, images made of powers, rows turned, columns mixed thrice, the next round key. No program is spoken of here. Cells of arrays that lie in memory: one is stored, some are loaded or stored at once; a list that is made entry by entry.
-/
import Derived.Test.YtanpfodmmeagaaaDoorAesRefG
import Derived.Test.YtanpfodmmeagaaaDoorWordsG
import Derived.Test.YtanpfodmmeagaaaDoorChecked
import Derived.Tactics
import Derived.Tactics2
import Derived.LoopTactic
import Derived.OpenShut
import Derived.WalkLawsBesides
import Derived.BigQuiet
import Derived.BigRegion
import Derived.Deep.MidRow
import Derived.Deep.RegionHeld3
import Derived.Deep.DeepCutAuto
import Derived.StillTailTactics
namespace Go.Proofs.YtanpfodmmeagaaaDoor

theorem dbl_is : ∀ b : Nat, b < 256 → (b * 2 % 256) ^^^ (b / 128 * 27) = timesN 2 b := by decide +kernel
theorem three_is : ∀ b : Nat, b < 256 → timesN 3 b = timesN 2 b ^^^ b := by decide +kernel
theorem mix_code {a b c d : Nat} (hb : b < 256) : a ^^^ b ^^^ c ^^^ d ^^^ a ^^^ timesN 2 (a ^^^ b) = mix1 a b c d := by
  unfold mix1
  rw [timesN_xor, three_is b hb]
  have e : a ^^^ b ^^^ c ^^^ d ^^^ a = b ^^^ c ^^^ d := by
    rw [Nat.xor_comm _ a, ← Nat.xor_assoc, ← Nat.xor_assoc, ← Nat.xor_assoc, Nat.xor_self, Nat.zero_xor]
  rw [e]
  simp only [Nat.xor_assoc, Nat.xor_comm, xor_left']
theorem mix2_tab : ∀ x : Nat, x < 256 → (timesN 2 (timesN 2 x) ^^^ timesN 3 x ^^^ x ^^^ timesN 3 x = timesN 5 x ∧ timesN 2 (timesN 3 x) ^^^ timesN 3 (timesN 2 x) ^^^ x ^^^ x = 0) ∧
    (timesN 2 x ^^^ timesN 3 (timesN 3 x) ^^^ timesN 2 x ^^^ x = timesN 4 x ∧ timesN 2 x ^^^ timesN 3 x ^^^ timesN 3 x ^^^ timesN 2 x = 0) ∧
    (timesN 2 (timesN 5 x) ^^^ timesN 4 x = timesN 14 x ∧ timesN 3 (timesN 5 x) ^^^ timesN 4 x = timesN 11 x) ∧ (timesN 2 (timesN 4 x) ^^^ timesN 5 x = timesN 13 x ∧ timesN 3 (timesN 4 x) ^^^ timesN 5 x = timesN 9 x) := by decide +kernel
theorem mix_mix {a b c d : Nat} (ha : a < 256) (hb : b < 256) (hc : c < 256) (hd : d < 256) : mix1 (mix1 a b c d) (mix1 b c d a) (mix1 c d a b) (mix1 d a b c) = timesN 5 a ^^^ timesN 4 c := by
  have ta := (mix2_tab a ha).1.1
  have tb := (mix2_tab b hb).1.2
  have tc := (mix2_tab c hc).2.1.1
  have td := (mix2_tab d hd).2.1.2
  have e : mix1 (mix1 a b c d) (mix1 b c d a) (mix1 c d a b) (mix1 d a b c) =
      (timesN 2 (timesN 2 a) ^^^ timesN 3 a ^^^ a ^^^ timesN 3 a) ^^^ (timesN 2 (timesN 3 b) ^^^ timesN 3 (timesN 2 b) ^^^ b ^^^ b) ^^^ (timesN 2 c ^^^ timesN 3 (timesN 3 c) ^^^ timesN 2 c ^^^ c) ^^^ (timesN 2 d ^^^ timesN 3 d ^^^ timesN 3 d ^^^ timesN 2 d) := by
    unfold mix1
    simp only [timesN_xor]
    simp only [Nat.xor_assoc, Nat.xor_comm, xor_left']
  rw [e, ta, tb, tc, td]
  simp
theorem mix_thrice {a b c d : Nat} (ha : a < 256) (hb : b < 256) (hc : c < 256) (hd : d < 256) :
    mix1 (timesN 5 a ^^^ timesN 4 c) (timesN 5 b ^^^ timesN 4 d) (timesN 5 c ^^^ timesN 4 a) (timesN 5 d ^^^ timesN 4 b) = unmix1 a b c d := by
  have ta := (mix2_tab a ha).2.2.1.1
  have tb := (mix2_tab b hb).2.2.1.2
  have tc := (mix2_tab c hc).2.2.2.1
  have td := (mix2_tab d hd).2.2.2.2
  unfold unmix1
  rw [← ta, ← tb, ← tc, ← td]
  unfold mix1
  simp only [timesN_xor]
  simp only [Nat.xor_assoc, Nat.xor_comm, xor_left']
theorem mix_mixL {b : List Nat} (h : Ok16 b) : mixL (mixL b) = L16 fun i => timesN 5 (b.getD i 0) ^^^ timesN 4 (b.getD (i / 4 * 4 + (i + 2) % 4) 0) := by
  refine (L16_ext (L16_len _) fun i hi => ?_).symm
  unfold mixL
  rw [L16_at _ hi, L16_at _ hi, col_at _ 1 hi, col_at _ 2 hi, col_at _ 3 hi]
  simp only [turn_mod, turn_div, Nat.reduceAdd, turn_four]
  have e5 : i / 4 * 4 + (i + 5) % 4 = i / 4 * 4 + (i + 1) % 4 := by omega
  have e6 : i / 4 * 4 + (i + 6) % 4 = i / 4 * 4 + (i + 2) % 4 := by omega
  rw [e5, e6]
  exact (mix_mix (h.at_ _) (h.at_ _) (h.at_ _) (h.at_ _)).symm
theorem mix_thriceL {b : List Nat} (h : Ok16 b) : mixL (mixL (mixL b)) = unmixL b := by
  rw [mix_mixL h]
  unfold mixL unmixL
  refine List.map_congr_left fun i hi => ?_
  replace hi := List.mem_range.1 hi
  rw [L16_at _ hi, col_at _ 1 hi, col_at _ 2 hi, col_at _ 3 hi]
  simp only [turn_mod, turn_div, Nat.reduceAdd, turn_four]
  have e5 : i / 4 * 4 + (i + 5) % 4 = i / 4 * 4 + (i + 1) % 4 := by omega
  rw [e5]
  exact mix_thrice (h.at_ _) (h.at_ _) (h.at_ _) (h.at_ _)

/-! ### Blocks -/
def plusL (a k : List Nat) : List Nat := L16 fun i => a.getD i 0 ^^^ k.getD i 0
def replL (box a : List Nat) : List Nat := L16 fun i => box.getD (a.getD i 0) 0
def turnL (a : List Nat) (t : Nat) : List Nat := L16 fun i => a.getD (4 * ((i / 4 + i % 4 * t) % 4) + i % 4) 0
def mixT (a : List Nat) : Nat → List Nat
  | 0 => a
  | t + 1 => mixL (mixT a t)
def rk (key : List Nat) (r : Nat) : List Nat := L16 fun i => (kbN key).getD (16 * r + i) 0
theorem plusL_ok {a k : List Nat} (ha : Ok16 a) (hk : Ok16 k) : Ok16 (plusL a k) := ⟨L16_len _, L16_lt fun i _ => xor_lt8 (ha.at_ i) (hk.at_ i)⟩
theorem replL_ok {box : List Nat} (hb : ∀ x ∈ box, x < 256) (a : List Nat) : Ok16 (replL box a) := ⟨L16_len _, L16_lt fun _ _ => getD_lt' (by decide) hb _⟩
theorem turnL_ok {a : List Nat} (ha : Ok16 a) (t : Nat) : Ok16 (turnL a t) := ⟨L16_len _, L16_lt fun _ _ => ha.at_ _⟩
theorem mixT_ok {a : List Nat} (ha : Ok16 a) (t : Nat) : Ok16 (mixT a t) := by
  induction t with
  | zero => exact ha
  | succ t ih => exact mixL_ok ih
theorem rk_ok {key : List Nat} (hk : ∀ x ∈ key, x < 256) (r : Nat) : Ok16 (rk key r) := ⟨L16_len _, L16_lt fun _ _ => getD_lt' (by decide) (kbTo_lt hk 176) _⟩
theorem plus_rk (key a : List Nat) (r : Nat) : plusL a (rk key r) = addK key a r := by
  unfold plusL addK
  refine List.map_congr_left fun i hi => ?_
  rw [rk, L16_at _ (List.mem_range.1 hi)]
theorem turn_repl (a : List Nat) : turnL (replL sbox a) 1 = subL a := by
  unfold turnL subL
  refine List.map_congr_left fun i hi => ?_
  rw [replL, L16_at _ (by omega), Nat.mul_one]
theorem repl_turn (a : List Nat) : replL ibox (turnL a 3) = unsubL a := by
  unfold replL unsubL
  refine List.map_congr_left fun i hi => ?_
  have hi' := List.mem_range.1 hi
  rw [turnL, L16_at _ hi']
  have e : (i / 4 + i % 4 * 3) % 4 = (i / 4 + 4 - i % 4) % 4 := by omega
  rw [e]
/-- A round, and what undoes it, in the program's own order. -/
theorem round_code {key a : List Nat} {r : Nat} (hr : r < 10) : plusL (mixT (turnL (replL sbox a) 1) 1) (rk key r) = roundA key a r := by
  rw [plus_rk, turn_repl, roundA, if_pos hr]; rfl
theorem round_last {key a : List Nat} : plusL (turnL (replL sbox a) 1) (rk key 10) = roundA key a 10 := by
  rw [plus_rk, turn_repl, roundA, if_neg (by decide)]
theorem undo_code {key a : List Nat} (hk : ∀ x ∈ key, x < 256) (ha : Ok16 a) {r : Nat} (hr : r < 10) : replL ibox (turnL (mixT (plusL a (rk key r)) 3) 3) = undoA key a r := by
  rw [plus_rk, repl_turn, undoA, if_pos hr]
  show unsubL (mixL (mixL (mixL (addK key a r)))) = _
  rw [mix_thriceL (addK_ok hk ha r)]
theorem undo_last {key a : List Nat} : replL ibox (turnL (plusL a (rk key 10)) 3) = undoA key a 10 := by
  rw [plus_rk, repl_turn, undoA, if_neg (by decide)]

/-! ### The next round key -/
/-- What is added to column c. -/
def nk (k : List Nat) (x : Nat) : Nat → Nat → Nat
  | 0, r => k.getD r 0 ^^^ (if r = 0 then sbox.getD (k.getD 13 0) 0 ^^^ x else sbox.getD (k.getD (12 + (r + 1) % 4) 0) 0)
  | c + 1, r => k.getD (4 * (c + 1) + r) 0 ^^^ nk k x c r
def nextTo (k : List Nat) (x n : Nat) : List Nat := L16 fun i => if i < 4 * n then nk k x (i / 4) (i % 4) else k.getD i 0
def nextL (k : List Nat) (x : Nat) : List Nat := nextTo k x 4
theorem nk_lt {k : List Nat} (hk : Ok16 k) {x : Nat} (hx : x < 256) : ∀ c r, nk k x c r < 256
  | 0, r => by
    unfold nk
    refine xor_lt8 (hk.at_ _) ?_
    split
    · exact xor_lt8 (sbox_lt _) hx
    · exact sbox_lt _
  | c + 1, r => by unfold nk; exact xor_lt8 (hk.at_ _) (nk_lt hk hx c r)
theorem nextTo_ok {k : List Nat} (hk : Ok16 k) {x : Nat} (hx : x < 256) (n : Nat) : Ok16 (nextTo k x n) := ⟨L16_len _, L16_lt fun i _ => by
  split
  · exact nk_lt hk hx _ _
  · exact hk.at_ _⟩
theorem rk_at (key : List Nat) (r : Nat) {i : Nat} (hi : i < 16) : (rk key r).getD i 0 = kb key (16 * r + i) := by rw [rk, L16_at _ hi]; rfl
theorem kb_step (key : List Nat) {r j : Nat} (hr : r < 10) (hj : j < 16) : kb key (16 * (r + 1) + j) =
    kb key (16 * r + j) ^^^ (if j < 4 then (if j = 0 then sbox.getD (kb key (16 * r + 13)) 0 ^^^ xpow r else sbox.getD (kb key (16 * r + (12 + (j + 1) % 4))) 0) else kb key (16 * (r + 1) + (j - 4))) := by
  have h2 : ∀ i, (kbN key).getD i 0 = kb key i := fun _ => rfl
  rw [kb_at key (j := 16 * (r + 1) + j) (by omega), if_neg (by omega), kbNext]
  simp only [h2]
  rw [show 16 * (r + 1) + j - 16 = 16 * r + j by omega, show (16 * (r + 1) + j) % 16 = j by omega, show (16 * (r + 1) + j) % 4 = j % 4 by omega, show (16 * (r + 1) + j) / 16 - 1 = r by omega]
  refine congrArg (HXor.hXor _) ?_
  by_cases h4 : j < 4
  · rw [if_pos h4, if_pos h4, show j % 4 = j by omega]
    by_cases h0 : j = 0
    · rw [if_pos h0, if_pos h0, show 16 * (r + 1) + j - 3 = 16 * r + 13 by omega]
    · rw [if_neg h0, if_neg h0, show (16 * (r + 1) + j) / 4 * 4 - 4 + (16 * (r + 1) + j + 1) % 4 = 16 * r + (12 + (j + 1) % 4) by omega]
  · rw [if_neg h4, if_neg h4, show 16 * (r + 1) + j - 4 = 16 * (r + 1) + (j - 4) by omega]
theorem nk_is (key : List Nat) {r : Nat} (hr : r < 10) : ∀ c, c < 4 → ∀ j, j < 4 → nk (rk key r) (xpow r) c j = kb key (16 * (r + 1) + (4 * c + j))
  | 0, _, j, hj => by
    rw [Nat.mul_zero, Nat.zero_add, kb_step key hr (by omega), nk, rk_at key r (by omega), rk_at key r (by omega), rk_at key r (by omega), if_pos (show j < 4 from hj)]
  | c + 1, hc, j, hj => by
    rw [kb_step key hr (by omega), nk, rk_at key r (by omega), nk_is key hr c (by omega) j hj, if_neg (by omega), show 4 * (c + 1) + j - 4 = 4 * c + j by omega]
theorem next_is (key : List Nat) {r : Nat} (hr : r < 10) : nextL (rk key r) (xpow r) = rk key (r + 1) := by
  unfold nextL nextTo rk
  refine List.map_congr_left fun i hi => ?_
  have hi' := List.mem_range.1 hi
  rw [if_pos (by omega)]
  have := nk_is key hr (i / 4) (by omega) (i % 4) (by omega)
  unfold rk at this
  rw [this, show 4 * (i / 4) + i % 4 = i by omega]; rfl
theorem rk_zero {key : List Nat} (h : key.length = 16) : rk key 0 = key := L16_ext h fun i hi => by
  show kb key (16 * 0 + i) = _
  rw [kb_at key (by omega), if_pos (by omega), Nat.mul_zero, Nat.zero_add]
theorem xpow_step : ∀ r : Nat, r < 11 → timesN 2 (xpow r) = xpow (r + 1) := by decide +kernel

/-! ### The images, of powers -/
def powL : List Nat := [
  1, 3, 5, 15, 17, 51, 85, 255, 26, 46, 114, 150, 161, 248, 19, 53, 95, 225, 56, 72, 216, 115, 149, 164, 247, 2, 6, 10, 30, 34, 102, 170,
  229, 52, 92, 228, 55, 89, 235, 38, 106, 190, 217, 112, 144, 171, 230, 49, 83, 245, 4, 12, 20, 60, 68, 204, 79, 209, 104, 184, 211, 110, 178, 205,
  76, 212, 103, 169, 224, 59, 77, 215, 98, 166, 241, 8, 24, 40, 120, 136, 131, 158, 185, 208, 107, 189, 220, 127, 129, 152, 179, 206, 73, 219, 118, 154,
  181, 196, 87, 249, 16, 48, 80, 240, 11, 29, 39, 105, 187, 214, 97, 163, 254, 25, 43, 125, 135, 146, 173, 236, 47, 113, 147, 174, 233, 32, 96, 160,
  251, 22, 58, 78, 210, 109, 183, 194, 93, 231, 50, 86, 250, 21, 63, 65, 195, 94, 226, 61, 71, 201, 64, 192, 91, 237, 44, 116, 156, 191, 218, 117,
  159, 186, 213, 100, 172, 239, 42, 126, 130, 157, 188, 223, 122, 142, 137, 128, 155, 182, 193, 88, 232, 35, 101, 175, 234, 37, 111, 177, 200, 67, 197, 84,
  252, 31, 33, 99, 165, 244, 7, 9, 27, 45, 119, 153, 176, 203, 70, 202, 69, 207, 74, 222, 121, 139, 134, 145, 168, 227, 62, 66, 198, 81, 243, 14,
  18, 54, 90, 238, 41, 123, 141, 140, 143, 138, 133, 148, 167, 242, 13, 23, 57, 75, 221, 124, 132, 151, 162, 253, 28, 36, 108, 180, 199, 82, 246]
theorem powL_lt : ∀ x ∈ powL, x < 256 := by decide +kernel
theorem powL_len : powL.length = 255 := by decide +kernel
/-- The power at hand in round i. -/
def powN (i : Nat) : Nat := powL.getD i 1
theorem powN_lt (i : Nat) : powN i < 256 := by
  unfold powN
  rcases Nat.lt_or_ge i powL.length with g | g
  · rw [List.getD_eq_getElem?_getD, List.getElem?_eq_getElem g]; exact powL_lt _ (List.getElem_mem g)
  · simp [List.getD, g]
theorem powN_step : ∀ i : Nat, i < 255 → powN i ^^^ timesN 2 (powN i) = powN (i + 1) := by decide +kernel
/-- The list of powers behind i rounds. -/
def powTo (i : Nat) : List Nat := powL.take i ++ List.replicate (255 - i) 0
theorem powTo_len {i : Nat} (h : i ≤ 255) : (powTo i).length = 255 := by simp [powTo, powL_len]; omega
theorem powTo_all : powTo 255 = powL := by decide +kernel
theorem powTo_zero : powTo 0 = List.replicate 255 0 := rfl
theorem powTo_next {i : Nat} (h : i < 255) : (powTo i).set i (powN i) = powTo (i + 1) := by
  unfold powTo powN
  apply List.ext_getElem
  · simp [powL_len]; omega
  · intro j h1 h2
    have hl : (powL.take i).length = i := by rw [List.length_take, powL_len]; omega
    have hl1 : (powL.take (i + 1)).length = i + 1 := by rw [List.length_take, powL_len]; omega
    have hp : i < powL.length := by rw [powL_len]; exact h
    by_cases hj : i = j
    · subst hj
      rw [List.getElem_set_self, List.getElem_append_left (by omega), List.getElem_take, List.getD_eq_getElem?_getD, List.getElem?_eq_getElem hp]; rfl
    · rw [List.getElem_set_ne hj]
      rcases Nat.lt_or_ge j i with g | g
      · rw [List.getElem_append_left (by omega), List.getElem_append_left (by omega), List.getElem_take, List.getElem_take]
      · rw [List.getElem_append_right (by omega), List.getElem_append_right (by omega)]; simp
def spreadN (v : Nat) : Nat := v ^^^ 99 ^^^ leftN v 1 ^^^ leftN v 2 ^^^ leftN v 3 ^^^ leftN v 4
theorem spreadN_lt : ∀ v : Nat, v < 256 → spreadN v < 256 := by decide +kernel
def pairL (l : List Nat) (b m : Nat) : List Nat := (l.set b m).set (256 + m) b
theorem pairL_len (l : List Nat) (b m : Nat) : (pairL l b m).length = l.length := by simp [pairL]
def imgTo : Nat → List Nat
  | 0 => pairL (List.replicate 512 0) 0 (spreadN 0)
  | k + 1 => pairL (imgTo k) (powN k) (spreadN (powN ((255 - k) % 255)))
theorem imgTo_len : ∀ k, (imgTo k).length = 512
  | 0 => by rw [imgTo, pairL_len, List.length_replicate]
  | k + 1 => by rw [imgTo, pairL_len, imgTo_len k]
theorem imgTo_all : imgTo 255 = sbox ++ ibox := by decide +kernel

end Go.Proofs.YtanpfodmmeagaaaDoor

namespace Go.Proofs.YtanpfodmmeagaaaDoor
open Go.RowKit

/-- A list that is made entry by entry: the first k are done. -/
def prog (n : Nat) (f g : Nat → Nat) (k : Nat) : List Nat := (List.range n).map fun i => if i < k then f i else g i
theorem prog_len (n : Nat) (f g : Nat → Nat) (k : Nat) : (prog n f g k).length = n := by simp [prog]
theorem prog_at {n : Nat} (f g : Nat → Nat) (k : Nat) {i : Nat} (h : i < n) : (prog n f g k).getD i 0 = if i < k then f i else g i := by
  rw [List.getD_eq_getElem?_getD, List.getElem?_eq_getElem (by rw [prog_len]; exact h), Option.getD_some]
  simp [prog]
theorem prog_zero {l : List Nat} {n : Nat} (h : l.length = n) (f : Nat → Nat) : prog n f (fun i => l.getD i 0) 0 = l := by
  apply List.ext_getElem
  · rw [prog_len, h]
  · intro i h1 h2
    simp [prog, List.getD_eq_getElem?_getD, h2]
theorem prog_next (n : Nat) (f g : Nat → Nat) (k : Nat) : (prog n f g k).set k (f k) = prog n f g (k + 1) := by
  apply List.ext_getElem
  · simp [prog]
  · intro i h1 h2
    by_cases hk : k = i
    · subst hk
      simp [prog]
    · rw [List.getElem_set_ne hk]
      have e : (i < k) = (i < k + 1) := by
        apply propext
        omega
      simp only [prog, List.getElem_map, List.getElem_range, e]
theorem prog_all (n : Nat) (f g : Nat → Nat) : prog n f g n = (List.range n).map f := by
  unfold prog
  exact List.map_congr_left fun i hi => if_pos (List.mem_range.1 hi)
theorem prog_lt {n : Nat} {f g : Nat → Nat} (hf : ∀ i, i < n → f i < 256) (hg : ∀ i, i < n → g i < 256) (k : Nat) : ∀ x ∈ prog n f g k, x < 256 := by
  intro x hx
  obtain ⟨i, hi, rfl⟩ := List.mem_map.1 hx
  have := List.mem_range.1 hi
  split
  · exact hf i this
  · exact hg i this

/-- n entries from o on. -/
def subB (l : List Nat) (o n : Nat) : List Nat := (List.range n).map fun i => l.getD (o + i) 0
theorem subB_len (l : List Nat) (o n : Nat) : (subB l o n).length = n := by simp [subB]
theorem subB_at (l : List Nat) (o : Nat) {n i : Nat} (h : i < n) : (subB l o n).getD i 0 = l.getD (o + i) 0 := by
  rw [List.getD_eq_getElem?_getD, List.getElem?_eq_getElem (by rw [subB_len]; exact h), Option.getD_some]
  simp [subB]
theorem subB_lt {l : List Nat} (h : ∀ x ∈ l, x < 256) (o n : Nat) : ∀ x ∈ subB l o n, x < 256 := by
  intro x hx
  obtain ⟨i, _, rfl⟩ := List.mem_map.1 hx
  exact getD_lt' (by decide) h _
theorem subB_all (l : List Nat) : subB l 0 l.length = l := by
  apply List.ext_getElem
  · rw [subB_len]
  · intro i h1 h2
    simp [subB, List.getD_eq_getElem?_getD, h2]
/-- Entries are put in from o on. -/
def putL (l : List Nat) (o : Nat) : List Nat → List Nat
  | [] => l
  | v :: vs => putL (l.set o v) (o + 1) vs
def putA (C : Array Value) (o : Nat) : List Value → Array Value
  | [] => C
  | v :: vs => putA (C.setIfInBounds o v) (o + 1) vs
theorem BA_set1 (l : List Nat) (i x : Nat) : (BA l).setIfInBounds i (.int .u8 ((x : Nat) : Int)) = BA (l.set i x) := by
  simp [BA, List.map_set]
theorem putA_BA : ∀ (vs l : List Nat) (o : Nat), putA (BA l) o (vs.map fun z : Nat => Value.int .u8 (z : Int)) = BA (putL l o vs)
  | [], _, _ => rfl
  | v :: vs, l, o => by
    show putA ((BA l).setIfInBounds o _) (o + 1) _ = _
    rw [BA_set1, putA_BA vs]; rfl
theorem putL_prog (n : Nat) (f g : Nat → Nat) (k : Nat) : ∀ m, putL (prog n f g k) k ((List.range m).map fun i => f (k + i)) = prog n f g (k + m) := by
  intro m
  induction m generalizing k with
  | zero => rfl
  | succ m ih =>
    rw [List.range_succ_eq_map, List.map_cons, List.map_map]
    show putL ((prog n f g k).set k (f (k + 0))) (k + 1) _ = _
    rw [Nat.add_zero, prog_next]
    have := ih (k + 1)
    have e : (List.range m).map ((fun i => f (k + i)) ∘ Nat.succ) = (List.range m).map fun i => f (k + 1 + i) := List.map_congr_left fun i _ => by
      show f (k + (i + 1)) = _
      rw [show k + (i + 1) = k + 1 + i by omega]
    rw [e, this, show k + 1 + m = k + (m + 1) by omega]
theorem heap_setCell_same (w : World) (g i : Nat) (v : Value) (C : Array Value) (t : TypeId) (fr : Nat × Nat) (h : w.heap[g]? = some (.cells C t fr)) : (w.setCell ⟨g, i, none⟩ v).heap[g]? = some (.cells (C.setIfInBounds i v) t fr) := by
  simp [World.setCell, Array.getElem?_modify, h]
theorem heap_setCells_same (g : Nat) (t : TypeId) (fr : Nat × Nat) : ∀ (vs : List Value) (w : World) (o : Nat) (C : Array Value), w.heap[g]? = some (.cells C t fr) → (w.setCells g o vs).heap[g]? = some (.cells (putA C o vs) t fr)
  | [], _, _, _, h => h
  | v :: vs, w, o, C, h => heap_setCells_same g t fr vs _ _ _ (heap_setCell_same w g o v C t fr h)
theorem lt_heap {w : World} {g : Nat} {o : Obj} (h : w.heap[g]? = some o) : g < w.heap.size := by
  rcases Nat.lt_or_ge g w.heap.size with h' | h'
  · exact h'
  · rw [Array.getElem?_eq_none h'] at h; cases h
theorem frozen_row (w : World) (g i : Nat) (C : Array Value) (t : TypeId) (h : w.heap[g]? = some (.cells C t (0, 0))) : w.frozen? ⟨g, i, none⟩ = false := frozen_of_row _ _ _ _ _ h
/-- Some cells of bytes that lie in memory. -/
def vals (l : List Nat) : List Value := l.map fun z : Nat => Value.int .u8 (z : Int)
theorem vals_len (l : List Nat) : (vals l).length = l.length := by simp [vals]
theorem vals_BA (l : List Nat) : (vals l).toArray = BA l := rfl
theorem vals_one (l : List Nat) : ∀ v ∈ vals l, v.oneCell' = true := by
  intro v hv
  obtain ⟨z, _, rfl⟩ := List.mem_map.1 hv
  rfl
theorem range_BA {w : World} {g : Nat} {t : TypeId} {fr : Nat × Nat} {l : List Nat} (h : w.heap[g]? = some (.cells (BA l) t fr)) {o n : Nat} (hn : o + n ≤ l.length) : w.rangeAt g o (vals (subB l o n)) := fun j v hv => by
  have hj : j < n := by
    rcases Nat.lt_or_ge j n with h | h
    · exact h
    · rw [List.getElem?_eq_none (by rw [vals_len, subB_len]; exact h)] at hv; cases hv
  rw [BA_cell h (i := o + j) (by omega), ← hv, vals, List.getElem?_map, List.getElem?_eq_getElem (by rw [subB_len]; exact hj)]
  simp [subB]
theorem there_BA {w : World} {g : Nat} {t : TypeId} {l : List Nat} (h : w.heap[g]? = some (.cells (BA l) t (0, 0))) {o n : Nat} (hn : o + n ≤ l.length) : w.there g o n := fun j hj => ⟨by rw [BA_cell h (i := o + j) (by omega)]; rfl, frozen_of_row _ _ _ _ _ h⟩
theorem below_setCs {B : Nat} {w0 w : World} (h : Below B w0 w) {g : Nat} (hg : B ≤ g) : ∀ (vs : List Value) (o : Nat), Below B w0 (w.setCells g o vs) := by
  intro vs
  induction vs generalizing w with
  | nil => intro o; exact h
  | cons v vs ih => intro o; exact ih (h.setCell (p := ⟨g, o, none⟩) hg v) (o + 1)
theorem heap_setCells_other (g k : Nat) (hk : k ≠ g) : ∀ (vs : List Value) (w : World) (o : Nat), (w.setCells g o vs).heap[k]? = w.heap[k]?
  | [], _, _ => rfl
  | v :: vs, w, o => (heap_setCells_other g k hk vs _ _).trans (heap_setCell_other w ⟨g, o, none⟩ k v hk)
theorem size_setCs (g : Nat) : ∀ (vs : List Value) (w : World) (o : Nat), (w.setCells g o vs).heap.size = w.heap.size
  | [], _, _ => rfl
  | v :: vs, w, o => (size_setCs g vs _ _).trans (by simp)
/-- What a block of bytes is behind a store of some. -/
theorem put_BA {w : World} {g : Nat} {t : TypeId} {fr : Nat × Nat} {l : List Nat} (h : w.heap[g]? = some (.cells (BA l) t fr)) (o : Nat) (vs : List Nat) : (w.setCells g o (vals vs)).heap[g]? = some (.cells (BA (putL l o vs)) t fr) := by
  rw [heap_setCells_same g t fr _ _ _ _ h, vals, putA_BA]
theorem set_BA {w : World} {g : Nat} {t : TypeId} {fr : Nat × Nat} {l : List Nat} (h : w.heap[g]? = some (.cells (BA l) t fr)) (i x : Nat) : (w.setCell ⟨g, i, none⟩ (.int .u8 ((x : Nat) : Int))).heap[g]? = some (.cells (BA (l.set i x)) t fr) := by
  rw [heap_setCell_same _ _ _ _ _ _ _ h, BA_set1]
theorem results_mid {P : Program} {fn : Func} {p : Tmp} {ty : TypeId} (h : fn.results = #[.cell p ty]) (tmps : Array Value) (w : World) (g : Nat) (l : List Nat) (t : TypeId) (fr : Nat × Nat) (d : TypeDesc)
    (hp : tmps.getD p undef = .pointer (some ⟨g, 0, none⟩)) (hc : w.heap[g]? = some (.cells (BA l) t fr)) (hu : P.underlying ty = some d) (hd : d.isRow = true) (hi : (P.info? ty).map (·.size) = some l.length) :
    (results fn tmps).run P w = .ok (.agg (BA l)) w := by
  have hp' : tmps[p]?.getD undef = .pointer (some ⟨g, 0, none⟩) := by simpa using hp
  have hr := range_BA hc (o := 0) (n := l.length) (by omega)
  rw [subB_all] at hr
  rw [← vals_BA]
  simp [results, h, hp', asAddr, run_loadVar_mid w g 0 ty (vals l) d hr hu hd (by rw [hi, vals_len])]
/-- An array's value at an index. -/
theorem index_agg {P : Program} {t e : TypeId} {n : Nat} {i : TypeInfo} (hu : P.underlying t = some (.array n e)) (he : P.plainKey e = true) (hi : P.info? e = some i) (hs : i.size = 1) (w : World) (cs : Array Value) (j : Nat) (v : Value) (hj : j < n) (hc : cs[j]? = some v) :
    (Instr.index t (.agg cs) (.int .i64 (j : Int))).run P w = .ok v w := by
  have hp := run_part_plain (P := P) w he (xs := cs) (off := j * 1) (by rw [Nat.mul_one]; exact hc)
  simp [Instr.index, asIntOf, run_underlying hu, sizeOf, typeInfo, hi, hs, hj]
  simpa using hp
theorem heap_cell_other (w : World) (g i k : Nat) (v : Value) (hk : k ≠ g) : (w.setCell ⟨g, i, none⟩ v).heap[k]? = w.heap[k]? := heap_setCell_other w ⟨g, i, none⟩ k v hk
theorem below_cell {B : Nat} {w0 w : World} (h : Below B w0 w) {g : Nat} (hg : B ≤ g) (i : Nat) (v : Value) : Below B w0 (w.setCell ⟨g, i, none⟩ v) := h.setCell (p := ⟨g, i, none⟩) hg v
def zeros (n : Nat) : List Nat := List.replicate n 0
theorem zeros_len (n : Nat) : (zeros n).length = n := List.length_replicate

end Go.Proofs.YtanpfodmmeagaaaDoor
