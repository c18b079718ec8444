/-
  Plain arithmetic of streams: a counter of 16 bytes as a number, the next one, a text with a stream added. No program is spoken of here.
-/
import Derived.Test.YtcoiincgclglbaaAesBlk
namespace Go.Proofs.Ytcoiincgclglbaa

def valB (l : List Nat) : Nat := l.foldl (fun a x => a * 256 + x) 0
theorem valB_snoc (l : List Nat) (x : Nat) : valB (l ++ [x]) = valB l * 256 + x := by simp [valB, List.foldl_append]
theorem valB_at (l : List Nat) (h : ∀ x ∈ l, x < 256) : ∀ i, i < l.length → valB l / 256 ^ (l.length - 1 - i) % 256 = l.getD i 0 := by
  suffices H : ∀ n (l : List Nat), l.length = n → (∀ x ∈ l, x < 256) → ∀ i, i < l.length → valB l / 256 ^ (l.length - 1 - i) % 256 = l.getD i 0 from H _ l rfl h
  intro n
  induction n with
  | zero => intro l hl _ i hi; omega
  | succ n ih =>
    intro l hl h i hi
    rcases List.eq_nil_or_concat l with rfl | ⟨L, b, hLb0⟩
    · cases hl
    · rw [List.concat_eq_append] at hLb0
      subst hLb0
      have hL : L.length = n := by simpa using hl
      have hb : b < 256 := h b (by simp)
      have hLb : ∀ x ∈ L, x < 256 := fun x hx => h x (by simp [hx])
      rw [valB_snoc]
      rw [List.length_append, List.length_singleton] at hi ⊢
      rcases Nat.lt_or_ge i L.length with h1 | h1
      · have e : L.length + 1 - 1 - i = (L.length - 1 - i) + 1 := by omega
        rw [e, Nat.pow_succ, Nat.mul_comm (256 ^ _) 256, ← Nat.div_div_eq_div_mul, show (valB L * 256 + b) / 256 = valB L by omega, ih L hL hLb i h1]
        simp [List.getD_eq_getElem?_getD, List.getElem?_append_left h1]
      · have e : i = L.length := by omega
        subst e
        rw [show L.length + 1 - 1 - L.length = 0 by omega, Nat.pow_zero, Nat.div_one]
        simp [List.getD_eq_getElem?_getD]
        omega
/-- A number as 16 bytes, the greatest first, modulo 2^128. -/
def be16 (n : Nat) : List Nat := L16 fun i => n / 256 ^ (15 - i) % 256
theorem be16_ok (n : Nat) : Ok16 (be16 n) := ⟨L16_len _, L16_lt fun i _ => Nat.mod_lt _ (by decide)⟩
theorem be16_val {l : List Nat} (h : Ok16 l) : be16 (valB l) = l := L16_ext h.len fun i hi => by
  have := valB_at l h.lt i (by rw [h.len]; exact hi)
  rw [h.len] at this
  exact this
theorem L16_eq {f g : Nat → Nat} (h : ∀ i, i < 16 → f i = g i) : L16 f = L16 g := by
  unfold L16
  apply List.map_congr_left
  intro i hi
  exact h i (List.mem_range.1 hi)
theorem be16_mod (n : Nat) : be16 (n % 2 ^ 128) = be16 n := L16_eq fun i hi => by
  have e : 2 ^ 128 = 256 ^ (15 - i) * (256 * 256 ^ i) := by
    rw [← Nat.mul_assoc, ← Nat.pow_succ, ← Nat.pow_add, show 15 - i + 1 + i = 16 by omega]
  rw [e, Nat.mod_mul_right_div_self, Nat.mod_mul_right_mod]
theorem val_digits (n : Nat) : ∀ k, k ≤ 16 → valB ((List.range k).map fun i => n / 256 ^ (15 - i) % 256) = n / 256 ^ (16 - k) % 256 ^ k := by
  intro k
  induction k with
  | zero => intro _; simp [valB, Nat.mod_one]
  | succ k ih =>
    intro hk
    rw [List.range_succ, List.map_append, List.map_cons, List.map_nil, valB_snoc, ih (by omega), show 16 - k = (15 - k) + 1 by omega, Nat.pow_succ 256 (15 - k), ← Nat.div_div_eq_div_mul, show 16 - (k + 1) = 15 - k by omega, Nat.pow_succ 256 k, Nat.mul_comm (256 ^ k) 256, Nat.mod_mul]
    omega
theorem val_be16 (n : Nat) : valB (be16 n) = n % 2 ^ 128 := by
  have h := val_digits n 16 (Nat.le_refl _)
  rw [Nat.sub_self, Nat.pow_zero, Nat.div_one] at h
  exact h
/-- The counter that is n further on. -/
def ctrAdd (c : List Nat) (n : Nat) : List Nat := be16 (valB c + n)
theorem ctrAdd_ok (c : List Nat) (n : Nat) : Ok16 (ctrAdd c n) := be16_ok _
theorem ctrAdd_zero {c : List Nat} (h : Ok16 c) : ctrAdd c 0 = c := be16_val h
theorem ctrAdd_add (c : List Nat) (a b : Nat) : ctrAdd (ctrAdd c a) b = ctrAdd c (a + b) := by
  unfold ctrAdd
  rw [val_be16, ← be16_mod (valB c + (a + b)), ← be16_mod ((valB c + a) % 2 ^ 128 + b), Nat.mod_add_mod, Nat.add_assoc]
/-- On the way to the next counter: the last j bytes are the next one's. -/
def ctrTo (v j : Nat) : List Nat := L16 fun i => if 16 - j ≤ i then (v + 1) / 256 ^ (15 - i) % 256 else v / 256 ^ (15 - i) % 256
def carryN (v j : Nat) : Nat := (v + 1) / 256 ^ j - v / 256 ^ j
theorem ctrTo_zero (v : Nat) : ctrTo v 0 = be16 v := L16_eq fun i hi => by rw [if_neg (by omega)]
theorem ctrTo_full (v : Nat) : ctrTo v 16 = be16 (v + 1) := L16_eq fun i _ => by rw [if_pos (by omega)]
theorem ctrTo_len (v j : Nat) : (ctrTo v j).length = 16 := L16_len _
theorem ctrTo_at (v j i : Nat) (hi : i < 16) : (ctrTo v j).getD i 0 = if 16 - j ≤ i then (v + 1) / 256 ^ (15 - i) % 256 else v / 256 ^ (15 - i) % 256 := L16_at _ hi
theorem ctrTo_lt (v j : Nat) : ∀ x ∈ ctrTo v j, x < 256 := L16_lt fun i _ => by split <;> exact Nat.mod_lt _ (by decide)
theorem div_next (v p : Nat) : (v + 1) / p = v / p ∨ (v + 1) / p = v / p + 1 := by
  rw [Nat.succ_div]
  split
  · exact Or.inr rfl
  · exact Or.inl rfl
theorem carry_next (v j : Nat) : (v / 256 ^ j % 256 + carryN v j) % 256 = (v + 1) / 256 ^ j % 256 ∧ (v / 256 ^ j % 256 + carryN v j) / 256 = carryN v (j + 1) ∧ carryN v j ≤ 1 := by
  have hd := div_next v (256 ^ j)
  unfold carryN
  rw [Nat.pow_succ, ← Nat.div_div_eq_div_mul, ← Nat.div_div_eq_div_mul]
  omega
theorem carry_zero (v : Nat) : carryN v 0 = 1 := by unfold carryN; simp
theorem ctrTo_next (v j : Nat) (hj : j < 16) : (ctrTo v j).set (15 - j) ((v / 256 ^ j % 256 + carryN v j) % 256) = ctrTo v (j + 1) := by
  rw [(carry_next v j).1]
  apply List.ext_getElem
  · rw [List.length_set, ctrTo_len, ctrTo_len]
  · intro i h1 h2
    have hi : i < 16 := by rw [ctrTo_len] at h2; exact h2
    rw [List.getElem_set]
    simp only [ctrTo, L16, List.getElem_map, List.getElem_range]
    by_cases e : 15 - j = i
    · rw [if_pos e, if_pos (by omega), show 15 - i = j by omega]
    · rw [if_neg e]
      by_cases hlt : 16 - j ≤ i
      · rw [if_pos hlt, if_pos (by omega)]
      · rw [if_neg hlt, if_neg (by omega)]

theorem carry_one {v j : Nat} (h : (v + 1) % 256 ^ j = 0) : carryN v j = 1 := by
  unfold carryN
  rw [Nat.succ_div_of_dvd (Nat.dvd_of_mod_eq_zero h)]
  omega
theorem carry_stop {v j : Nat} (hj : j < 16) (h : carryN v (j + 1) = 0) : ctrTo v (j + 1) = be16 (v + 1) := L16_eq fun i hi => by
  split
  · rfl
  · have hd := div_next v (256 ^ (j + 1))
    have he : (v + 1) / 256 ^ (j + 1) = v / 256 ^ (j + 1) := by unfold carryN at h; omega
    have hs : 256 ^ (15 - i) = 256 ^ (j + 1) * 256 ^ (15 - i - (j + 1)) := by rw [← Nat.pow_add]; congr 1; omega
    rw [hs, ← Nat.div_div_eq_div_mul, ← Nat.div_div_eq_div_mul, he]
theorem carry_more {v j : Nat} (h : (v + 1) % 256 ^ j = 0) (ho : v / 256 ^ j % 256 = 255) : (v + 1) % 256 ^ (j + 1) = 0 := by
  have h1 := (carry_next v j).1
  rw [ho, carry_one h] at h1
  rw [Nat.pow_succ, Nat.mod_mul, h, ← h1, show (255 + 1) % 256 = 0 from rfl, Nat.mul_zero]
theorem carry_last {v j : Nat} (h : (v + 1) % 256 ^ j = 0) (ho : v / 256 ^ j % 256 ≠ 255) : carryN v (j + 1) = 0 := by
  have h1 := (carry_next v j).2.1
  rw [carry_one h] at h1
  have := Nat.mod_lt (v / 256 ^ j) (show 0 < 256 by decide)
  omega

/-- A text with the stream added. -/
def maskN (key c : List Nat) (i : Nat) : Nat := (encN key (ctrAdd c (i / 16))).getD (i % 16) 0
def applyN (key c text : List Nat) : List Nat := (List.range text.length).map fun i => text.getD i 0 ^^^ maskN key c i
theorem applyN_len (key c text : List Nat) : (applyN key c text).length = text.length := by simp [applyN]
theorem applyN_at (key c text : List Nat) (i : Nat) (h : i < text.length) : (applyN key c text).getD i 0 = text.getD i 0 ^^^ maskN key c i := by
  rw [List.getD_eq_getElem?_getD, List.getElem?_eq_getElem (by rw [applyN_len]; exact h), Option.getD_some]
  simp [applyN]
theorem maskN_lt {key : List Nat} (hk : ∀ x ∈ key, x < 256) (c : List Nat) (i : Nat) : maskN key c i < 256 := (encN_ok hk (ctrAdd_ok c _)).at_ _
theorem applyN_lt {key : List Nat} (hk : ∀ x ∈ key, x < 256) (c : List Nat) {text : List Nat} (ht : ∀ x ∈ text, x < 256) : ∀ x ∈ applyN key c text, x < 256 := by
  intro x hx
  obtain ⟨i, _, rfl⟩ := List.mem_map.1 hx
  exact xor_lt8 (getD_lt' (by decide) ht i) (maskN_lt hk c i)
theorem list_ext_getD {a b : List Nat} (hl : a.length = b.length) (h : ∀ i, i < a.length → a.getD i 0 = b.getD i 0) : a = b := by
  apply List.ext_getElem hl
  intro i h1 h2
  have := h i h1
  simpa [List.getD_eq_getElem?_getD, h1, h2] using this
theorem applyN_back (key c text : List Nat) : applyN key c (applyN key c text) = text := by
  refine list_ext_getD (by rw [applyN_len, applyN_len]) fun i hi => ?_
  rw [applyN_len, applyN_len] at hi
  rw [applyN_at _ _ _ _ (by rw [applyN_len]; exact hi), applyN_at _ _ _ _ hi, Nat.xor_assoc, Nat.xor_self, Nat.xor_zero]
theorem getD_take (l : List Nat) (k i : Nat) (h : i < k) : (l.take k).getD i 0 = l.getD i 0 := by
  simp [List.getD_eq_getElem?_getD, h]
theorem getD_drop (l : List Nat) (k i : Nat) : (l.drop k).getD i 0 = l.getD (k + i) 0 := by
  simp [List.getD_eq_getElem?_getD, List.getElem?_drop]
theorem applyN_take (key c text : List Nat) (k : Nat) : applyN key c (text.take k) = (applyN key c text).take k := by
  refine list_ext_getD (by rw [applyN_len, List.length_take, List.length_take, applyN_len]) fun i hi => ?_
  rw [applyN_len, List.length_take] at hi
  rw [applyN_at _ _ _ _ (by rw [List.length_take]; exact hi), getD_take _ _ _ (by omega), getD_take _ _ _ (by omega), applyN_at _ _ _ _ (by omega)]
/-- A part of up to 16 bytes, from a whole number of blocks on. -/
theorem applyN_part (key c text : List Nat) (m : Nat) : applyN key (ctrAdd c m) ((text.drop (16 * m)).take 16) = ((applyN key c text).drop (16 * m)).take 16 := by
  refine list_ext_getD (by rw [applyN_len, List.length_take, List.length_take, List.length_drop, List.length_drop, applyN_len]) fun i hi => ?_
  rw [applyN_len, List.length_take, List.length_drop] at hi
  rw [applyN_at _ _ _ _ (by rw [List.length_take, List.length_drop]; exact hi), getD_take _ _ _ (by omega), getD_take _ _ _ (by omega), getD_drop, getD_drop, applyN_at _ _ _ _ (by omega)]
  unfold maskN
  rw [ctrAdd_add, show m + i / 16 = (16 * m + i) / 16 by omega, show i % 16 = (16 * m + i) % 16 by omega]
theorem take_step (l : List Nat) (m : Nat) : l.take (16 * m) ++ (l.drop (16 * m)).take 16 = l.take (16 * (m + 1)) := by
  rw [← List.take_add]; rfl
theorem maskN_step (key c : List Nat) (m k : Nat) (h : k < 16) : (encN key (ctrAdd c m)).getD k 0 = maskN key c (16 * m + k) := by
  unfold maskN
  rw [show (16 * m + k) / 16 = m by omega, show (16 * m + k) % 16 = k by omega]
theorem applyN_next (key c text : List Nat) (i : Nat) (h : i < text.length) : (applyN key c text).take (i + 1) = (applyN key c text).take i ++ [text.getD i 0 ^^^ maskN key c i] := by
  rw [List.take_succ_eq_append_getElem (by rw [applyN_len]; exact h)]
  simp [applyN]
/-- The counter of a slot's version. -/
def counterN (a b : List Nat) : List Nat := a.drop 4 ++ b ++ [0, 0, 0, 0]

end Go.Proofs.Ytcoiincgclglbaa
