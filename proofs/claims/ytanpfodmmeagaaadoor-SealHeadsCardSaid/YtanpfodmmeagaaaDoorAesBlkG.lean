/-
  Plain arithmetic of blocks: round keys, a block enciphered and deciphered, there and back. No program is spoken of here. Plain arithmetic of streams: a counter of 16 bytes as a number, the next one, a text with a stream added. No program is spoken of here. What is asked of the layer stream, as properties of its calls.
-/
import Derived.Test.YtanpfodmmeagaaaDoorAesNums
import Derived.Test.YtanpfodmmeagaaaDoorShaNumsG
import Derived.Test.YtanpfodmmeagaaaDoorWordsG
import Derived.Test.YtanpfodmmeagaaaDoorChecked
import Derived.Tactics
import Derived.Tactics2
import Derived.LoopTactic
import Derived.OpenShut
import Derived.WalkLawsBesides
import Derived.BigQuiet
import Derived.BigRegion
import Derived.Deep.DeepCutAuto
import Derived.Lib.SlBytesConst
import Derived.Deep.RegionWith
import Derived.Deep.OwnRows
namespace Go.Proofs.YtanpfodmmeagaaaDoor

def xpow : Nat → Nat
  | 0 => 1
  | n + 1 => timesN (xpow n) 2
/-- The next byte of the round keys. -/
def kbNext (w : List Nat) (j : Nat) : Nat :=
  w.getD (j - 16) 0 ^^^ (if j % 16 < 4 then (if j % 4 = 0 then sbox.getD (w.getD (j - 3) 0) 0 ^^^ xpow (j / 16 - 1) else sbox.getD (w.getD (j / 4 * 4 - 4 + (j + 1) % 4) 0) 0) else w.getD (j - 4) 0)
/-- The first bytes of the round keys. -/
def kbTo (key : List Nat) : Nat → List Nat
  | 0 => []
  | j + 1 => kbTo key j ++ [if j < 16 then key.getD j 0 else kbNext (kbTo key j) j]
def kbN (key : List Nat) : List Nat := kbTo key 176
theorem kbTo_len (key : List Nat) (j : Nat) : (kbTo key j).length = j := by
  induction j with
  | zero => rfl
  | succ j ih => simp [kbTo, ih]
theorem getD_lt' {l : List Nat} {m : Nat} (hm : 0 < m) (h : ∀ x ∈ l, x < m) (i : Nat) : l.getD i 0 < m := by
  rcases Nat.lt_or_ge i l.length with g | g
  · rw [List.getD_eq_getElem?_getD, List.getElem?_eq_getElem g]
    exact h _ (List.getElem_mem g)
  · simp [List.getD, g, hm]
theorem xor_lt8 {a b : Nat} (ha : a < 256) (hb : b < 256) : a ^^^ b < 256 := Nat.xor_lt_two_pow (n := 8) ha hb
theorem xpow_lt (n : Nat) : xpow n < 256 := by
  cases n with
  | zero => decide
  | succ n => exact timesN_lt _ _
theorem sbox_lt (b : Nat) : sbox.getD b 0 < 256 := getD_lt' (by decide) (by decide +kernel) b
theorem ibox_lt (b : Nat) : ibox.getD b 0 < 256 := getD_lt' (by decide) (by decide +kernel) b
theorem kbTo_lt {key : List Nat} (hk : ∀ x ∈ key, x < 256) (j : Nat) : ∀ x ∈ kbTo key j, x < 256 := by
  induction j with
  | zero => intro x hx; cases hx
  | succ j ih =>
    intro x hx
    rcases List.mem_append.1 hx with hx | hx
    · exact ih x hx
    · rw [List.mem_singleton] at hx
      subst hx
      have hg := getD_lt' (by decide) ih
      split
      · exact getD_lt' (by decide) hk j
      · unfold kbNext
        refine xor_lt8 (hg _) ?_
        split
        · split
          · exact xor_lt8 (sbox_lt _) (xpow_lt _)
          · exact sbox_lt _
        · exact hg _

/-- A list of 16 bytes, by its entries. -/
def L16 (f : Nat → Nat) : List Nat := (List.range 16).map f
theorem L16_len (f : Nat → Nat) : (L16 f).length = 16 := by simp [L16]
theorem L16_at (f : Nat → Nat) {i : Nat} (h : i < 16) : (L16 f).getD i 0 = f i := by
  rw [List.getD_eq_getElem?_getD, List.getElem?_eq_getElem (by rw [L16_len]; exact h)]
  simp [L16]
theorem L16_ext {b : List Nat} (hb : b.length = 16) {f : Nat → Nat} (h : ∀ i, i < 16 → f i = b.getD i 0) : L16 f = b := by
  apply List.ext_getElem
  · rw [L16_len, hb]
  · intro i h1 h2
    have := h i (by omega)
    rw [List.getD_eq_getElem?_getD, List.getElem?_eq_getElem h2, Option.getD_some] at this
    simp [L16, this]
theorem L16_lt {f : Nat → Nat} (h : ∀ i, i < 16 → f i < 256) : ∀ x ∈ L16 f, x < 256 := by
  intro x hx
  obtain ⟨i, hi, rfl⟩ := List.mem_map.1 hx
  exact h i (List.mem_range.1 hi)
structure Ok16 (b : List Nat) : Prop where
  len : b.length = 16
  lt : ∀ x ∈ b, x < 256
theorem Ok16.at_ {b : List Nat} (h : Ok16 b) (i : Nat) : b.getD i 0 < 256 := getD_lt' (by decide) h.lt i

def addK (key b : List Nat) (r : Nat) : List Nat := L16 fun i => b.getD i 0 ^^^ (kbN key).getD (16 * r + i) 0
def subL (b : List Nat) : List Nat := L16 fun i => sbox.getD (b.getD (4 * ((i / 4 + i % 4) % 4) + i % 4) 0) 0
def unsubL (b : List Nat) : List Nat := L16 fun i => ibox.getD (b.getD (4 * ((i / 4 + 4 - i % 4) % 4) + i % 4) 0) 0
def mixL (b : List Nat) : List Nat := L16 fun i => mix1 (b.getD i 0) (b.getD (i / 4 * 4 + (i + 1) % 4) 0) (b.getD (i / 4 * 4 + (i + 2) % 4) 0) (b.getD (i / 4 * 4 + (i + 3) % 4) 0)
def unmixL (b : List Nat) : List Nat := L16 fun i => unmix1 (b.getD i 0) (b.getD (i / 4 * 4 + (i + 1) % 4) 0) (b.getD (i / 4 * 4 + (i + 2) % 4) 0) (b.getD (i / 4 * 4 + (i + 3) % 4) 0)
theorem addK_ok {key b : List Nat} (hk : ∀ x ∈ key, x < 256) (h : Ok16 b) (r : Nat) : Ok16 (addK key b r) :=
  ⟨L16_len _, L16_lt fun i _ => xor_lt8 (h.at_ i) (getD_lt' (by decide) (kbTo_lt hk 176) _)⟩
theorem subL_ok (b : List Nat) : Ok16 (subL b) := ⟨L16_len _, L16_lt fun _ _ => sbox_lt _⟩
theorem unsubL_ok (b : List Nat) : Ok16 (unsubL b) := ⟨L16_len _, L16_lt fun _ _ => ibox_lt _⟩
theorem mixL_ok {b : List Nat} (h : Ok16 b) : Ok16 (mixL b) := ⟨L16_len _, L16_lt fun _ _ => mix1_lt (h.at_ _) (h.at_ _)⟩
theorem unmixL_ok (b : List Nat) : Ok16 (unmixL b) := ⟨L16_len _, L16_lt fun _ _ => unmix1_lt _ _ _ _⟩
theorem addK_addK {key b : List Nat} (h : Ok16 b) (r : Nat) : addK key (addK key b r) r = b := by
  refine L16_ext h.len fun i hi => ?_
  unfold addK
  rw [L16_at _ hi, Nat.xor_assoc, Nat.xor_self, Nat.xor_zero]
theorem unsub_sub {b : List Nat} (h : Ok16 b) : unsubL (subL b) = b := by
  refine L16_ext h.len fun i hi => ?_
  unfold subL
  rw [L16_at _ (by omega)]
  have e : 4 * (((4 * ((i / 4 + 4 - i % 4) % 4) + i % 4) / 4 + (4 * ((i / 4 + 4 - i % 4) % 4) + i % 4) % 4) % 4) + (4 * ((i / 4 + 4 - i % 4) % 4) + i % 4) % 4 = i := by omega
  rw [e]
  exact (box_back _ (h.at_ i)).1.1
theorem sub_unsub {b : List Nat} (h : Ok16 b) : subL (unsubL b) = b := by
  refine L16_ext h.len fun i hi => ?_
  unfold unsubL
  rw [L16_at _ (by omega)]
  have e : 4 * (((4 * ((i / 4 + i % 4) % 4) + i % 4) / 4 + 4 - (4 * ((i / 4 + i % 4) % 4) + i % 4) % 4) % 4) + (4 * ((i / 4 + i % 4) % 4) + i % 4) % 4 = i := by omega
  rw [e]
  exact (box_back _ (h.at_ i)).1.2
theorem col_at (f : Nat → Nat) {i : Nat} (k : Nat) (hi : i < 16) : (L16 f).getD (i / 4 * 4 + (i + k) % 4) 0 = f (i / 4 * 4 + (i + k) % 4) := L16_at _ (by omega)
theorem turn_mod (i k m : Nat) : (i / 4 * 4 + (i + k) % 4 + m) % 4 = (i + (k + m)) % 4 := by omega
theorem turn_div (i k : Nat) : (i / 4 * 4 + (i + k) % 4) / 4 * 4 = i / 4 * 4 := by omega
theorem turn_four (i : Nat) : i / 4 * 4 + (i + 4) % 4 = i := by omega
theorem unmix_mixL {b : List Nat} (h : Ok16 b) : unmixL (mixL b) = b := by
  refine L16_ext h.len fun i hi => ?_
  unfold mixL
  rw [L16_at _ hi, col_at _ 1 hi, col_at _ 2 hi, col_at _ 3 hi]
  simp only [turn_mod, turn_div, Nat.reduceAdd, turn_four]
  have e5 : i / 4 * 4 + (i + 5) % 4 = i / 4 * 4 + (i + 1) % 4 := by omega
  have e6 : i / 4 * 4 + (i + 6) % 4 = i / 4 * 4 + (i + 2) % 4 := by omega
  rw [e5, e6]
  exact unmix_mix (h.at_ _) (h.at_ _) (h.at_ _) (h.at_ _)
theorem mix_unmixL {b : List Nat} (h : Ok16 b) : mixL (unmixL b) = b := by
  refine L16_ext h.len fun i hi => ?_
  unfold unmixL
  rw [L16_at _ hi, col_at _ 1 hi, col_at _ 2 hi, col_at _ 3 hi]
  simp only [turn_mod, turn_div, Nat.reduceAdd, turn_four]
  have e5 : i / 4 * 4 + (i + 5) % 4 = i / 4 * 4 + (i + 1) % 4 := by omega
  have e6 : i / 4 * 4 + (i + 6) % 4 = i / 4 * 4 + (i + 2) % 4 := by omega
  rw [e5, e6]
  exact mix_unmix (h.at_ _) (h.at_ _) (h.at_ _) (h.at_ _)

/-- A round, and what undoes it. -/
def roundA (key b : List Nat) (r : Nat) : List Nat := addK key (if r < 10 then mixL (subL b) else subL b) r
def undoA (key b : List Nat) (r : Nat) : List Nat := unsubL (if r < 10 then unmixL (addK key b r) else addK key b r)
theorem roundA_ok {key : List Nat} (hk : ∀ x ∈ key, x < 256) (b : List Nat) (r : Nat) : Ok16 (roundA key b r) := by
  unfold roundA
  refine addK_ok hk ?_ r
  split
  · exact mixL_ok (subL_ok b)
  · exact subL_ok b
theorem undo_round {key b : List Nat} (h : Ok16 b) (r : Nat) : undoA key (roundA key b r) r = b := by
  unfold undoA roundA
  split
  · rw [addK_addK (mixL_ok (subL_ok b)), unmix_mixL (subL_ok b), unsub_sub h]
  · rw [addK_addK (subL_ok b), unsub_sub h]
theorem round_undo {key b : List Nat} (hk : ∀ x ∈ key, x < 256) (h : Ok16 b) (r : Nat) : roundA key (undoA key b r) r = b := by
  have ha := addK_ok hk h r
  unfold undoA roundA
  split
  · rw [sub_unsub (unmixL_ok _), mix_unmixL ha, addK_addK h]
  · rw [sub_unsub ha, addK_addK h]
/-- The state behind round r. -/
def encTo (key b : List Nat) : Nat → List Nat
  | 0 => addK key b 0
  | r + 1 => roundA key (encTo key b r) (r + 1)
def encN (key b : List Nat) : List Nat := encTo key b 10
/-- The state ahead of the last k rounds, undone. -/
def decTo (key b : List Nat) : Nat → List Nat
  | 0 => b
  | k + 1 => undoA key (decTo key b k) (10 - k)
def decN (key b : List Nat) : List Nat := addK key (decTo key b 10) 0
theorem encTo_ok {key b : List Nat} (hk : ∀ x ∈ key, x < 256) (h : Ok16 b) (r : Nat) : Ok16 (encTo key b r) := by
  cases r with
  | zero => exact addK_ok hk h 0
  | succ r => exact roundA_ok hk _ _
theorem decTo_ok {key b : List Nat} (h : Ok16 b) (k : Nat) : Ok16 (decTo key b k) := by
  cases k with
  | zero => exact h
  | succ k => exact unsubL_ok _
theorem encN_ok {key b : List Nat} (hk : ∀ x ∈ key, x < 256) (h : Ok16 b) : Ok16 (encN key b) := encTo_ok hk h 10
theorem decN_ok {key b : List Nat} (hk : ∀ x ∈ key, x < 256) (h : Ok16 b) : Ok16 (decN key b) := addK_ok hk (decTo_ok h 10) 0
theorem dec_enc {key b : List Nat} (hk : ∀ x ∈ key, x < 256) (h : Ok16 b) : decN key (encN key b) = b := by
  have key' : ∀ k, k ≤ 10 → decTo key (encN key b) k = encTo key b (10 - k) := by
    intro k
    induction k with
    | zero => intro _; rfl
    | succ k ih =>
      intro hk10
      have e : 10 - k = (10 - (k + 1)) + 1 := by omega
      simp only [decTo]
      rw [ih (by omega), e, encTo, undo_round (encTo_ok hk h _)]
  unfold decN
  rw [key' 10 (Nat.le_refl _)]
  exact addK_addK h 0
theorem enc_dec {key b : List Nat} (hk : ∀ x ∈ key, x < 256) (h : Ok16 b) : encN key (decN key b) = b := by
  have key' : ∀ r, r ≤ 10 → encTo key (decN key b) r = decTo key b (10 - r) := by
    intro r
    induction r with
    | zero => intro _; exact addK_addK (decTo_ok h 10) 0
    | succ r ih =>
      intro hr
      have e : 10 - r = (10 - (r + 1)) + 1 := by omega
      simp only [encTo]
      rw [ih (by omega), e, decTo, show 10 - (10 - (r + 1)) = r + 1 by omega, round_undo hk (decTo_ok h _)]
  exact key' 10 (Nat.le_refl _)
theorem enc_inj {key a b : List Nat} (hk : ∀ x ∈ key, x < 256) (ha : Ok16 a) (hb : Ok16 b) : encN key a = encN key b ↔ a = b :=
  ⟨fun h => by rw [← dec_enc hk ha, h, dec_enc hk hb], fun h => by rw [h]⟩
theorem dec_inj {key a b : List Nat} (hk : ∀ x ∈ key, x < 256) (ha : Ok16 a) (hb : Ok16 b) : decN key a = decN key b ↔ a = b :=
  ⟨fun h => by rw [← enc_dec hk ha, h, enc_dec hk hb], fun h => by rw [h]⟩
theorem enc_example : encN [0, 1, 2, 3, 4, 5, 6, 7, 8, 9, 10, 11, 12, 13, 14, 15] [0, 17, 34, 51, 68, 85, 102, 119, 136, 153, 170, 187, 204, 221, 238, 255] =
    [105, 196, 224, 216, 106, 123, 4, 48, 216, 205, 183, 128, 112, 180, 197, 90] := by decide +kernel

end Go.Proofs.YtanpfodmmeagaaaDoor

namespace Go.Proofs.YtanpfodmmeagaaaDoor

def valB (l : List Nat) : Nat := l.foldl (fun a x => a * 256 + x) 0
theorem valB_snoc (l : List Nat) (x : Nat) : valB (l ++ [x]) = valB l * 256 + x := by simp [valB, List.foldl_append]
theorem valB_at (l : List Nat) (h : ∀ x ∈ l, x < 256) : ∀ i, i < l.length → valB l / 256 ^ (l.length - 1 - i) % 256 = l.getD i 0 := by
  suffices H : ∀ n (l : List Nat), l.length = n → (∀ x ∈ l, x < 256) → ∀ i, i < l.length → valB l / 256 ^ (l.length - 1 - i) % 256 = l.getD i 0 from H _ l rfl h
  intro n
  induction n with
  | zero => intro l hl _ i hi; omega
  | succ n ih =>
    intro l hl h i hi
    rcases List.eq_nil_or_concat l with rfl | ⟨L, b, hLb0⟩
    · cases hl
    · rw [List.concat_eq_append] at hLb0
      subst hLb0
      have hL : L.length = n := by simpa using hl
      have hb : b < 256 := h b (by simp)
      have hLb : ∀ x ∈ L, x < 256 := fun x hx => h x (by simp [hx])
      rw [valB_snoc]
      rw [List.length_append, List.length_singleton] at hi ⊢
      rcases Nat.lt_or_ge i L.length with h1 | h1
      · have e : L.length + 1 - 1 - i = (L.length - 1 - i) + 1 := by omega
        rw [e, Nat.pow_succ, Nat.mul_comm (256 ^ _) 256, ← Nat.div_div_eq_div_mul, show (valB L * 256 + b) / 256 = valB L by omega, ih L hL hLb i h1]
        simp [List.getD_eq_getElem?_getD, List.getElem?_append_left h1]
      · have e : i = L.length := by omega
        subst e
        rw [show L.length + 1 - 1 - L.length = 0 by omega, Nat.pow_zero, Nat.div_one]
        simp [List.getD_eq_getElem?_getD]
        omega
/-- A number as 16 bytes, the greatest first, modulo 2^128. -/
def be16 (n : Nat) : List Nat := L16 fun i => n / 256 ^ (15 - i) % 256
theorem be16_ok (n : Nat) : Ok16 (be16 n) := ⟨L16_len _, L16_lt fun i _ => Nat.mod_lt _ (by decide)⟩
theorem be16_val {l : List Nat} (h : Ok16 l) : be16 (valB l) = l := L16_ext h.len fun i hi => by
  have := valB_at l h.lt i (by rw [h.len]; exact hi)
  rw [h.len] at this
  exact this
theorem L16_eq {f g : Nat → Nat} (h : ∀ i, i < 16 → f i = g i) : L16 f = L16 g := by
  unfold L16
  apply List.map_congr_left
  intro i hi
  exact h i (List.mem_range.1 hi)
theorem be16_mod (n : Nat) : be16 (n % 2 ^ 128) = be16 n := L16_eq fun i hi => by
  have e : 2 ^ 128 = 256 ^ (15 - i) * (256 * 256 ^ i) := by
    rw [← Nat.mul_assoc, ← Nat.pow_succ, ← Nat.pow_add, show 15 - i + 1 + i = 16 by omega]
  rw [e, Nat.mod_mul_right_div_self, Nat.mod_mul_right_mod]
theorem val_digits (n : Nat) : ∀ k, k ≤ 16 → valB ((List.range k).map fun i => n / 256 ^ (15 - i) % 256) = n / 256 ^ (16 - k) % 256 ^ k := by
  intro k
  induction k with
  | zero => intro _; simp [valB, Nat.mod_one]
  | succ k ih =>
    intro hk
    rw [List.range_succ, List.map_append, List.map_cons, List.map_nil, valB_snoc, ih (by omega), show 16 - k = (15 - k) + 1 by omega, Nat.pow_succ 256 (15 - k), ← Nat.div_div_eq_div_mul, show 16 - (k + 1) = 15 - k by omega, Nat.pow_succ 256 k, Nat.mul_comm (256 ^ k) 256, Nat.mod_mul]
    omega
theorem val_be16 (n : Nat) : valB (be16 n) = n % 2 ^ 128 := by
  have h := val_digits n 16 (Nat.le_refl _)
  rw [Nat.sub_self, Nat.pow_zero, Nat.div_one] at h
  exact h
/-- The counter that is n further on. -/
def ctrAdd (c : List Nat) (n : Nat) : List Nat := be16 (valB c + n)
theorem ctrAdd_ok (c : List Nat) (n : Nat) : Ok16 (ctrAdd c n) := be16_ok _
theorem ctrAdd_zero {c : List Nat} (h : Ok16 c) : ctrAdd c 0 = c := be16_val h
theorem ctrAdd_add (c : List Nat) (a b : Nat) : ctrAdd (ctrAdd c a) b = ctrAdd c (a + b) := by
  unfold ctrAdd
  rw [val_be16, ← be16_mod (valB c + (a + b)), ← be16_mod ((valB c + a) % 2 ^ 128 + b), Nat.mod_add_mod, Nat.add_assoc]
/-- On the way to the next counter: the last j bytes are the next one's. -/
def ctrTo (v j : Nat) : List Nat := L16 fun i => if 16 - j ≤ i then (v + 1) / 256 ^ (15 - i) % 256 else v / 256 ^ (15 - i) % 256
def carryN (v j : Nat) : Nat := (v + 1) / 256 ^ j - v / 256 ^ j
theorem ctrTo_zero (v : Nat) : ctrTo v 0 = be16 v := L16_eq fun i hi => by rw [if_neg (by omega)]
theorem ctrTo_full (v : Nat) : ctrTo v 16 = be16 (v + 1) := L16_eq fun i _ => by rw [if_pos (by omega)]
theorem ctrTo_len (v j : Nat) : (ctrTo v j).length = 16 := L16_len _
theorem ctrTo_at (v j i : Nat) (hi : i < 16) : (ctrTo v j).getD i 0 = if 16 - j ≤ i then (v + 1) / 256 ^ (15 - i) % 256 else v / 256 ^ (15 - i) % 256 := L16_at _ hi
theorem ctrTo_lt (v j : Nat) : ∀ x ∈ ctrTo v j, x < 256 := L16_lt fun i _ => by split <;> exact Nat.mod_lt _ (by decide)
theorem div_next (v p : Nat) : (v + 1) / p = v / p ∨ (v + 1) / p = v / p + 1 := by
  rw [Nat.succ_div]
  split
  · exact Or.inr rfl
  · exact Or.inl rfl
theorem carry_next (v j : Nat) : (v / 256 ^ j % 256 + carryN v j) % 256 = (v + 1) / 256 ^ j % 256 ∧ (v / 256 ^ j % 256 + carryN v j) / 256 = carryN v (j + 1) ∧ carryN v j ≤ 1 := by
  have hd := div_next v (256 ^ j)
  unfold carryN
  rw [Nat.pow_succ, ← Nat.div_div_eq_div_mul, ← Nat.div_div_eq_div_mul]
  omega
theorem carry_zero (v : Nat) : carryN v 0 = 1 := by unfold carryN; simp
theorem ctrTo_next (v j : Nat) (hj : j < 16) : (ctrTo v j).set (15 - j) ((v / 256 ^ j % 256 + carryN v j) % 256) = ctrTo v (j + 1) := by
  rw [(carry_next v j).1]
  apply List.ext_getElem
  · rw [List.length_set, ctrTo_len, ctrTo_len]
  · intro i h1 h2
    have hi : i < 16 := by rw [ctrTo_len] at h2; exact h2
    rw [List.getElem_set]
    simp only [ctrTo, L16, List.getElem_map, List.getElem_range]
    by_cases e : 15 - j = i
    · rw [if_pos e, if_pos (by omega), show 15 - i = j by omega]
    · rw [if_neg e]
      by_cases hlt : 16 - j ≤ i
      · rw [if_pos hlt, if_pos (by omega)]
      · rw [if_neg hlt, if_neg (by omega)]

theorem carry_one {v j : Nat} (h : (v + 1) % 256 ^ j = 0) : carryN v j = 1 := by
  unfold carryN
  rw [Nat.succ_div_of_dvd (Nat.dvd_of_mod_eq_zero h)]
  omega
theorem carry_stop {v j : Nat} (hj : j < 16) (h : carryN v (j + 1) = 0) : ctrTo v (j + 1) = be16 (v + 1) := L16_eq fun i hi => by
  split
  · rfl
  · have hd := div_next v (256 ^ (j + 1))
    have he : (v + 1) / 256 ^ (j + 1) = v / 256 ^ (j + 1) := by unfold carryN at h; omega
    have hs : 256 ^ (15 - i) = 256 ^ (j + 1) * 256 ^ (15 - i - (j + 1)) := by rw [← Nat.pow_add]; congr 1; omega
    rw [hs, ← Nat.div_div_eq_div_mul, ← Nat.div_div_eq_div_mul, he]
theorem carry_more {v j : Nat} (h : (v + 1) % 256 ^ j = 0) (ho : v / 256 ^ j % 256 = 255) : (v + 1) % 256 ^ (j + 1) = 0 := by
  have h1 := (carry_next v j).1
  rw [ho, carry_one h] at h1
  rw [Nat.pow_succ, Nat.mod_mul, h, ← h1, show (255 + 1) % 256 = 0 from rfl, Nat.mul_zero]
theorem carry_last {v j : Nat} (h : (v + 1) % 256 ^ j = 0) (ho : v / 256 ^ j % 256 ≠ 255) : carryN v (j + 1) = 0 := by
  have h1 := (carry_next v j).2.1
  rw [carry_one h] at h1
  have := Nat.mod_lt (v / 256 ^ j) (show 0 < 256 by decide)
  omega

/-- A text with the stream added. -/
def maskN (key c : List Nat) (i : Nat) : Nat := (encN key (ctrAdd c (i / 16))).getD (i % 16) 0
def applyN (key c text : List Nat) : List Nat := (List.range text.length).map fun i => text.getD i 0 ^^^ maskN key c i
theorem applyN_len (key c text : List Nat) : (applyN key c text).length = text.length := by simp [applyN]
theorem applyN_at (key c text : List Nat) (i : Nat) (h : i < text.length) : (applyN key c text).getD i 0 = text.getD i 0 ^^^ maskN key c i := by
  rw [List.getD_eq_getElem?_getD, List.getElem?_eq_getElem (by rw [applyN_len]; exact h), Option.getD_some]
  simp [applyN]
theorem maskN_lt {key : List Nat} (hk : ∀ x ∈ key, x < 256) (c : List Nat) (i : Nat) : maskN key c i < 256 := (encN_ok hk (ctrAdd_ok c _)).at_ _
theorem applyN_lt {key : List Nat} (hk : ∀ x ∈ key, x < 256) (c : List Nat) {text : List Nat} (ht : ∀ x ∈ text, x < 256) : ∀ x ∈ applyN key c text, x < 256 := by
  intro x hx
  obtain ⟨i, _, rfl⟩ := List.mem_map.1 hx
  exact xor_lt8 (getD_lt' (by decide) ht i) (maskN_lt hk c i)
theorem list_ext_getD {a b : List Nat} (hl : a.length = b.length) (h : ∀ i, i < a.length → a.getD i 0 = b.getD i 0) : a = b := by
  apply List.ext_getElem hl
  intro i h1 h2
  have := h i h1
  simpa [List.getD_eq_getElem?_getD, h1, h2] using this
theorem applyN_back (key c text : List Nat) : applyN key c (applyN key c text) = text := by
  refine list_ext_getD (by rw [applyN_len, applyN_len]) fun i hi => ?_
  rw [applyN_len, applyN_len] at hi
  rw [applyN_at _ _ _ _ (by rw [applyN_len]; exact hi), applyN_at _ _ _ _ hi, Nat.xor_assoc, Nat.xor_self, Nat.xor_zero]
theorem getD_take (l : List Nat) (k i : Nat) (h : i < k) : (l.take k).getD i 0 = l.getD i 0 := by
  simp [List.getD_eq_getElem?_getD, h]
theorem getD_drop (l : List Nat) (k i : Nat) : (l.drop k).getD i 0 = l.getD (k + i) 0 := by
  simp [List.getD_eq_getElem?_getD, List.getElem?_drop]
theorem applyN_take (key c text : List Nat) (k : Nat) : applyN key c (text.take k) = (applyN key c text).take k := by
  refine list_ext_getD (by rw [applyN_len, List.length_take, List.length_take, applyN_len]) fun i hi => ?_
  rw [applyN_len, List.length_take] at hi
  rw [applyN_at _ _ _ _ (by rw [List.length_take]; exact hi), getD_take _ _ _ (by omega), getD_take _ _ _ (by omega), applyN_at _ _ _ _ (by omega)]
/-- A part of up to 16 bytes, from a whole number of blocks on. -/
theorem applyN_part (key c text : List Nat) (m : Nat) : applyN key (ctrAdd c m) ((text.drop (16 * m)).take 16) = ((applyN key c text).drop (16 * m)).take 16 := by
  refine list_ext_getD (by rw [applyN_len, List.length_take, List.length_take, List.length_drop, List.length_drop, applyN_len]) fun i hi => ?_
  rw [applyN_len, List.length_take, List.length_drop] at hi
  rw [applyN_at _ _ _ _ (by rw [List.length_take, List.length_drop]; exact hi), getD_take _ _ _ (by omega), getD_take _ _ _ (by omega), getD_drop, getD_drop, applyN_at _ _ _ _ (by omega)]
  unfold maskN
  rw [ctrAdd_add, show m + i / 16 = (16 * m + i) / 16 by omega, show i % 16 = (16 * m + i) % 16 by omega]
theorem take_step (l : List Nat) (m : Nat) : l.take (16 * m) ++ (l.drop (16 * m)).take 16 = l.take (16 * (m + 1)) := by
  rw [← List.take_add]; rfl
theorem maskN_step (key c : List Nat) (m k : Nat) (h : k < 16) : (encN key (ctrAdd c m)).getD k 0 = maskN key c (16 * m + k) := by
  unfold maskN
  rw [show (16 * m + k) / 16 = m by omega, show (16 * m + k) % 16 = k by omega]
theorem applyN_next (key c text : List Nat) (i : Nat) (h : i < text.length) : (applyN key c text).take (i + 1) = (applyN key c text).take i ++ [text.getD i 0 ^^^ maskN key c i] := by
  rw [List.take_succ_eq_append_getElem (by rw [applyN_len]; exact h)]
  simp [applyN]
/-- The counter of a slot's version. -/
def counterN (a b : List Nat) : List Nat := a.drop 4 ++ b ++ [0, 0, 0, 0]

end Go.Proofs.YtanpfodmmeagaaaDoor

namespace Go.Proofs.YtanpfodmmeagaaaDoor
open Go.RowKit

def counterOf (s v : Int) : List Nat := counterN (eightN s) (eightN v)
structure StrSpec (w0 : World) : Prop where
  apply : ∀ (A0 A1 A2 : Option Addr) (c0 c1 c2 : Nat) (key ctr text : List Nat) (w : World), Below w0.heap.size w0 w → Ints w w.heap.size .u8 A0 (up key) → Ints w w.heap.size .u8 A1 (up ctr) → Ints w w.heap.size .u8 A2 (up text) → (A2 = none → c2 = 0) →
    (∀ x ∈ key, x < 256) → (∀ x ∈ ctr, x < 256) → (∀ x ∈ text, x < 256) → key.length = 16 → ctr.length = 16 → 16 ≤ c0 → 16 ≤ c1 → text.length ≤ c2 → text.length ≤ 1048576 →
    Calls Tryd.prog 21 #[.slice A0 16 c0, .slice A1 16 c1, .slice A2 text.length c2] w fun e w' => ∃ A c, e = .returned (.tuple #[.slice A text.length c, .int .i64 0]) ∧ text.length ≤ c ∧ (A = none → c = 0) ∧ Ints w' w'.heap.size .u8 A (up (applyN key ctr text)) ∧ Below w.heap.size w w'
  applyArg : ∀ (A0 A1 A2 : Option Addr) (c0 c1 c2 : Nat) (key ctr text : List Nat) (w : World), Below w0.heap.size w0 w → Ints w w.heap.size .u8 A0 (up key) → Ints w w.heap.size .u8 A1 (up ctr) → Ints w w.heap.size .u8 A2 (up text) →
    (∀ x ∈ key, x < 256) → (∀ x ∈ ctr, x < 256) → ¬ (key.length = 16 ∧ ctr.length = 16) → key.length ≤ c0 → ctr.length ≤ c1 → text.length ≤ c2 → key.length ≤ 140737488355328 → ctr.length ≤ 140737488355328 → text.length ≤ 140737488355328 →
    Calls Tryd.prog 21 #[.slice A0 key.length c0, .slice A1 ctr.length c1, .slice A2 text.length c2] w fun e w' => ∃ A c, e = .returned (.tuple #[.slice A 0 c, .int .i64 1]) ∧ Below w.heap.size w w'
  applyLong : ∀ (A0 A1 A2 : Option Addr) (c0 c1 c2 : Nat) (key ctr text : List Nat) (w : World), Below w0.heap.size w0 w → Ints w w.heap.size .u8 A0 (up key) → Ints w w.heap.size .u8 A1 (up ctr) → Ints w w.heap.size .u8 A2 (up text) →
    (∀ x ∈ key, x < 256) → (∀ x ∈ ctr, x < 256) → key.length = 16 → ctr.length = 16 → 16 ≤ c0 → 16 ≤ c1 → text.length ≤ c2 → 1048576 < text.length → text.length ≤ 140737488355328 →
    Calls Tryd.prog 21 #[.slice A0 16 c0, .slice A1 16 c1, .slice A2 text.length c2] w fun e w' => ∃ A c, e = .returned (.tuple #[.slice A 0 c, .int .i64 7]) ∧ Below w.heap.size w w'
  counter : ∀ (s v : Int) (w : World), Below w0.heap.size w0 w → -9223372036854775808 ≤ s → s ≤ 9223372036854775807 → -9223372036854775808 ≤ v → v ≤ 9223372036854775807 →
    Calls Tryd.prog 22 #[.int .i64 s, .int .i64 v] w fun e w' => ∃ g o c, e = .returned (.slice (some ⟨g, o, none⟩) 16 c) ∧ 16 ≤ c ∧ w.heap.size ≤ g ∧ Ints w' w'.heap.size .u8 (some ⟨g, o, none⟩) (up (counterOf s v)) ∧ (∀ i, i < 16 → w'.frozen? ⟨g, o + i, none⟩ = false) ∧ Below w.heap.size w w'
theorem made_zeros {w : World} {base e n : Nat} {v : Value} (h : w.ownsRow base e 1 v n (madeCells (Value.int .u8 0).cells (n * 1)).toList) : w.ownsRow base e 1 v n ((up (List.replicate n 0)).map (Value.int .u8)) := by
  have hm : (madeCells (Value.int .u8 0).cells (n * 1)).toList = (up (List.replicate n 0)).map (Value.int .u8) := by
    rw [Nat.mul_one, show (Value.int .u8 0).cells = #[Value.int .u8 0] from rfl, toList_madeCells_one]
    simp [up]
  rw [← hm]; exact h
theorem Tryd.infoU8s : (Tryd.prog.info? 5).map (fun i => (i.zero, i.size, i.bytes)) = some (some (.int .u8 0), 1, 1) := by kernel_rfl
theorem made_ints {w : World} {base e n c : Nat} {A : Option Addr} (h : w.ownsRow base e 1 (.slice A n c) n (madeCells (Value.int .u8 0).cells (n * 1)).toList) : Ints w w.heap.size .u8 A (up (List.replicate n 0)) := by
  have h1 := made_zeros h
  refine Ints.of_own (n := n) (c := c) (base := base) (t := e) ?_
  rw [up_len, List.length_replicate]
  exact h1

end Go.Proofs.YtanpfodmmeagaaaDoor
