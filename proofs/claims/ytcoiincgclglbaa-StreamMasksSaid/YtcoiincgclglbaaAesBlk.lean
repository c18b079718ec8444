/-
  Plain arithmetic of blocks: round keys, a block enciphered and deciphered, there and back. No program is spoken of here.
-/
import Derived.Test.YtcoiincgclglbaaAesNums
namespace Go.Proofs.Ytcoiincgclglbaa

def xpow : Nat → Nat
  | 0 => 1
  | n + 1 => timesN (xpow n) 2
/-- The next byte of the round keys. -/
def kbNext (w : List Nat) (j : Nat) : Nat :=
  w.getD (j - 16) 0 ^^^ (if j % 16 < 4 then (if j % 4 = 0 then sbox.getD (w.getD (j - 3) 0) 0 ^^^ xpow (j / 16 - 1) else sbox.getD (w.getD (j / 4 * 4 - 4 + (j + 1) % 4) 0) 0) else w.getD (j - 4) 0)
/-- The first bytes of the round keys. -/
def kbTo (key : List Nat) : Nat → List Nat
  | 0 => []
  | j + 1 => kbTo key j ++ [if j < 16 then key.getD j 0 else kbNext (kbTo key j) j]
def kbN (key : List Nat) : List Nat := kbTo key 176
theorem kbTo_len (key : List Nat) (j : Nat) : (kbTo key j).length = j := by
  induction j with
  | zero => rfl
  | succ j ih => simp [kbTo, ih]
theorem getD_lt' {l : List Nat} {m : Nat} (hm : 0 < m) (h : ∀ x ∈ l, x < m) (i : Nat) : l.getD i 0 < m := by
  rcases Nat.lt_or_ge i l.length with g | g
  · rw [List.getD_eq_getElem?_getD, List.getElem?_eq_getElem g]
    exact h _ (List.getElem_mem g)
  · simp [List.getD, g, hm]
theorem xor_lt8 {a b : Nat} (ha : a < 256) (hb : b < 256) : a ^^^ b < 256 := Nat.xor_lt_two_pow (n := 8) ha hb
theorem xpow_lt (n : Nat) : xpow n < 256 := by
  cases n with
  | zero => decide
  | succ n => exact timesN_lt _ _
theorem sbox_lt (b : Nat) : sbox.getD b 0 < 256 := getD_lt' (by decide) (by decide +kernel) b
theorem ibox_lt (b : Nat) : ibox.getD b 0 < 256 := getD_lt' (by decide) (by decide +kernel) b
theorem kbTo_lt {key : List Nat} (hk : ∀ x ∈ key, x < 256) (j : Nat) : ∀ x ∈ kbTo key j, x < 256 := by
  induction j with
  | zero => intro x hx; cases hx
  | succ j ih =>
    intro x hx
    rcases List.mem_append.1 hx with hx | hx
    · exact ih x hx
    · rw [List.mem_singleton] at hx
      subst hx
      have hg := getD_lt' (by decide) ih
      split
      · exact getD_lt' (by decide) hk j
      · unfold kbNext
        refine xor_lt8 (hg _) ?_
        split
        · split
          · exact xor_lt8 (sbox_lt _) (xpow_lt _)
          · exact sbox_lt _
        · exact hg _

/-- A list of 16 bytes, by its entries. -/
def L16 (f : Nat → Nat) : List Nat := (List.range 16).map f
theorem L16_len (f : Nat → Nat) : (L16 f).length = 16 := by simp [L16]
theorem L16_at (f : Nat → Nat) {i : Nat} (h : i < 16) : (L16 f).getD i 0 = f i := by
  rw [List.getD_eq_getElem?_getD, List.getElem?_eq_getElem (by rw [L16_len]; exact h)]
  simp [L16]
theorem L16_ext {b : List Nat} (hb : b.length = 16) {f : Nat → Nat} (h : ∀ i, i < 16 → f i = b.getD i 0) : L16 f = b := by
  apply List.ext_getElem
  · rw [L16_len, hb]
  · intro i h1 h2
    have := h i (by omega)
    rw [List.getD_eq_getElem?_getD, List.getElem?_eq_getElem h2, Option.getD_some] at this
    simp [L16, this]
theorem L16_lt {f : Nat → Nat} (h : ∀ i, i < 16 → f i < 256) : ∀ x ∈ L16 f, x < 256 := by
  intro x hx
  obtain ⟨i, hi, rfl⟩ := List.mem_map.1 hx
  exact h i (List.mem_range.1 hi)
structure Ok16 (b : List Nat) : Prop where
  len : b.length = 16
  lt : ∀ x ∈ b, x < 256
theorem Ok16.at_ {b : List Nat} (h : Ok16 b) (i : Nat) : b.getD i 0 < 256 := getD_lt' (by decide) h.lt i

def addK (key b : List Nat) (r : Nat) : List Nat := L16 fun i => b.getD i 0 ^^^ (kbN key).getD (16 * r + i) 0
def subL (b : List Nat) : List Nat := L16 fun i => sbox.getD (b.getD (4 * ((i / 4 + i % 4) % 4) + i % 4) 0) 0
def unsubL (b : List Nat) : List Nat := L16 fun i => ibox.getD (b.getD (4 * ((i / 4 + 4 - i % 4) % 4) + i % 4) 0) 0
def mixL (b : List Nat) : List Nat := L16 fun i => mix1 (b.getD i 0) (b.getD (i / 4 * 4 + (i + 1) % 4) 0) (b.getD (i / 4 * 4 + (i + 2) % 4) 0) (b.getD (i / 4 * 4 + (i + 3) % 4) 0)
def unmixL (b : List Nat) : List Nat := L16 fun i => unmix1 (b.getD i 0) (b.getD (i / 4 * 4 + (i + 1) % 4) 0) (b.getD (i / 4 * 4 + (i + 2) % 4) 0) (b.getD (i / 4 * 4 + (i + 3) % 4) 0)
theorem addK_ok {key b : List Nat} (hk : ∀ x ∈ key, x < 256) (h : Ok16 b) (r : Nat) : Ok16 (addK key b r) :=
  ⟨L16_len _, L16_lt fun i _ => xor_lt8 (h.at_ i) (getD_lt' (by decide) (kbTo_lt hk 176) _)⟩
theorem subL_ok (b : List Nat) : Ok16 (subL b) := ⟨L16_len _, L16_lt fun _ _ => sbox_lt _⟩
theorem unsubL_ok (b : List Nat) : Ok16 (unsubL b) := ⟨L16_len _, L16_lt fun _ _ => ibox_lt _⟩
theorem mixL_ok {b : List Nat} (h : Ok16 b) : Ok16 (mixL b) := ⟨L16_len _, L16_lt fun _ _ => mix1_lt (h.at_ _) (h.at_ _)⟩
theorem unmixL_ok (b : List Nat) : Ok16 (unmixL b) := ⟨L16_len _, L16_lt fun _ _ => unmix1_lt _ _ _ _⟩
theorem addK_addK {key b : List Nat} (h : Ok16 b) (r : Nat) : addK key (addK key b r) r = b := by
  refine L16_ext h.len fun i hi => ?_
  unfold addK
  rw [L16_at _ hi, Nat.xor_assoc, Nat.xor_self, Nat.xor_zero]
theorem unsub_sub {b : List Nat} (h : Ok16 b) : unsubL (subL b) = b := by
  refine L16_ext h.len fun i hi => ?_
  unfold subL
  rw [L16_at _ (by omega)]
  have e : 4 * (((4 * ((i / 4 + 4 - i % 4) % 4) + i % 4) / 4 + (4 * ((i / 4 + 4 - i % 4) % 4) + i % 4) % 4) % 4) + (4 * ((i / 4 + 4 - i % 4) % 4) + i % 4) % 4 = i := by omega
  rw [e]
  exact (box_back _ (h.at_ i)).1.1
theorem sub_unsub {b : List Nat} (h : Ok16 b) : subL (unsubL b) = b := by
  refine L16_ext h.len fun i hi => ?_
  unfold unsubL
  rw [L16_at _ (by omega)]
  have e : 4 * (((4 * ((i / 4 + i % 4) % 4) + i % 4) / 4 + 4 - (4 * ((i / 4 + i % 4) % 4) + i % 4) % 4) % 4) + (4 * ((i / 4 + i % 4) % 4) + i % 4) % 4 = i := by omega
  rw [e]
  exact (box_back _ (h.at_ i)).1.2
theorem col_at (f : Nat → Nat) {i : Nat} (k : Nat) (hi : i < 16) : (L16 f).getD (i / 4 * 4 + (i + k) % 4) 0 = f (i / 4 * 4 + (i + k) % 4) := L16_at _ (by omega)
theorem turn_mod (i k m : Nat) : (i / 4 * 4 + (i + k) % 4 + m) % 4 = (i + (k + m)) % 4 := by omega
theorem turn_div (i k : Nat) : (i / 4 * 4 + (i + k) % 4) / 4 * 4 = i / 4 * 4 := by omega
theorem turn_four (i : Nat) : i / 4 * 4 + (i + 4) % 4 = i := by omega
theorem unmix_mixL {b : List Nat} (h : Ok16 b) : unmixL (mixL b) = b := by
  refine L16_ext h.len fun i hi => ?_
  unfold mixL
  rw [L16_at _ hi, col_at _ 1 hi, col_at _ 2 hi, col_at _ 3 hi]
  simp only [turn_mod, turn_div, Nat.reduceAdd, turn_four]
  have e5 : i / 4 * 4 + (i + 5) % 4 = i / 4 * 4 + (i + 1) % 4 := by omega
  have e6 : i / 4 * 4 + (i + 6) % 4 = i / 4 * 4 + (i + 2) % 4 := by omega
  rw [e5, e6]
  exact unmix_mix (h.at_ _) (h.at_ _) (h.at_ _) (h.at_ _)
theorem mix_unmixL {b : List Nat} (h : Ok16 b) : mixL (unmixL b) = b := by
  refine L16_ext h.len fun i hi => ?_
  unfold unmixL
  rw [L16_at _ hi, col_at _ 1 hi, col_at _ 2 hi, col_at _ 3 hi]
  simp only [turn_mod, turn_div, Nat.reduceAdd, turn_four]
  have e5 : i / 4 * 4 + (i + 5) % 4 = i / 4 * 4 + (i + 1) % 4 := by omega
  have e6 : i / 4 * 4 + (i + 6) % 4 = i / 4 * 4 + (i + 2) % 4 := by omega
  rw [e5, e6]
  exact mix_unmix (h.at_ _) (h.at_ _) (h.at_ _) (h.at_ _)

/-- A round, and what undoes it. -/
def roundA (key b : List Nat) (r : Nat) : List Nat := addK key (if r < 10 then mixL (subL b) else subL b) r
def undoA (key b : List Nat) (r : Nat) : List Nat := unsubL (if r < 10 then unmixL (addK key b r) else addK key b r)
theorem roundA_ok {key : List Nat} (hk : ∀ x ∈ key, x < 256) (b : List Nat) (r : Nat) : Ok16 (roundA key b r) := by
  unfold roundA
  refine addK_ok hk ?_ r
  split
  · exact mixL_ok (subL_ok b)
  · exact subL_ok b
theorem undo_round {key b : List Nat} (h : Ok16 b) (r : Nat) : undoA key (roundA key b r) r = b := by
  unfold undoA roundA
  split
  · rw [addK_addK (mixL_ok (subL_ok b)), unmix_mixL (subL_ok b), unsub_sub h]
  · rw [addK_addK (subL_ok b), unsub_sub h]
theorem round_undo {key b : List Nat} (hk : ∀ x ∈ key, x < 256) (h : Ok16 b) (r : Nat) : roundA key (undoA key b r) r = b := by
  have ha := addK_ok hk h r
  unfold undoA roundA
  split
  · rw [sub_unsub (unmixL_ok _), mix_unmixL ha, addK_addK h]
  · rw [sub_unsub ha, addK_addK h]
/-- The state behind round r. -/
def encTo (key b : List Nat) : Nat → List Nat
  | 0 => addK key b 0
  | r + 1 => roundA key (encTo key b r) (r + 1)
def encN (key b : List Nat) : List Nat := encTo key b 10
/-- The state ahead of the last k rounds, undone. -/
def decTo (key b : List Nat) : Nat → List Nat
  | 0 => b
  | k + 1 => undoA key (decTo key b k) (10 - k)
def decN (key b : List Nat) : List Nat := addK key (decTo key b 10) 0
theorem encTo_ok {key b : List Nat} (hk : ∀ x ∈ key, x < 256) (h : Ok16 b) (r : Nat) : Ok16 (encTo key b r) := by
  cases r with
  | zero => exact addK_ok hk h 0
  | succ r => exact roundA_ok hk _ _
theorem decTo_ok {key b : List Nat} (h : Ok16 b) (k : Nat) : Ok16 (decTo key b k) := by
  cases k with
  | zero => exact h
  | succ k => exact unsubL_ok _
theorem encN_ok {key b : List Nat} (hk : ∀ x ∈ key, x < 256) (h : Ok16 b) : Ok16 (encN key b) := encTo_ok hk h 10
theorem decN_ok {key b : List Nat} (hk : ∀ x ∈ key, x < 256) (h : Ok16 b) : Ok16 (decN key b) := addK_ok hk (decTo_ok h 10) 0
theorem dec_enc {key b : List Nat} (hk : ∀ x ∈ key, x < 256) (h : Ok16 b) : decN key (encN key b) = b := by
  have key' : ∀ k, k ≤ 10 → decTo key (encN key b) k = encTo key b (10 - k) := by
    intro k
    induction k with
    | zero => intro _; rfl
    | succ k ih =>
      intro hk10
      have e : 10 - k = (10 - (k + 1)) + 1 := by omega
      simp only [decTo]
      rw [ih (by omega), e, encTo, undo_round (encTo_ok hk h _)]
  unfold decN
  rw [key' 10 (Nat.le_refl _)]
  exact addK_addK h 0
theorem enc_dec {key b : List Nat} (hk : ∀ x ∈ key, x < 256) (h : Ok16 b) : encN key (decN key b) = b := by
  have key' : ∀ r, r ≤ 10 → encTo key (decN key b) r = decTo key b (10 - r) := by
    intro r
    induction r with
    | zero => intro _; exact addK_addK (decTo_ok h 10) 0
    | succ r ih =>
      intro hr
      have e : 10 - r = (10 - (r + 1)) + 1 := by omega
      simp only [encTo]
      rw [ih (by omega), e, decTo, show 10 - (10 - (r + 1)) = r + 1 by omega, round_undo hk (decTo_ok h _)]
  exact key' 10 (Nat.le_refl _)
theorem enc_inj {key a b : List Nat} (hk : ∀ x ∈ key, x < 256) (ha : Ok16 a) (hb : Ok16 b) : encN key a = encN key b ↔ a = b :=
  ⟨fun h => by rw [← dec_enc hk ha, h, dec_enc hk hb], fun h => by rw [h]⟩
theorem dec_inj {key a b : List Nat} (hk : ∀ x ∈ key, x < 256) (ha : Ok16 a) (hb : Ok16 b) : decN key a = decN key b ↔ a = b :=
  ⟨fun h => by rw [← enc_dec hk ha, h, enc_dec hk hb], fun h => by rw [h]⟩
theorem enc_example : encN [0, 1, 2, 3, 4, 5, 6, 7, 8, 9, 10, 11, 12, 13, 14, 15] [0, 17, 34, 51, 68, 85, 102, 119, 136, 153, 170, 187, 204, 221, 238, 255] =
    [105, 196, 224, 216, 106, 123, 4, 48, 216, 205, 183, 128, 112, 180, 197, 90] := by decide +kernel

end Go.Proofs.Ytcoiincgclglbaa
