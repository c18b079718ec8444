/-
  Plain arithmetic of the check sum's register: a bit's step and a byte's step add up (exclusive or), and lose nothing. No program is spoken of here.
-/
import Derived.WalkKit
namespace Go.Proofs.Ytbmgiekiildaaaa

def crcPoly : Nat := 0xEDB88320
/-- One bit of the register. -/
def bitStep (r : Nat) : Nat := if r % 2 = 1 then r / 2 ^^^ crcPoly else r / 2
theorem bitStep_lt {r : Nat} (h : r < 2 ^ 32) : bitStep r < 2 ^ 32 := by
  unfold bitStep
  split
  · exact Nat.xor_lt_two_pow (by omega) (by decide)
  · omega
theorem xor_mod2 (a b : Nat) : (a ^^^ b) % 2 = (a + b) % 2 := by
  have h := Nat.testBit_xor (x := a) (y := b) (i := 0)
  simp only [Nat.testBit_zero] at h
  have ha := Nat.mod_two_eq_zero_or_one a
  have hb := Nat.mod_two_eq_zero_or_one b
  have hc := Nat.mod_two_eq_zero_or_one (a ^^^ b)
  rcases ha with ha | ha <;> rcases hb with hb | hb <;> rcases hc with hc | hc <;> simp [ha, hb, hc] at h <;> omega
theorem xor_div2 (a b : Nat) : (a ^^^ b) / 2 = a / 2 ^^^ b / 2 := by
  have := Nat.shiftRight_xor_distrib (a := a) (b := b) (i := 1)
  simpa [Nat.shiftRight_eq_div_pow] using this
theorem xor_swap (a b c d : Nat) : (a ^^^ b) ^^^ (c ^^^ d) = (a ^^^ c) ^^^ (b ^^^ d) := by
  rw [Nat.xor_assoc, Nat.xor_assoc, ← Nat.xor_assoc b, Nat.xor_comm b c, Nat.xor_assoc c]
theorem bitStep_xor (a b : Nat) : bitStep (a ^^^ b) = bitStep a ^^^ bitStep b := by
  unfold bitStep
  rw [xor_mod2, xor_div2]
  have ha := Nat.mod_two_eq_zero_or_one a
  have hb := Nat.mod_two_eq_zero_or_one b
  rcases ha with ha | ha <;> rcases hb with hb | hb
  · rw [if_neg (by omega), if_neg (by omega), if_neg (by omega)]
  · rw [if_pos (by omega), if_neg (by omega), if_pos (by omega), Nat.xor_assoc]
  · rw [if_pos (by omega), if_pos (by omega), if_neg (by omega), Nat.xor_assoc, Nat.xor_comm (b / 2), Nat.xor_assoc]
  · rw [if_neg (by omega), if_pos (by omega), if_pos (by omega), xor_swap, Nat.xor_self, Nat.xor_zero]
theorem bitStep_zero : bitStep 0 = 0 := by decide
theorem bitStep_inj0 {r : Nat} (h : r < 2 ^ 32) (h0 : bitStep r = 0) : r = 0 := by
  unfold bitStep at h0
  split at h0
  · have h1 : (r / 2 ^^^ crcPoly) ^^^ crcPoly = crcPoly := by rw [h0, Nat.zero_xor]
    rw [Nat.xor_assoc, Nat.xor_self, Nat.xor_zero] at h1
    unfold crcPoly at h1
    omega
  · omega

def bitsN (n : Nat) (r : Nat) : Nat := n.repeat bitStep r
theorem bitsN_succ (n r : Nat) : bitsN (n + 1) r = bitStep (bitsN n r) := rfl
theorem bitsN_xor (n a b : Nat) : bitsN n (a ^^^ b) = bitsN n a ^^^ bitsN n b := by
  induction n with
  | zero => rfl
  | succ n ih => rw [bitsN_succ, bitsN_succ, bitsN_succ, ih, bitStep_xor]
theorem bitsN_lt {n r : Nat} (h : r < 2 ^ 32) : bitsN n r < 2 ^ 32 := by
  induction n with
  | zero => exact h
  | succ n ih => exact bitStep_lt ih
theorem bitsN_zero (n : Nat) : bitsN n 0 = 0 := by
  induction n with
  | zero => rfl
  | succ n ih => rw [bitsN_succ, ih, bitStep_zero]
theorem bitsN_inj0 {n r : Nat} (h : r < 2 ^ 32) (h0 : bitsN n r = 0) : r = 0 := by
  induction n with
  | zero => exact h0
  | succ n ih => exact ih (bitStep_inj0 (bitsN_lt h) h0)
theorem bitsN_add (m n r : Nat) : bitsN (m + n) r = bitsN m (bitsN n r) := by
  induction m with
  | zero => rw [Nat.zero_add]; rfl
  | succ m ih => rw [Nat.succ_add, bitsN_succ, ih, bitsN_succ]
theorem bitsN_first (n r : Nat) : bitsN (n + 1) r = bitsN n (bitStep r) := bitsN_add n 1 r
/-- Bits that stand high come down. -/
theorem bitsN_down (k x : Nat) : bitsN k (x * 2 ^ k) = x := by
  induction k with
  | zero => simp [bitsN, Nat.repeat]
  | succ k ih =>
    rw [bitsN_first]
    have e : bitStep (x * 2 ^ (k + 1)) = x * 2 ^ k := by
      unfold bitStep
      have h1 : x * 2 ^ (k + 1) = (x * 2 ^ k) * 2 := by rw [Nat.pow_succ, Nat.mul_assoc]
      rw [h1, if_neg (by omega)]
      omega
    rw [e, ih]

/-- One byte of the register. -/
def byteStep (r : Nat) : Nat := bitsN 8 r
theorem byteStep_lt {r : Nat} (h : r < 2 ^ 32) : byteStep r < 2 ^ 32 := bitsN_lt h
theorem byteStep_xor (a b : Nat) : byteStep (a ^^^ b) = byteStep a ^^^ byteStep b := bitsN_xor 8 a b
theorem low_high (r : Nat) : r % 256 ^^^ (r / 256) * 2 ^ 8 = r := by
  apply Nat.eq_of_testBit_eq
  intro i
  rw [Nat.testBit_xor, Nat.testBit_mul_two_pow, show (256 : Nat) = 2 ^ 8 from rfl, Nat.testBit_mod_two_pow, ← Nat.shiftRight_eq_div_pow, Nat.testBit_shiftRight]
  by_cases h : i < 8
  · have h2 : ¬ 8 ≤ i := by omega
    simp [h, h2]
  · have h2 : 8 ≤ i := by omega
    have h3 : 8 + (i - 8) = i := by omega
    simp [h, h2, h3]
/-- By a table of 256 entries. -/
theorem byteStep_table (r : Nat) : byteStep r = byteStep (r % 256) ^^^ r / 256 := by
  have h := byteStep_xor (r % 256) ((r / 256) * 2 ^ 8)
  rw [low_high] at h
  rw [h]
  congr 1
  exact bitsN_down 8 (r / 256)

/-- A register behind bytes. -/
def regs (r : Nat) (l : List Nat) : Nat := l.foldl (fun r b => byteStep (r ^^^ b)) r
theorem regs_append (r : Nat) (a b : List Nat) : regs r (a ++ b) = regs (regs r a) b := by simp [regs, List.foldl_append]
theorem regs_lt {r : Nat} (l : List Nat) (h : r < 2 ^ 32) (hl : ∀ b ∈ l, b < 256) : regs r l < 2 ^ 32 := by
  induction l generalizing r with
  | nil => exact h
  | cons x l ih =>
    refine ih (byteStep_lt (Nat.xor_lt_two_pow h ?_)) fun b hb => hl b (List.mem_cons_of_mem _ hb)
    have := hl x (by simp)
    omega
/-- Registers and bytes add up. -/
theorem regs_xor (r s : Nat) : ∀ (a b : List Nat), a.length = b.length → regs (r ^^^ s) (List.zipWith (· ^^^ ·) a b) = regs r a ^^^ regs s b := by
  intro a
  induction a generalizing r s with
  | nil => intro b hb; have : b = [] := List.eq_nil_of_length_eq_zero (by simpa using hb.symm); subst this; rfl
  | cons x a ih =>
    intro b hb
    cases b with
    | nil => simp at hb
    | cons y b =>
      have e : byteStep ((r ^^^ s) ^^^ (x ^^^ y)) = byteStep (r ^^^ x) ^^^ byteStep (s ^^^ y) := by rw [xor_swap, byteStep_xor]
      show regs (byteStep ((r ^^^ s) ^^^ (x ^^^ y))) _ = regs (byteStep (r ^^^ x)) a ^^^ regs (byteStep (s ^^^ y)) b
      rw [e]
      exact ih _ _ b (by simpa using hb)

/-- All bits turned. -/
def inv32 (r : Nat) : Nat := 4294967295 - r
theorem inv32_lt (r : Nat) : inv32 r < 2 ^ 32 := by unfold inv32; omega
theorem inv32_inv32 {r : Nat} (h : r < 2 ^ 32) : inv32 (inv32 r) = r := by unfold inv32; omega
theorem inv32_xor {r : Nat} (h : r < 2 ^ 32) : inv32 r = r ^^^ 4294967295 := by
  have e : inv32 r = 2 ^ 32 - (r + 1) := by unfold inv32; omega
  apply Nat.eq_of_testBit_eq
  intro i
  rw [e, Nat.testBit_two_pow_sub_succ h, Nat.testBit_xor, show (4294967295 : Nat) = 2 ^ 32 - 1 from rfl, Nat.testBit_two_pow_sub_one]
  by_cases hi : i < 32
  · simp [hi]
  · have : r.testBit i = false := Nat.testBit_lt_two_pow (Nat.lt_of_lt_of_le h (Nat.pow_le_pow_right (by decide) (by omega)))
    simp [hi, this]
/-- The sum of bytes behind a sum. -/
def moreN (s : Nat) (l : List Nat) : Nat := inv32 (regs (inv32 s) l)
theorem moreN_lt (s : Nat) (l : List Nat) : moreN s l < 2 ^ 32 := inv32_lt _
def nb (zs : List Int) : List Nat := zs.map Int.toNat
theorem nb_lt {zs : List Int} (h : ∀ z ∈ zs, 0 ≤ z ∧ z ≤ 255) : ∀ b ∈ nb zs, b < 256 := by
  intro b hb
  obtain ⟨z, hz, rfl⟩ := List.mem_map.1 hb
  have := h z hz
  omega
theorem regs_snoc (r : Nat) (l : List Nat) (x : Nat) : regs r (l ++ [x]) = byteStep (regs r l ^^^ x) := by rw [regs_append]; rfl
theorem moreN_append (s : Nat) (a b : List Nat) (ha : ∀ x ∈ a, x < 256) : moreN (moreN s a) b = moreN s (a ++ b) := by
  unfold moreN
  rw [inv32_inv32 (regs_lt a (inv32_lt s) ha), regs_append]
theorem moreN_nil {s : Nat} (h : s < 2 ^ 32) : moreN s [] = s := inv32_inv32 h
/-- So many bytes 0 behind. -/
def zerosN (s n : Nat) : Nat := moreN s (List.replicate n 0)
theorem zerosN_zero {s : Nat} (h : s < 2 ^ 32) : zerosN s 0 = s := moreN_nil h
theorem zerosN_add (s m n : Nat) : zerosN (zerosN s m) n = zerosN s (m + n) := by
  unfold zerosN
  rw [moreN_append _ _ _ (by intro x hx; have := (List.mem_replicate.1 hx).2; omega), List.replicate_append_replicate]
theorem regs_zeros (r n : Nat) : regs r (List.replicate n 0) = bitsN (8 * n) r := by
  induction n generalizing r with
  | zero => rfl
  | succ n ih =>
    rw [List.replicate_succ]
    show regs (byteStep (r ^^^ 0)) _ = _
    rw [ih, Nat.xor_zero, show 8 * (n + 1) = 8 * n + 8 by omega, bitsN_add]
    rfl
theorem zipZeros (b : List Nat) : List.zipWith (· ^^^ ·) (List.replicate b.length 0) b = b := by
  induction b with
  | nil => rfl
  | cons x b ih => rw [List.length_cons, List.replicate_succ, List.zipWith_cons_cons, ih, Nat.zero_xor]
/-- Sums that are joined. -/
def joinN (a b n : Nat) : Nat := zerosN a n ^^^ zerosN 0 n ^^^ b
theorem regs_split (r s : Nat) (b : List Nat) : regs (r ^^^ s) b = bitsN (8 * b.length) r ^^^ regs s b := by
  have h := regs_xor r s (List.replicate b.length 0) b (by simp)
  rw [zipZeros, regs_zeros] at h
  exact h
theorem xor_cancel (a b : Nat) : a ^^^ b ^^^ b = a := by rw [Nat.xor_assoc, Nat.xor_self, Nat.xor_zero]
theorem zerosN_xor (s n : Nat) (h : s < 2 ^ 32) : zerosN s n = bitsN (8 * n) s ^^^ bitsN (8 * n) 4294967295 ^^^ 4294967295 := by
  unfold zerosN moreN
  rw [regs_zeros, inv32_xor (bitsN_lt (inv32_lt s)), inv32_xor h, bitsN_xor]
theorem moreN_xor (s : Nat) (l : List Nat) (h : s < 2 ^ 32) (hl : ∀ b ∈ l, b < 256) : moreN s l = bitsN (8 * l.length) s ^^^ regs 4294967295 l ^^^ 4294967295 := by
  unfold moreN
  rw [inv32_xor (regs_lt l (inv32_lt s) hl), inv32_xor h, regs_split]
/-- The sum of two texts, of their sums. -/
theorem joinN_sum (s : Nat) (b : List Nat) (h : s < 2 ^ 32) (hb : ∀ x ∈ b, x < 256) : joinN s (moreN 0 b) b.length = moreN s b := by
  unfold joinN
  rw [zerosN_xor s _ h, zerosN_xor 0 _ (by decide), moreN_xor s b h hb, moreN_xor 0 b (by decide) hb, bitsN_zero, Nat.zero_xor, Nat.zero_xor]
  apply Nat.eq_of_testBit_eq
  intro i
  simp only [Nat.testBit_xor]
  cases (bitsN (8 * b.length) s).testBit i <;> cases (bitsN (8 * b.length) 4294967295).testBit i <;> cases (Nat.testBit 4294967295 i) <;> cases ((regs 4294967295 b).testBit i) <;> rfl
theorem joinN_lin (a b n : Nat) (ha : a < 2 ^ 32) : joinN a b n = bitsN (8 * n) a ^^^ b := by
  unfold joinN
  rw [zerosN_xor a _ ha, zerosN_xor 0 _ (by decide), bitsN_zero, Nat.zero_xor]
  apply Nat.eq_of_testBit_eq
  intro i
  simp only [Nat.testBit_xor]
  cases (bitsN (8 * n) a).testBit i <;> cases (bitsN (8 * n) 4294967295).testBit i <;> cases (Nat.testBit 4294967295 i) <;> cases (b.testBit i) <;> rfl
theorem joinN_lt {a b n : Nat} (ha : a < 2 ^ 32) (hb : b < 2 ^ 32) : joinN a b n < 2 ^ 32 := by
  rw [joinN_lin a b n ha]
  exact Nat.xor_lt_two_pow (bitsN_lt ha) hb
theorem joinN_assoc (a b c n m : Nat) (ha : a < 2 ^ 32) (hb : b < 2 ^ 32) : joinN (joinN a b n) c m = joinN a (joinN b c m) (n + m) := by
  rw [joinN_lin _ c m (joinN_lt ha hb), joinN_lin a b n ha, joinN_lin a _ _ ha, joinN_lin b c m hb, bitsN_xor, ← bitsN_add, Nat.xor_assoc, show 8 * m + 8 * n = 8 * (n + m) by omega]
/-- Three texts of one length. -/
theorem moreN_three (a b c : List Nat) (h1 : a.length = b.length) (h2 : b.length = c.length) (ha : ∀ x ∈ a, x < 256) (hb : ∀ x ∈ b, x < 256) (hc : ∀ x ∈ c, x < 256)
    (habc : ∀ x ∈ List.zipWith (· ^^^ ·) (List.zipWith (· ^^^ ·) a b) c, x < 256) :
    moreN 0 (List.zipWith (· ^^^ ·) (List.zipWith (· ^^^ ·) a b) c) = moreN 0 a ^^^ moreN 0 b ^^^ moreN 0 c := by
  have e1 := regs_xor 4294967295 4294967295 a b h1
  have e2 := regs_xor (4294967295 ^^^ 4294967295) 4294967295 (List.zipWith (· ^^^ ·) a b) c (by rw [List.length_zipWith]; omega)
  rw [e1, Nat.xor_self, Nat.zero_xor] at e2
  rw [moreN_xor 0 _ (by decide) habc, moreN_xor 0 a (by decide) ha, moreN_xor 0 b (by decide) hb, moreN_xor 0 c (by decide) hc, bitsN_zero, bitsN_zero, bitsN_zero, bitsN_zero, e2]
  apply Nat.eq_of_testBit_eq
  intro i
  simp only [Nat.testBit_xor, Nat.zero_testBit]
  cases (Nat.testBit 4294967295 i) <;> cases ((regs 4294967295 a).testBit i) <;> cases ((regs 4294967295 b).testBit i) <;> cases ((regs 4294967295 c).testBit i) <;> rfl

end Go.Proofs.Ytbmgiekiildaaaa
