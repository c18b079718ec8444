/-
  Plain arithmetic of the check sum's register: a bit's step and a byte's step add up (exclusive or), and lose nothing. No program is spoken of here. Plain: a record's line as bytes, and back; the whole transactions that lines begin with. No program is spoken of here. Plain: a head as a sector, and back. A head is spoken of as a record: k its tenant, a its volume, b its block, c its slot, d its version, key its tag. No program is spoken of here.
-/
import Derived.WalkKit
import Derived.Test.YtbmgiekiildaaaaWordsG
namespace Go.Proofs.Ytbmgiekiildaaaa

def crcPoly : Nat := 0xEDB88320
/-- One bit of the register. -/
def bitStep (r : Nat) : Nat := if r % 2 = 1 then r / 2 ^^^ crcPoly else r / 2
theorem bitStep_lt {r : Nat} (h : r < 2 ^ 32) : bitStep r < 2 ^ 32 := by
  unfold bitStep
  split
  · exact Nat.xor_lt_two_pow (by omega) (by decide)
  · omega
theorem xor_mod2 (a b : Nat) : (a ^^^ b) % 2 = (a + b) % 2 := by
  have h := Nat.testBit_xor (x := a) (y := b) (i := 0)
  simp only [Nat.testBit_zero] at h
  have ha := Nat.mod_two_eq_zero_or_one a
  have hb := Nat.mod_two_eq_zero_or_one b
  have hc := Nat.mod_two_eq_zero_or_one (a ^^^ b)
  rcases ha with ha | ha <;> rcases hb with hb | hb <;> rcases hc with hc | hc <;> simp [ha, hb, hc] at h <;> omega
theorem xor_div2 (a b : Nat) : (a ^^^ b) / 2 = a / 2 ^^^ b / 2 := by
  have := Nat.shiftRight_xor_distrib (a := a) (b := b) (i := 1)
  simpa [Nat.shiftRight_eq_div_pow] using this
theorem xor_swap (a b c d : Nat) : (a ^^^ b) ^^^ (c ^^^ d) = (a ^^^ c) ^^^ (b ^^^ d) := by
  rw [Nat.xor_assoc, Nat.xor_assoc, ← Nat.xor_assoc b, Nat.xor_comm b c, Nat.xor_assoc c]
theorem bitStep_xor (a b : Nat) : bitStep (a ^^^ b) = bitStep a ^^^ bitStep b := by
  unfold bitStep
  rw [xor_mod2, xor_div2]
  have ha := Nat.mod_two_eq_zero_or_one a
  have hb := Nat.mod_two_eq_zero_or_one b
  rcases ha with ha | ha <;> rcases hb with hb | hb
  · rw [if_neg (by omega), if_neg (by omega), if_neg (by omega)]
  · rw [if_pos (by omega), if_neg (by omega), if_pos (by omega), Nat.xor_assoc]
  · rw [if_pos (by omega), if_pos (by omega), if_neg (by omega), Nat.xor_assoc, Nat.xor_comm (b / 2), Nat.xor_assoc]
  · rw [if_neg (by omega), if_pos (by omega), if_pos (by omega), xor_swap, Nat.xor_self, Nat.xor_zero]
theorem bitStep_zero : bitStep 0 = 0 := by decide
theorem bitStep_inj0 {r : Nat} (h : r < 2 ^ 32) (h0 : bitStep r = 0) : r = 0 := by
  unfold bitStep at h0
  split at h0
  · have h1 : (r / 2 ^^^ crcPoly) ^^^ crcPoly = crcPoly := by rw [h0, Nat.zero_xor]
    rw [Nat.xor_assoc, Nat.xor_self, Nat.xor_zero] at h1
    unfold crcPoly at h1
    omega
  · omega

def bitsN (n : Nat) (r : Nat) : Nat := n.repeat bitStep r
theorem bitsN_succ (n r : Nat) : bitsN (n + 1) r = bitStep (bitsN n r) := rfl
theorem bitsN_xor (n a b : Nat) : bitsN n (a ^^^ b) = bitsN n a ^^^ bitsN n b := by
  induction n with
  | zero => rfl
  | succ n ih => rw [bitsN_succ, bitsN_succ, bitsN_succ, ih, bitStep_xor]
theorem bitsN_lt {n r : Nat} (h : r < 2 ^ 32) : bitsN n r < 2 ^ 32 := by
  induction n with
  | zero => exact h
  | succ n ih => exact bitStep_lt ih
theorem bitsN_zero (n : Nat) : bitsN n 0 = 0 := by
  induction n with
  | zero => rfl
  | succ n ih => rw [bitsN_succ, ih, bitStep_zero]
theorem bitsN_inj0 {n r : Nat} (h : r < 2 ^ 32) (h0 : bitsN n r = 0) : r = 0 := by
  induction n with
  | zero => exact h0
  | succ n ih => exact ih (bitStep_inj0 (bitsN_lt h) h0)
theorem bitsN_add (m n r : Nat) : bitsN (m + n) r = bitsN m (bitsN n r) := by
  induction m with
  | zero => rw [Nat.zero_add]; rfl
  | succ m ih => rw [Nat.succ_add, bitsN_succ, ih, bitsN_succ]
theorem bitsN_first (n r : Nat) : bitsN (n + 1) r = bitsN n (bitStep r) := bitsN_add n 1 r
/-- Bits that stand high come down. -/
theorem bitsN_down (k x : Nat) : bitsN k (x * 2 ^ k) = x := by
  induction k with
  | zero => simp [bitsN, Nat.repeat]
  | succ k ih =>
    rw [bitsN_first]
    have e : bitStep (x * 2 ^ (k + 1)) = x * 2 ^ k := by
      unfold bitStep
      have h1 : x * 2 ^ (k + 1) = (x * 2 ^ k) * 2 := by rw [Nat.pow_succ, Nat.mul_assoc]
      rw [h1, if_neg (by omega)]
      omega
    rw [e, ih]

/-- One byte of the register. -/
def byteStep (r : Nat) : Nat := bitsN 8 r
theorem byteStep_lt {r : Nat} (h : r < 2 ^ 32) : byteStep r < 2 ^ 32 := bitsN_lt h
theorem byteStep_xor (a b : Nat) : byteStep (a ^^^ b) = byteStep a ^^^ byteStep b := bitsN_xor 8 a b
theorem low_high (r : Nat) : r % 256 ^^^ (r / 256) * 2 ^ 8 = r := by
  apply Nat.eq_of_testBit_eq
  intro i
  rw [Nat.testBit_xor, Nat.testBit_mul_two_pow, show (256 : Nat) = 2 ^ 8 from rfl, Nat.testBit_mod_two_pow, ← Nat.shiftRight_eq_div_pow, Nat.testBit_shiftRight]
  by_cases h : i < 8
  · have h2 : ¬ 8 ≤ i := by omega
    simp [h, h2]
  · have h2 : 8 ≤ i := by omega
    have h3 : 8 + (i - 8) = i := by omega
    simp [h, h2, h3]
/-- By a table of 256 entries. -/
theorem byteStep_table (r : Nat) : byteStep r = byteStep (r % 256) ^^^ r / 256 := by
  have h := byteStep_xor (r % 256) ((r / 256) * 2 ^ 8)
  rw [low_high] at h
  rw [h]
  congr 1
  exact bitsN_down 8 (r / 256)

/-- A register behind bytes. -/
def regs (r : Nat) (l : List Nat) : Nat := l.foldl (fun r b => byteStep (r ^^^ b)) r
theorem regs_append (r : Nat) (a b : List Nat) : regs r (a ++ b) = regs (regs r a) b := by simp [regs, List.foldl_append]
theorem regs_lt {r : Nat} (l : List Nat) (h : r < 2 ^ 32) (hl : ∀ b ∈ l, b < 256) : regs r l < 2 ^ 32 := by
  induction l generalizing r with
  | nil => exact h
  | cons x l ih =>
    refine ih (byteStep_lt (Nat.xor_lt_two_pow h ?_)) fun b hb => hl b (List.mem_cons_of_mem _ hb)
    have := hl x (by simp)
    omega
/-- Registers and bytes add up. -/
theorem regs_xor (r s : Nat) : ∀ (a b : List Nat), a.length = b.length → regs (r ^^^ s) (List.zipWith (· ^^^ ·) a b) = regs r a ^^^ regs s b := by
  intro a
  induction a generalizing r s with
  | nil => intro b hb; have : b = [] := List.eq_nil_of_length_eq_zero (by simpa using hb.symm); subst this; rfl
  | cons x a ih =>
    intro b hb
    cases b with
    | nil => simp at hb
    | cons y b =>
      have e : byteStep ((r ^^^ s) ^^^ (x ^^^ y)) = byteStep (r ^^^ x) ^^^ byteStep (s ^^^ y) := by rw [xor_swap, byteStep_xor]
      show regs (byteStep ((r ^^^ s) ^^^ (x ^^^ y))) _ = regs (byteStep (r ^^^ x)) a ^^^ regs (byteStep (s ^^^ y)) b
      rw [e]
      exact ih _ _ b (by simpa using hb)

/-- All bits turned. -/
def inv32 (r : Nat) : Nat := 4294967295 - r
theorem inv32_lt (r : Nat) : inv32 r < 2 ^ 32 := by unfold inv32; omega
theorem inv32_inv32 {r : Nat} (h : r < 2 ^ 32) : inv32 (inv32 r) = r := by unfold inv32; omega
theorem inv32_xor {r : Nat} (h : r < 2 ^ 32) : inv32 r = r ^^^ 4294967295 := by
  have e : inv32 r = 2 ^ 32 - (r + 1) := by unfold inv32; omega
  apply Nat.eq_of_testBit_eq
  intro i
  rw [e, Nat.testBit_two_pow_sub_succ h, Nat.testBit_xor, show (4294967295 : Nat) = 2 ^ 32 - 1 from rfl, Nat.testBit_two_pow_sub_one]
  by_cases hi : i < 32
  · simp [hi]
  · have : r.testBit i = false := Nat.testBit_lt_two_pow (Nat.lt_of_lt_of_le h (Nat.pow_le_pow_right (by decide) (by omega)))
    simp [hi, this]
/-- The sum of bytes behind a sum. -/
def moreN (s : Nat) (l : List Nat) : Nat := inv32 (regs (inv32 s) l)
theorem moreN_lt (s : Nat) (l : List Nat) : moreN s l < 2 ^ 32 := inv32_lt _
def nb (zs : List Int) : List Nat := zs.map Int.toNat
theorem nb_lt {zs : List Int} (h : ∀ z ∈ zs, 0 ≤ z ∧ z ≤ 255) : ∀ b ∈ nb zs, b < 256 := by
  intro b hb
  obtain ⟨z, hz, rfl⟩ := List.mem_map.1 hb
  have := h z hz
  omega
theorem regs_snoc (r : Nat) (l : List Nat) (x : Nat) : regs r (l ++ [x]) = byteStep (regs r l ^^^ x) := by rw [regs_append]; rfl
theorem moreN_append (s : Nat) (a b : List Nat) (ha : ∀ x ∈ a, x < 256) : moreN (moreN s a) b = moreN s (a ++ b) := by
  unfold moreN
  rw [inv32_inv32 (regs_lt a (inv32_lt s) ha), regs_append]
theorem moreN_nil {s : Nat} (h : s < 2 ^ 32) : moreN s [] = s := inv32_inv32 h
/-- So many bytes 0 behind. -/
def zerosN (s n : Nat) : Nat := moreN s (List.replicate n 0)
theorem zerosN_zero {s : Nat} (h : s < 2 ^ 32) : zerosN s 0 = s := moreN_nil h
theorem zerosN_add (s m n : Nat) : zerosN (zerosN s m) n = zerosN s (m + n) := by
  unfold zerosN
  rw [moreN_append _ _ _ (by intro x hx; have := (List.mem_replicate.1 hx).2; omega), List.replicate_append_replicate]
theorem regs_zeros (r n : Nat) : regs r (List.replicate n 0) = bitsN (8 * n) r := by
  induction n generalizing r with
  | zero => rfl
  | succ n ih =>
    rw [List.replicate_succ]
    show regs (byteStep (r ^^^ 0)) _ = _
    rw [ih, Nat.xor_zero, show 8 * (n + 1) = 8 * n + 8 by omega, bitsN_add]
    rfl
theorem zipZeros (b : List Nat) : List.zipWith (· ^^^ ·) (List.replicate b.length 0) b = b := by
  induction b with
  | nil => rfl
  | cons x b ih => rw [List.length_cons, List.replicate_succ, List.zipWith_cons_cons, ih, Nat.zero_xor]
/-- Sums that are joined. -/
def joinN (a b n : Nat) : Nat := zerosN a n ^^^ zerosN 0 n ^^^ b
theorem regs_split (r s : Nat) (b : List Nat) : regs (r ^^^ s) b = bitsN (8 * b.length) r ^^^ regs s b := by
  have h := regs_xor r s (List.replicate b.length 0) b (by simp)
  rw [zipZeros, regs_zeros] at h
  exact h
theorem xor_cancel (a b : Nat) : a ^^^ b ^^^ b = a := by rw [Nat.xor_assoc, Nat.xor_self, Nat.xor_zero]
theorem zerosN_xor (s n : Nat) (h : s < 2 ^ 32) : zerosN s n = bitsN (8 * n) s ^^^ bitsN (8 * n) 4294967295 ^^^ 4294967295 := by
  unfold zerosN moreN
  rw [regs_zeros, inv32_xor (bitsN_lt (inv32_lt s)), inv32_xor h, bitsN_xor]
theorem moreN_xor (s : Nat) (l : List Nat) (h : s < 2 ^ 32) (hl : ∀ b ∈ l, b < 256) : moreN s l = bitsN (8 * l.length) s ^^^ regs 4294967295 l ^^^ 4294967295 := by
  unfold moreN
  rw [inv32_xor (regs_lt l (inv32_lt s) hl), inv32_xor h, regs_split]
/-- The sum of two texts, of their sums. -/
theorem joinN_sum (s : Nat) (b : List Nat) (h : s < 2 ^ 32) (hb : ∀ x ∈ b, x < 256) : joinN s (moreN 0 b) b.length = moreN s b := by
  unfold joinN
  rw [zerosN_xor s _ h, zerosN_xor 0 _ (by decide), moreN_xor s b h hb, moreN_xor 0 b (by decide) hb, bitsN_zero, Nat.zero_xor, Nat.zero_xor]
  apply Nat.eq_of_testBit_eq
  intro i
  simp only [Nat.testBit_xor]
  cases (bitsN (8 * b.length) s).testBit i <;> cases (bitsN (8 * b.length) 4294967295).testBit i <;> cases (Nat.testBit 4294967295 i) <;> cases ((regs 4294967295 b).testBit i) <;> rfl
theorem joinN_lin (a b n : Nat) (ha : a < 2 ^ 32) : joinN a b n = bitsN (8 * n) a ^^^ b := by
  unfold joinN
  rw [zerosN_xor a _ ha, zerosN_xor 0 _ (by decide), bitsN_zero, Nat.zero_xor]
  apply Nat.eq_of_testBit_eq
  intro i
  simp only [Nat.testBit_xor]
  cases (bitsN (8 * n) a).testBit i <;> cases (bitsN (8 * n) 4294967295).testBit i <;> cases (Nat.testBit 4294967295 i) <;> cases (b.testBit i) <;> rfl
theorem joinN_lt {a b n : Nat} (ha : a < 2 ^ 32) (hb : b < 2 ^ 32) : joinN a b n < 2 ^ 32 := by
  rw [joinN_lin a b n ha]
  exact Nat.xor_lt_two_pow (bitsN_lt ha) hb
theorem joinN_assoc (a b c n m : Nat) (ha : a < 2 ^ 32) (hb : b < 2 ^ 32) : joinN (joinN a b n) c m = joinN a (joinN b c m) (n + m) := by
  rw [joinN_lin _ c m (joinN_lt ha hb), joinN_lin a b n ha, joinN_lin a _ _ ha, joinN_lin b c m hb, bitsN_xor, ← bitsN_add, Nat.xor_assoc, show 8 * m + 8 * n = 8 * (n + m) by omega]
/-- Three texts of one length. -/
theorem moreN_three (a b c : List Nat) (h1 : a.length = b.length) (h2 : b.length = c.length) (ha : ∀ x ∈ a, x < 256) (hb : ∀ x ∈ b, x < 256) (hc : ∀ x ∈ c, x < 256)
    (habc : ∀ x ∈ List.zipWith (· ^^^ ·) (List.zipWith (· ^^^ ·) a b) c, x < 256) :
    moreN 0 (List.zipWith (· ^^^ ·) (List.zipWith (· ^^^ ·) a b) c) = moreN 0 a ^^^ moreN 0 b ^^^ moreN 0 c := by
  have e1 := regs_xor 4294967295 4294967295 a b h1
  have e2 := regs_xor (4294967295 ^^^ 4294967295) 4294967295 (List.zipWith (· ^^^ ·) a b) c (by rw [List.length_zipWith]; omega)
  rw [e1, Nat.xor_self, Nat.zero_xor] at e2
  rw [moreN_xor 0 _ (by decide) habc, moreN_xor 0 a (by decide) ha, moreN_xor 0 b (by decide) hb, moreN_xor 0 c (by decide) hc, bitsN_zero, bitsN_zero, bitsN_zero, bitsN_zero, e2]
  apply Nat.eq_of_testBit_eq
  intro i
  simp only [Nat.testBit_xor, Nat.zero_testBit]
  cases (Nat.testBit 4294967295 i) <;> cases ((regs 4294967295 a).testBit i) <;> cases ((regs 4294967295 b).testBit i) <;> cases ((regs 4294967295 c).testBit i) <;> rfl

end Go.Proofs.Ytbmgiekiildaaaa

namespace Go.Proofs.Ytbmgiekiildaaaa
open Go.RowKit

structure Ln where
  g : Int
  s : Int
  last : Bool
  r : Rc
theorem ln_ext (x y : Ln) : (x.g = y.g ∧ x.s = y.s ∧ x.last = y.last ∧ x.r = y.r) ↔ x = y := by
  constructor
  · obtain ⟨_, _, _, _⟩ := x
    obtain ⟨_, _, _, _⟩ := y
    rintro ⟨h1, h2, h3, h4⟩
    simp only at h1 h2 h3 h4
    subst h1 h2 h3 h4; rfl
  · rintro rfl; exact ⟨rfl, rfl, rfl, rfl⟩
instance : DecidableEq Ln := fun x y => decidable_of_iff _ (ln_ext x y)
/-- A text's bytes. -/
def keyI (s : ByteArray) : List Int := s.data.toList.map fun b => (b.toNat : Int)
theorem keyI_len (s : ByteArray) : (keyI s).length = s.size := by unfold keyI; rw [List.length_map]; rfl
theorem keyI_mem (s : ByteArray) : ∀ z ∈ keyI s, 0 ≤ z ∧ z ≤ 255 := fun z hz => by
  unfold keyI at hz
  obtain ⟨b, _, rfl⟩ := List.mem_map.1 hz
  have := b.toNat_lt
  omega
theorem str_keyI (s : ByteArray) : strOfNums (keyI s) = s := by
  unfold strOfNums keyI
  rw [List.map_map]
  obtain ⟨⟨l⟩⟩ := s
  have e : l.map ((fun n : Int => UInt8.ofNat n.toNat) ∘ fun b : UInt8 => (b.toNat : Int)) = l := by
    conv => rhs; rw [← List.map_id l]
    exact List.map_congr_left fun b _ => by show UInt8.ofNat ((b.toNat : Nat) : Int).toNat = b; rw [Int.toNat_natCast]; exact UInt8.ofNat_toNat
  show (⟨(l.map _).toArray⟩ : ByteArray) = _
  rw [e]
theorem keyI_str {l : List Int} (h : ∀ z ∈ l, 0 ≤ z ∧ z ≤ 255) : keyI (strOfNums l) = l := by
  unfold strOfNums keyI
  show (l.map fun n => UInt8.ofNat n.toNat).map (fun b => (b.toNat : Int)) = l
  rw [List.map_map]
  conv => rhs; rw [← List.map_id l]
  refine List.map_congr_left fun z hz => ?_
  have := h z hz
  simp only [Function.comp_apply, UInt8.toNat_ofNat', id]
  omega

def inN (n m : Int) : Bool := decide (0 ≤ n ∧ n ≤ m)
def rangeL (l : Ln) : Bool := inN l.g 2147483647 && inN l.s 2147483647 && inN l.r.k 9 && inN l.r.a 1099511627776 && inN l.r.b 1099511627776 && inN l.r.c 1099511627776 && inN l.r.d 1099511627776
def encE (l : Ln) : Int := if rangeL l = true then (if l.r.key.size = 0 ∨ l.r.key.size = 16 then 0 else 1) else 7
def lastN (b : Bool) : Int := if b then 1 else 0
def frontL (l : Ln) : List Int := [83, 76] ++ (bytesOf l.g 4 ++ (bytesOf l.s 4 ++ (bytesOf (lastN l.last) 1 ++ (bytesOf l.r.k 1 ++ (bytesOf l.r.a 7 ++ (bytesOf l.r.b 7 ++ (bytesOf l.r.c 7 ++ (bytesOf l.r.d 7 ++ bytesOf (l.r.key.size : Nat) 1))))))))
def bodyL (l : Ln) : List Int := frontL l ++ (keyI l.r.key ++ List.replicate (19 - l.r.key.size) 0)
def sumB (b : List Int) : List Int := bytesOf (moreN 0 (nb b) : Nat) 4
def encB (l : Ln) : List Int := bodyL l ++ sumB (bodyL l)
def encR (l : Ln) : Int × List Int := (encE l, if encE l = 0 then encB l else [])
def sub (b : List Int) (i j : Nat) : List Int := (b.drop i).take (j - i)
def parseL (b : List Int) : Ln := ⟨valOf (sub b 2 6), valOf (sub b 6 10), decide (b.getD 10 0 = 1), ⟨valOf (sub b 11 12), valOf (sub b 12 19), valOf (sub b 19 26), valOf (sub b 26 33), valOf (sub b 33 40), if b.getD 40 0 = 16 then strOfNums (sub b 41 57) else ByteArray.empty⟩⟩
def zeroL : Ln := ⟨0, 0, false, ⟨0, 0, 0, 0, 0, ByteArray.empty⟩⟩
def decR (b : List Int) : Int × Ln := if b.length = 64 ∧ encE (parseL b) = 0 ∧ encB (parseL b) = b then (0, parseL b) else (2, zeroL)

theorem inN_iff {n m : Int} : inN n m = true ↔ 0 ≤ n ∧ n ≤ m := decide_eq_true_iff
theorem rangeL_iff (l : Ln) : rangeL l = true ↔ (0 ≤ l.g ∧ l.g ≤ 2147483647) ∧ (0 ≤ l.s ∧ l.s ≤ 2147483647) ∧ (0 ≤ l.r.k ∧ l.r.k ≤ 9) ∧ (0 ≤ l.r.a ∧ l.r.a ≤ 1099511627776) ∧ (0 ≤ l.r.b ∧ l.r.b ≤ 1099511627776) ∧ (0 ≤ l.r.c ∧ l.r.c ≤ 1099511627776) ∧ (0 ≤ l.r.d ∧ l.r.d ≤ 1099511627776) := by
  unfold rangeL
  simp only [Bool.and_eq_true, inN_iff]
  constructor
  · rintro ⟨⟨⟨⟨⟨⟨h1, h2⟩, h3⟩, h4⟩, h5⟩, h6⟩, h7⟩; exact ⟨h1, h2, h3, h4, h5, h6, h7⟩
  · rintro ⟨h1, h2, h3, h4, h5, h6, h7⟩; exact ⟨⟨⟨⟨⟨⟨h1, h2⟩, h3⟩, h4⟩, h5⟩, h6⟩, h7⟩
theorem encE_zero {l : Ln} : encE l = 0 ↔ rangeL l = true ∧ (l.r.key.size = 0 ∨ l.r.key.size = 16) := by
  unfold encE
  split
  · next h => split
              · next h2 => exact ⟨fun _ => ⟨h, h2⟩, fun _ => rfl⟩
              · next h2 => exact ⟨fun h3 => by omega, fun h3 => absurd h3.2 h2⟩
  · next h => exact ⟨fun h3 => by omega, fun h3 => absurd h3.1 h⟩
theorem frontL_len (l : Ln) : (frontL l).length = 41 := by unfold frontL; simp [bytesOf_len]
theorem bodyL_len {l : Ln} (h : l.r.key.size ≤ 19) : (bodyL l).length = 60 := by
  unfold bodyL
  rw [List.length_append, List.length_append, frontL_len, keyI_len, List.length_replicate]; omega
theorem sumB_len (b : List Int) : (sumB b).length = 4 := bytesOf_len _ _
theorem encB_len {l : Ln} (h : encE l = 0) : (encB l).length = 64 := by
  unfold encB
  rw [List.length_append, bodyL_len (by have := (encE_zero.1 h).2; omega), sumB_len]
theorem frontL_mem (l : Ln) : ∀ z ∈ frontL l, 0 ≤ z ∧ z ≤ 255 := fun z hz => by
  unfold frontL at hz
  simp only [List.mem_append] at hz
  rcases hz with h | h | h | h | h | h | h | h | h | h
  · simp at h; omega
  all_goals exact bytesOf_mem _ _ z h
theorem bodyL_mem (l : Ln) : ∀ z ∈ bodyL l, 0 ≤ z ∧ z ≤ 255 := fun z hz => by
  unfold bodyL at hz
  simp only [List.mem_append] at hz
  rcases hz with h | h | h
  · exact frontL_mem l z h
  · exact keyI_mem _ z h
  · have := List.eq_of_mem_replicate h; omega
theorem encB_mem (l : Ln) : ∀ z ∈ encB l, 0 ≤ z ∧ z ≤ 255 := fun z hz => by
  unfold encB at hz
  rcases List.mem_append.1 hz with h | h
  · exact bodyL_mem l z h
  · exact bytesOf_mem _ _ z h
theorem sub_mid (p m r : List Int) {i j : Nat} (hi : p.length = i) (hj : i + m.length = j) : sub (p ++ (m ++ r)) i j = m := by
  subst hi hj
  unfold sub
  rw [List.drop_left, show p.length + m.length - p.length = m.length by omega, List.take_left]
theorem getD_mid (p r : List Int) (x : Int) {i : Nat} (hi : p.length = i) : (p ++ ([x] ++ r)).getD i 0 = x := by
  subst hi
  simp [List.getD]
theorem cut_pieces (T G S L K A B C D Z Y : List Int) (hT : T.length = 2) (hG : G.length = 4) (hS : S.length = 4) (hL : L.length = 1) (hK : K.length = 1) (hA : A.length = 7) (hB : B.length = 7) (hC : C.length = 7) (hD : D.length = 7) (hZ : Z.length = 1) (E : List Int)
    (hE : E = T ++ (G ++ (S ++ (L ++ (K ++ (A ++ (B ++ (C ++ (D ++ (Z ++ Y)))))))))) :
    sub E 2 6 = G ∧ sub E 6 10 = S ∧ sub E 10 11 = L ∧ sub E 11 12 = K ∧ sub E 12 19 = A ∧ sub E 19 26 = B ∧ sub E 26 33 = C ∧ sub E 33 40 = D ∧ sub E 40 41 = Z := by
  subst hE
  refine ⟨sub_mid T G _ (by omega) (by omega), ?_, ?_, ?_, ?_, ?_, ?_, ?_, ?_⟩
  · rw [← List.append_assoc]; exact sub_mid (T ++ G) S _ (by simp; omega) (by omega)
  · rw [← List.append_assoc, ← List.append_assoc]; exact sub_mid (T ++ G ++ S) L _ (by simp; omega) (by omega)
  · rw [← List.append_assoc, ← List.append_assoc, ← List.append_assoc]; exact sub_mid (T ++ G ++ S ++ L) K _ (by simp; omega) (by omega)
  · rw [← List.append_assoc, ← List.append_assoc, ← List.append_assoc, ← List.append_assoc]; exact sub_mid (T ++ G ++ S ++ L ++ K) A _ (by simp; omega) (by omega)
  · rw [← List.append_assoc, ← List.append_assoc, ← List.append_assoc, ← List.append_assoc, ← List.append_assoc]; exact sub_mid (T ++ G ++ S ++ L ++ K ++ A) B _ (by simp; omega) (by omega)
  · rw [← List.append_assoc, ← List.append_assoc, ← List.append_assoc, ← List.append_assoc, ← List.append_assoc, ← List.append_assoc]; exact sub_mid (T ++ G ++ S ++ L ++ K ++ A ++ B) C _ (by simp; omega) (by omega)
  · rw [← List.append_assoc, ← List.append_assoc, ← List.append_assoc, ← List.append_assoc, ← List.append_assoc, ← List.append_assoc, ← List.append_assoc]; exact sub_mid (T ++ G ++ S ++ L ++ K ++ A ++ B ++ C) D _ (by simp; omega) (by omega)
  · rw [← List.append_assoc, ← List.append_assoc, ← List.append_assoc, ← List.append_assoc, ← List.append_assoc, ← List.append_assoc, ← List.append_assoc, ← List.append_assoc]; exact sub_mid (T ++ G ++ S ++ L ++ K ++ A ++ B ++ C ++ D) Z _ (by simp; omega) (by omega)
theorem sub_one (b : List Int) (i : Nat) {x : Int} (h : sub b i (i + 1) = [x]) : b.getD i 0 = x := by
  unfold sub at h
  rw [show i + 1 - i = 1 by omega] at h
  have h1 : (b.drop i)[0]? = some x := by
    have : ((b.drop i).take 1)[0]? = some x := by rw [h]; rfl
    rwa [List.getElem?_take, if_pos (by decide)] at this
  rw [List.getElem?_drop, Nat.add_zero] at h1
  rw [List.getD_eq_getElem?_getD, h1]; rfl
theorem bytesOf_one {n : Int} (h0 : 0 ≤ n) (h1 : n ≤ 255) : bytesOf n 1 = [n] := by
  unfold bytesOf bytesTo
  simp
  omega
/-- What was written is read as it was. -/
theorem parse_enc {l : Ln} (h : encE l = 0) : parseL (encB l) = l := by
  obtain ⟨hr, hk⟩ := encE_zero.1 h
  obtain ⟨r1, r2, r3, r4, r5, r6, r7⟩ := (rangeL_iff l).1 hr
  have hE : encB l = [83, 76] ++ (bytesOf l.g 4 ++ (bytesOf l.s 4 ++ (bytesOf (lastN l.last) 1 ++ (bytesOf l.r.k 1 ++ (bytesOf l.r.a 7 ++ (bytesOf l.r.b 7 ++ (bytesOf l.r.c 7 ++ (bytesOf l.r.d 7 ++ (bytesOf (l.r.key.size : Nat) 1 ++ (keyI l.r.key ++ List.replicate (19 - l.r.key.size) 0 ++ sumB (bodyL l))))))))))) := by
    unfold encB
    conv => lhs; arg 1; unfold bodyL frontL
    simp only [List.append_assoc]
  obtain ⟨c1, c2, c3, c4, c5, c6, c7, c8, c9⟩ := cut_pieces _ _ _ _ _ _ _ _ _ _ _ rfl (bytesOf_len _ _) (bytesOf_len _ _) (bytesOf_len _ _) (bytesOf_len _ _) (bytesOf_len _ _) (bytesOf_len _ _) (bytesOf_len _ _) (bytesOf_len _ _) (bytesOf_len _ _) (encB l) hE
  have hlast : lastN l.last = 0 ∨ lastN l.last = 1 := by unfold lastN; split <;> simp
  rw [bytesOf_one (by omega) (by omega)] at c3
  rw [bytesOf_one (by omega) (by omega)] at c9
  have g10 := sub_one _ _ c3
  have g40 := sub_one _ _ c9
  unfold parseL
  rw [c1, c2, c4, c5, c6, c7, c8, g10, g40, valOf_bytesOf _ _ r1.1 (by omega), valOf_bytesOf _ _ r2.1 (by omega), valOf_bytesOf _ _ r3.1 (by omega), valOf_bytesOf _ _ r4.1 (by omega), valOf_bytesOf _ _ r5.1 (by omega), valOf_bytesOf _ _ r6.1 (by omega), valOf_bytesOf _ _ r7.1 (by omega)]
  have hL : decide (lastN l.last = 1) = l.last := by unfold lastN; cases l.last <;> rfl
  have hK : (if ((l.r.key.size : Nat) : Int) = 16 then strOfNums (sub (encB l) 41 57) else ByteArray.empty) = l.r.key := by
    rcases hk with hk | hk
    · rw [if_neg (by omega)]
      have : keyI l.r.key = [] := List.eq_nil_of_length_eq_zero (by rw [keyI_len]; exact hk)
      rw [← str_keyI l.r.key, this]; rfl
    · rw [if_pos (by omega)]
      have e : encB l = frontL l ++ (keyI l.r.key ++ (List.replicate (19 - l.r.key.size) 0 ++ sumB (bodyL l))) := by
        unfold encB
        conv => lhs; arg 1; unfold bodyL
        simp only [List.append_assoc]
      rw [e, sub_mid (frontL l) (keyI l.r.key) _ (frontL_len l) (by rw [keyI_len, hk]), str_keyI]
  rw [hL, hK]
theorem dec_enc {l : Ln} (h : encE l = 0) : decR (encB l) = (0, l) := by
  unfold decR
  rw [parse_enc h, if_pos ⟨encB_len h, h, rfl⟩]
theorem dec_ok {b : List Int} (h : (decR b).1 = 0) : b.length = 64 ∧ encE (decR b).2 = 0 ∧ encB (decR b).2 = b := by
  unfold decR at h ⊢
  split
  · next h1 => exact h1
  · next h1 => rw [if_neg h1] at h; exact absurd h (by decide)
theorem dec_no {b : List Int} (h : (decR b).1 ≠ 0) : decR b = (2, zeroL) := by
  unfold decR at h ⊢
  split
  · next h1 => rw [if_pos h1] at h; exact absurd rfl h
  · rfl
theorem dec_cases (b : List Int) : ((decR b).1 = 0 ∧ b.length = 64 ∧ encE (decR b).2 = 0 ∧ encB (decR b).2 = b) ∨ decR b = (2, zeroL) := by
  by_cases h : (decR b).1 = 0
  · exact .inl ⟨h, dec_ok h⟩
  · exact .inr (dec_no h)
theorem enc_inj {l m : Ln} (hl : encE l = 0) (hm : encE m = 0) (h : encB l = encB m) : l = m := by
  rw [← parse_enc hl, ← parse_enc hm, h]

/-! ### Replay -/
def goodAt (secs : List (List Int)) (g : Int) (i : Nat) : Bool := decide ((decR (secs.getD i [])).1 = 0) && decide ((decR (secs.getD i [])).2.g = g) && decide ((decR (secs.getD i [])).2.s = (i : Int))
def recAt (secs : List (List Int)) (i : Nat) : Rc := (decR (secs.getD i [])).2.r
def lastAt (secs : List (List Int)) (i : Nat) : Bool := (decR (secs.getD i [])).2.last
def nowTo (secs : List (List Int)) : Nat → List Rc
  | 0 => []
  | k + 1 => if lastAt secs k = true then [] else nowTo secs k ++ [recAt secs k]
def outTo (secs : List (List Int)) : Nat → List (List Rc)
  | 0 => []
  | k + 1 => if lastAt secs k = true then outTo secs k ++ [nowTo secs k ++ [recAt secs k]] else outTo secs k
/-- How many sectors, from the first one on, belong to it. -/
def goodN (secs : List (List Int)) (g : Int) : Nat := ((List.range secs.length).takeWhile (goodAt secs g)).length
def replR (secs : List (List Int)) (g : Int) : List (List Rc) := outTo secs (goodN secs g)
theorem takeWhile_range (p : Nat → Bool) : ∀ (n m : Nat), (∀ i, i < n → p (m + i) = true) → ∀ r : List Nat, (∀ x, r.head? = some x → p x = false) → ((List.range' m n ++ r).takeWhile p).length = n
  | 0, m, _, r, hr => by
    cases r with
    | nil => rfl
    | cons x r => rw [show List.range' m 0 ++ x :: r = x :: r from rfl, List.takeWhile_cons, hr x rfl]; rfl
  | n + 1, m, h, r, hr => by
    rw [List.range'_succ, List.cons_append, List.takeWhile_cons, if_pos (show p m = true from h 0 (by omega)), List.length_cons, takeWhile_range p n (m + 1) (fun i hi => by have := h (i + 1) (by omega); rwa [show m + 1 + i = m + (i + 1) by omega]) r hr]
theorem goodN_eq {secs : List (List Int)} {g : Int} {k : Nat} (hk : k ≤ secs.length) (h : ∀ i, i < k → goodAt secs g i = true) (he : k < secs.length → goodAt secs g k = false) : goodN secs g = k := by
  unfold goodN
  obtain ⟨m, hm⟩ : ∃ m, secs.length = k + m := ⟨secs.length - k, by omega⟩
  rw [List.range_eq_range', hm, ← List.range'_append]
  refine takeWhile_range _ k 0 (fun i hi => by rw [Nat.zero_add]; exact h i hi) _ fun x hx => ?_
  cases m with
  | zero => simp at hx
  | succ m =>
    rw [List.range'_succ, List.head?_cons] at hx
    injection hx with hx
    rw [← hx, Nat.zero_add, Nat.one_mul]
    exact he (by omega)
theorem replR_eq {secs : List (List Int)} {g : Int} {k : Nat} (hk : k ≤ secs.length) (h : ∀ i, i < k → goodAt secs g i = true) (he : k < secs.length → goodAt secs g k = false) : replR secs g = outTo secs k := by
  unfold replR; rw [goodN_eq hk h he]
theorem nowTo_len (secs : List (List Int)) : ∀ k, (nowTo secs k).length ≤ k
  | 0 => Nat.le_refl _
  | k + 1 => by
    have := nowTo_len secs k
    unfold nowTo
    split
    · exact Nat.zero_le _
    · rw [List.length_append]; simp; omega
theorem outTo_len (secs : List (List Int)) : ∀ k, (outTo secs k).length ≤ k
  | 0 => Nat.le_refl _
  | k + 1 => by
    have := outTo_len secs k
    unfold outTo
    split
    · rw [List.length_append]; simp; omega
    · omega

end Go.Proofs.Ytbmgiekiildaaaa

namespace Go.Proofs.Ytbmgiekiildaaaa
open Go.RowKit

def hRng (h : Rc) : Prop := (1 ≤ h.k ∧ h.k ≤ 7) ∧ (0 ≤ h.a ∧ h.a ≤ 7) ∧ (0 ≤ h.b ∧ h.b ≤ 31) ∧ (0 ≤ h.c ∧ h.c ≤ 63) ∧ (1 ≤ h.d ∧ h.d ≤ 1099511627776)
instance (h : Rc) : Decidable (hRng h) := by unfold hRng; infer_instance
def hErr (h : Rc) : Int := if hRng h then (if h.key.size = 16 then 0 else 1) else 7
def hFront (h : Rc) : List Int := [83, 72] ++ (bytesOf h.k 1 ++ (bytesOf h.a 1 ++ (bytesOf h.b 1 ++ (bytesOf h.c 1 ++ bytesOf h.d 8))))
def hBody (h : Rc) : List Int := hFront h ++ (keyI h.key ++ List.replicate 30 0)
def hSec (h : Rc) : List Int := hBody h ++ sumB (hBody h)
def wr64 (n : Int) : Int := IntKind.i64.wrap n
def hRead (b : List Int) : Rc := ⟨b.getD 2 0, b.getD 3 0, b.getD 4 0, b.getD 5 0, wr64 (valOf (sub b 6 14)), strOfNums (sub b 14 30)⟩
def hZero : Rc := ⟨0, 0, 0, 0, 0, ByteArray.empty⟩
def zero64 : List Int := List.replicate 64 0
def hDec (b : List Int) : Int × Rc := if b = zero64 then (4, hZero) else if b.length = 64 ∧ hErr (hRead b) = 0 ∧ hSec (hRead b) = b then (0, hRead b) else (2, hZero)

theorem hErr_zero {h : Rc} : hErr h = 0 ↔ hRng h ∧ h.key.size = 16 := by
  unfold hErr
  by_cases h1 : hRng h
  · rw [if_pos h1]
    by_cases h2 : h.key.size = 16
    · rw [if_pos h2]; exact ⟨fun _ => ⟨h1, h2⟩, fun _ => rfl⟩
    · rw [if_neg h2]; exact ⟨fun h3 => by omega, fun h3 => absurd h3.2 h2⟩
  · rw [if_neg h1]; exact ⟨fun h3 => by omega, fun h3 => absurd h3.1 h1⟩
theorem hFront_len (h : Rc) : (hFront h).length = 14 := by unfold hFront; simp [bytesOf_len]
theorem hBody_len {h : Rc} (hk : h.key.size = 16) : (hBody h).length = 60 := by
  unfold hBody
  rw [List.length_append, List.length_append, hFront_len, keyI_len, List.length_replicate, hk]
theorem hSec_len {h : Rc} (hk : h.key.size = 16) : (hSec h).length = 64 := by
  unfold hSec
  rw [List.length_append, hBody_len hk, sumB_len]
theorem hFront_mem (h : Rc) : ∀ z ∈ hFront h, 0 ≤ z ∧ z ≤ 255 := fun z hz => by
  unfold hFront at hz
  simp only [List.mem_append] at hz
  rcases hz with h | h | h | h | h | h
  · simp at h; omega
  all_goals exact bytesOf_mem _ _ z h
theorem hBody_mem (h : Rc) : ∀ z ∈ hBody h, 0 ≤ z ∧ z ≤ 255 := fun z hz => by
  unfold hBody at hz
  simp only [List.mem_append] at hz
  rcases hz with h | h | h
  · exact hFront_mem _ z h
  · exact keyI_mem _ z h
  · have := List.eq_of_mem_replicate h; omega
theorem hSec_mem (h : Rc) : ∀ z ∈ hSec h, 0 ≤ z ∧ z ≤ 255 := fun z hz => by
  unfold hSec at hz
  rcases List.mem_append.1 hz with h | h
  · exact hBody_mem _ z h
  · exact bytesOf_mem _ _ z h
theorem hFront_eq {h : Rc} (hr : hRng h) : hFront h = [83, 72, h.k, h.a, h.b, h.c] ++ bytesOf h.d 8 := by
  obtain ⟨r1, r2, r3, r4, r5⟩ := hr
  unfold hFront
  rw [bytesOf_one (by omega) (by omega), bytesOf_one (by omega) (by omega), bytesOf_one (by omega) (by omega), bytesOf_one (by omega) (by omega)]
  rfl
theorem hSec_eq {h : Rc} (hr : hRng h) : hSec h = 83 :: 72 :: h.k :: h.a :: h.b :: h.c :: (bytesOf h.d 8 ++ (keyI h.key ++ (List.replicate 30 0 ++ sumB (hBody h)))) := by
  unfold hSec
  conv => lhs; arg 1; unfold hBody; rw [hFront_eq hr]
  simp only [List.append_assoc, List.cons_append, List.nil_append]
theorem wr64_in {n : Int} (h0 : -9223372036854775808 ≤ n) (h1 : n ≤ 9223372036854775807) : wr64 n = n := IntWalk.i64_in _ (by omega)
/-- What was written is read as it was. -/
theorem hRead_sec {h : Rc} (he : hErr h = 0) : hRead (hSec h) = h := by
  obtain ⟨hr, hk⟩ := hErr_zero.1 he
  have e := hSec_eq hr
  have s1 : sub (hSec h) 6 14 = bytesOf h.d 8 := by
    rw [e, show (83 : Int) :: 72 :: h.k :: h.a :: h.b :: h.c :: (bytesOf h.d 8 ++ (keyI h.key ++ (List.replicate 30 0 ++ sumB (hBody h)))) = [83, 72, h.k, h.a, h.b, h.c] ++ (bytesOf h.d 8 ++ (keyI h.key ++ (List.replicate 30 0 ++ sumB (hBody h)))) from rfl]
    exact sub_mid _ _ _ rfl (by rw [bytesOf_len])
  have s2 : sub (hSec h) 14 30 = keyI h.key := by
    rw [e, show (83 : Int) :: 72 :: h.k :: h.a :: h.b :: h.c :: (bytesOf h.d 8 ++ (keyI h.key ++ (List.replicate 30 0 ++ sumB (hBody h)))) = ([83, 72, h.k, h.a, h.b, h.c] ++ bytesOf h.d 8) ++ (keyI h.key ++ (List.replicate 30 0 ++ sumB (hBody h))) by simp]
    exact sub_mid _ _ _ (by simp [bytesOf_len]) (by rw [keyI_len, hk])
  obtain ⟨r1, r2, r3, r4, r5⟩ := hr
  have g : ∀ i, (hSec h).getD i 0 = (83 :: 72 :: h.k :: h.a :: h.b :: h.c :: (bytesOf h.d 8 ++ (keyI h.key ++ (List.replicate 30 0 ++ sumB (hBody h))))).getD i 0 := fun i => by rw [← e]
  unfold hRead
  rw [s1, s2, str_keyI, valOf_bytesOf _ _ (by omega) (by omega), wr64_in (by omega) (by omega), g 2, g 3, g 4, g 5]
  rfl
theorem sec_ne {h : Rc} (hr : hRng h) : hSec h ≠ zero64 := fun e => by
  rw [hSec_eq hr] at e
  have h2 := congrArg (fun l : List Int => l.getD 0 0) e
  simp [zero64] at h2
theorem hDec_sec {h : Rc} (he : hErr h = 0) : hDec (hSec h) = (0, h) := by
  obtain ⟨hr, hk⟩ := hErr_zero.1 he
  unfold hDec
  rw [if_neg (sec_ne hr), hRead_sec he, if_pos ⟨hSec_len hk, he, rfl⟩]
theorem hDec_ok {b : List Int} (h : (hDec b).1 = 0) : b.length = 64 ∧ hErr (hDec b).2 = 0 ∧ hSec (hDec b).2 = b := by
  unfold hDec at h ⊢
  by_cases h0 : b = zero64
  · rw [if_pos h0] at h; exact absurd h (by decide)
  · rw [if_neg h0] at h ⊢
    split
    · next h1 => exact h1
    · next h1 => rw [if_neg h1] at h; exact absurd h (by decide)

end Go.Proofs.Ytbmgiekiildaaaa
