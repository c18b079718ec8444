/-
  Plain arithmetic of blocks: bytes as polynomials, images of bytes, round keys, a block enciphered and deciphered, there and back. No program is spoken of here.
-/
import Derived.WalkKit
namespace Go.Proofs.YtanpfodmmeagaaaDoor

/-- The product ahead of its being made small. -/
def accN (a b : Nat) : Nat → Nat
  | 0 => 0
  | i + 1 => if b / 2 ^ i % 2 = 1 then accN a b i ^^^ a * 2 ^ i else accN a b i
def redN (x : Nat) : Nat → Nat
  | 0 => x
  | j + 1 => if redN x j / 2 ^ (14 - j) % 2 = 1 then redN x j ^^^ 283 * 2 ^ (6 - j) else redN x j
def timesN (a b : Nat) : Nat := redN (accN a b 8) 7 % 256
theorem timesN_lt (a b : Nat) : timesN a b < 256 := Nat.mod_lt _ (by decide)
theorem bit_xor (x y i : Nat) : (x ^^^ y) / 2 ^ i % 2 = (x / 2 ^ i % 2 + y / 2 ^ i % 2) % 2 := by
  have h := Nat.testBit_xor (x := x) (y := y) (i := i)
  simp only [Nat.testBit_eq_decide_div_mod_eq] at h
  have hx := Nat.mod_two_eq_zero_or_one (x / 2 ^ i)
  have hy := Nat.mod_two_eq_zero_or_one (y / 2 ^ i)
  have hz := Nat.mod_two_eq_zero_or_one ((x ^^^ y) / 2 ^ i)
  rcases hx with hx | hx <;> rcases hy with hy | hy <;> rcases hz with hz | hz <;> simp [hx, hy, hz] at h ⊢
theorem xor_left' (a b c : Nat) : a ^^^ (b ^^^ c) = b ^^^ (a ^^^ c) := by rw [← Nat.xor_assoc, Nat.xor_comm a b, Nat.xor_assoc]
theorem xor_four (a b c d : Nat) : (a ^^^ b) ^^^ (c ^^^ d) = (a ^^^ c) ^^^ (b ^^^ d) := by
  rw [Nat.xor_assoc, Nat.xor_assoc, ← Nat.xor_assoc b, Nat.xor_comm b c, Nat.xor_assoc c]
theorem accN_xor (a x y : Nat) : ∀ i, accN a (x ^^^ y) i = accN a x i ^^^ accN a y i
  | 0 => by simp [accN]
  | i + 1 => by
    have ih := accN_xor a x y i
    have hb := bit_xor x y i
    simp only [accN, ih, hb]
    have hx := Nat.mod_two_eq_zero_or_one (x / 2 ^ i)
    have hy := Nat.mod_two_eq_zero_or_one (y / 2 ^ i)
    rcases hx with hx | hx <;> rcases hy with hy | hy <;> rw [hx, hy]
    · rfl
    · simp [Nat.xor_assoc]
    · simp [Nat.xor_assoc, Nat.xor_comm]
    · simp only [Nat.reduceAdd, Nat.reduceMod, if_true]
      rw [xor_four, Nat.xor_self, Nat.xor_zero]; rfl
theorem redN_xor (x y : Nat) : ∀ j, redN (x ^^^ y) j = redN x j ^^^ redN y j
  | 0 => rfl
  | j + 1 => by
    have ih := redN_xor x y j
    have hb := bit_xor (redN x j) (redN y j) (14 - j)
    simp only [redN, ih, hb]
    have hx := Nat.mod_two_eq_zero_or_one (redN x j / 2 ^ (14 - j))
    have hy := Nat.mod_two_eq_zero_or_one (redN y j / 2 ^ (14 - j))
    rcases hx with hx | hx <;> rcases hy with hy | hy <;> rw [hx, hy]
    · rfl
    · simp [Nat.xor_assoc]
    · simp [Nat.xor_assoc, Nat.xor_comm]
    · simp only [Nat.reduceAdd, Nat.reduceMod, if_true]
      rw [xor_four, Nat.xor_self, Nat.xor_zero]; rfl
theorem xor_mod256 (x y : Nat) : (x ^^^ y) % 256 = x % 256 ^^^ y % 256 := Nat.xor_mod_two_pow (n := 8)
theorem timesN_xor (a x y : Nat) : timesN a (x ^^^ y) = timesN a x ^^^ timesN a y := by
  unfold timesN
  rw [accN_xor, redN_xor, xor_mod256]

/-- One entry of a column, enciphering and back. -/
def mix1 (a b c d : Nat) : Nat := timesN 2 a ^^^ timesN 3 b ^^^ c ^^^ d
def unmix1 (a b c d : Nat) : Nat := timesN 14 a ^^^ timesN 11 b ^^^ timesN 13 c ^^^ timesN 9 d
theorem mix1_lt {a b c d : Nat} (hc : c < 256) (hd : d < 256) : mix1 a b c d < 256 :=
  Nat.xor_lt_two_pow (n := 8) (Nat.xor_lt_two_pow (n := 8) (Nat.xor_lt_two_pow (n := 8) (timesN_lt _ _) (timesN_lt _ _)) hc) hd
theorem unmix1_lt (a b c d : Nat) : unmix1 a b c d < 256 :=
  Nat.xor_lt_two_pow (n := 8) (Nat.xor_lt_two_pow (n := 8) (Nat.xor_lt_two_pow (n := 8) (timesN_lt _ _) (timesN_lt _ _)) (timesN_lt _ _)) (timesN_lt _ _)
theorem col_tab : ∀ x : Nat, x < 256 → (timesN 14 (timesN 2 x) ^^^ timesN 11 x ^^^ timesN 13 x ^^^ timesN 9 (timesN 3 x) = x ∧ timesN 14 (timesN 3 x) ^^^ timesN 11 (timesN 2 x) ^^^ timesN 13 x ^^^ timesN 9 x = 0 ∧
    timesN 14 x ^^^ timesN 11 (timesN 3 x) ^^^ timesN 13 (timesN 2 x) ^^^ timesN 9 x = 0 ∧ timesN 14 x ^^^ timesN 11 x ^^^ timesN 13 (timesN 3 x) ^^^ timesN 9 (timesN 2 x) = 0) ∧
    (timesN 2 (timesN 14 x) ^^^ timesN 3 (timesN 9 x) ^^^ timesN 13 x ^^^ timesN 11 x = x ∧ timesN 2 (timesN 11 x) ^^^ timesN 3 (timesN 14 x) ^^^ timesN 9 x ^^^ timesN 13 x = 0 ∧
    timesN 2 (timesN 13 x) ^^^ timesN 3 (timesN 11 x) ^^^ timesN 14 x ^^^ timesN 9 x = 0 ∧ timesN 2 (timesN 9 x) ^^^ timesN 3 (timesN 13 x) ^^^ timesN 11 x ^^^ timesN 14 x = 0) := by decide +kernel

/-- One entry, there and back. -/
theorem unmix_mix {a b c d : Nat} (ha : a < 256) (hb : b < 256) (hc : c < 256) (hd : d < 256) : unmix1 (mix1 a b c d) (mix1 b c d a) (mix1 c d a b) (mix1 d a b c) = a := by
  have ta := (col_tab a ha).1
  have tb := (col_tab b hb).1
  have tc := (col_tab c hc).1
  have td := (col_tab d hd).1
  have e : unmix1 (mix1 a b c d) (mix1 b c d a) (mix1 c d a b) (mix1 d a b c) =
      (timesN 14 (timesN 2 a) ^^^ timesN 11 a ^^^ timesN 13 a ^^^ timesN 9 (timesN 3 a)) ^^^ (timesN 14 (timesN 3 b) ^^^ timesN 11 (timesN 2 b) ^^^ timesN 13 b ^^^ timesN 9 b) ^^^
      (timesN 14 c ^^^ timesN 11 (timesN 3 c) ^^^ timesN 13 (timesN 2 c) ^^^ timesN 9 c) ^^^ (timesN 14 d ^^^ timesN 11 d ^^^ timesN 13 (timesN 3 d) ^^^ timesN 9 (timesN 2 d)) := by
    unfold unmix1 mix1
    simp only [timesN_xor]
    simp only [Nat.xor_assoc, Nat.xor_comm, xor_left']
  rw [e, ta.1, tb.2.1, tc.2.2.1, td.2.2.2]
  simp
theorem mix_unmix {a b c d : Nat} (ha : a < 256) (hb : b < 256) (hc : c < 256) (hd : d < 256) : mix1 (unmix1 a b c d) (unmix1 b c d a) (unmix1 c d a b) (unmix1 d a b c) = a := by
  have ta := (col_tab a ha).2
  have tb := (col_tab b hb).2
  have tc := (col_tab c hc).2
  have td := (col_tab d hd).2
  have e : mix1 (unmix1 a b c d) (unmix1 b c d a) (unmix1 c d a b) (unmix1 d a b c) =
      (timesN 2 (timesN 14 a) ^^^ timesN 3 (timesN 9 a) ^^^ timesN 13 a ^^^ timesN 11 a) ^^^ (timesN 2 (timesN 11 b) ^^^ timesN 3 (timesN 14 b) ^^^ timesN 9 b ^^^ timesN 13 b) ^^^
      (timesN 2 (timesN 13 c) ^^^ timesN 3 (timesN 11 c) ^^^ timesN 14 c ^^^ timesN 9 c) ^^^ (timesN 2 (timesN 9 d) ^^^ timesN 3 (timesN 13 d) ^^^ timesN 11 d ^^^ timesN 14 d) := by
    unfold unmix1 mix1
    simp only [timesN_xor]
    simp only [Nat.xor_assoc, Nat.xor_comm, xor_left']
  rw [e, ta.1, tb.2.1, tc.2.2.1, td.2.2.2]
  simp

/-- A byte turned left. -/
def leftN (v n : Nat) : Nat := v * 2 ^ n % 256 ||| v / 2 ^ (8 - n)
/-- The byte whose product with b is 1 (0, if there is none): the last of those looked at. -/
def invN (b : Nat) : Nat → Nat
  | 0 => 0
  | k + 1 => if timesN b (k + 1) = 1 then k + 1 else invN b k
def subN (b : Nat) : Nat :=
  let v := invN b 255
  v ^^^ leftN v 1 ^^^ leftN v 2 ^^^ leftN v 3 ^^^ leftN v 4 ^^^ 99
def sbox : List Nat := [
  99, 124, 119, 123, 242, 107, 111, 197, 48, 1, 103, 43, 254, 215, 171, 118, 202, 130, 201, 125, 250, 89, 71, 240, 173, 212, 162, 175, 156, 164, 114, 192,
  183, 253, 147, 38, 54, 63, 247, 204, 52, 165, 229, 241, 113, 216, 49, 21, 4, 199, 35, 195, 24, 150, 5, 154, 7, 18, 128, 226, 235, 39, 178, 117,
  9, 131, 44, 26, 27, 110, 90, 160, 82, 59, 214, 179, 41, 227, 47, 132, 83, 209, 0, 237, 32, 252, 177, 91, 106, 203, 190, 57, 74, 76, 88, 207,
  208, 239, 170, 251, 67, 77, 51, 133, 69, 249, 2, 127, 80, 60, 159, 168, 81, 163, 64, 143, 146, 157, 56, 245, 188, 182, 218, 33, 16, 255, 243, 210,
  205, 12, 19, 236, 95, 151, 68, 23, 196, 167, 126, 61, 100, 93, 25, 115, 96, 129, 79, 220, 34, 42, 144, 136, 70, 238, 184, 20, 222, 94, 11, 219,
  224, 50, 58, 10, 73, 6, 36, 92, 194, 211, 172, 98, 145, 149, 228, 121, 231, 200, 55, 109, 141, 213, 78, 169, 108, 86, 244, 234, 101, 122, 174, 8,
  186, 120, 37, 46, 28, 166, 180, 198, 232, 221, 116, 31, 75, 189, 139, 138, 112, 62, 181, 102, 72, 3, 246, 14, 97, 53, 87, 185, 134, 193, 29, 158,
  225, 248, 152, 17, 105, 217, 142, 148, 155, 30, 135, 233, 206, 85, 40, 223, 140, 161, 137, 13, 191, 230, 66, 104, 65, 153, 45, 15, 176, 84, 187, 22]
def ibox : List Nat := [
  82, 9, 106, 213, 48, 54, 165, 56, 191, 64, 163, 158, 129, 243, 215, 251, 124, 227, 57, 130, 155, 47, 255, 135, 52, 142, 67, 68, 196, 222, 233, 203,
  84, 123, 148, 50, 166, 194, 35, 61, 238, 76, 149, 11, 66, 250, 195, 78, 8, 46, 161, 102, 40, 217, 36, 178, 118, 91, 162, 73, 109, 139, 209, 37,
  114, 248, 246, 100, 134, 104, 152, 22, 212, 164, 92, 204, 93, 101, 182, 146, 108, 112, 72, 80, 253, 237, 185, 218, 94, 21, 70, 87, 167, 141, 157, 132,
  144, 216, 171, 0, 140, 188, 211, 10, 247, 228, 88, 5, 184, 179, 69, 6, 208, 44, 30, 143, 202, 63, 15, 2, 193, 175, 189, 3, 1, 19, 138, 107,
  58, 145, 17, 65, 79, 103, 220, 234, 151, 242, 207, 206, 240, 180, 230, 115, 150, 172, 116, 34, 231, 173, 53, 133, 226, 249, 55, 232, 28, 117, 223, 110,
  71, 241, 26, 113, 29, 41, 197, 137, 111, 183, 98, 14, 170, 24, 190, 27, 252, 86, 62, 75, 198, 210, 121, 32, 154, 219, 192, 254, 120, 205, 90, 244,
  31, 221, 168, 51, 136, 7, 199, 49, 177, 18, 16, 89, 39, 128, 236, 95, 96, 81, 127, 169, 25, 181, 74, 13, 45, 229, 122, 159, 147, 201, 156, 239,
  160, 224, 59, 77, 174, 42, 245, 176, 200, 235, 187, 60, 131, 83, 153, 97, 23, 43, 4, 126, 186, 119, 214, 38, 225, 105, 20, 99, 85, 33, 12, 125]theorem sbox_is : ∀ b : Nat, b < 256 → subN b = sbox.getD b 0 := by decide +kernel
theorem box_back : ∀ b : Nat, b < 256 → (ibox.getD (sbox.getD b 0) 0 = b ∧ sbox.getD (ibox.getD b 0) 0 = b) ∧ sbox.getD b 0 < 256 ∧ ibox.getD b 0 < 256 := by decide +kernel

end Go.Proofs.YtanpfodmmeagaaaDoor
