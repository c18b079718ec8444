/-
  Plain arithmetic of digests: words of 32 bits, a block's words, its rounds, the text with what comes behind. No program is spoken of here.
-/
import Derived.WalkKit
namespace Go.Proofs.Ytcoiincgclglbaa

def rotrN (x n : Nat) : Nat := x / 2 ^ n ||| x * 2 ^ (32 - n) % 4294967296
theorem rotrN_lt {x n : Nat} (h : x < 2 ^ 32) : rotrN x n < 2 ^ 32 := by
  unfold rotrN
  exact Nat.or_lt_two_pow (Nat.lt_of_le_of_lt (Nat.div_le_self _ _) h) (by omega)
def add32 (a b : Nat) : Nat := (a + b) % 4294967296
theorem add32_lt (a b : Nat) : add32 a b < 2 ^ 32 := by unfold add32; omega
def not32 (a : Nat) : Nat := 4294967295 ^^^ a
theorem not32_lt {a : Nat} (h : a < 2 ^ 32) : not32 a < 2 ^ 32 := Nat.xor_lt_two_pow (by decide) h
def sch0 (x : Nat) : Nat := rotrN x 7 ^^^ rotrN x 18 ^^^ x / 8
def sch1 (x : Nat) : Nat := rotrN x 17 ^^^ rotrN x 19 ^^^ x / 1024
def big0 (x : Nat) : Nat := rotrN x 2 ^^^ rotrN x 13 ^^^ rotrN x 22
def big1 (x : Nat) : Nat := rotrN x 6 ^^^ rotrN x 11 ^^^ rotrN x 25
def chN (e f g : Nat) : Nat := (e &&& f) ^^^ (not32 e &&& g)
def majN (a b c : Nat) : Nat := (a &&& b) ^^^ (a &&& c) ^^^ (b &&& c)
theorem xor_lt {a b : Nat} (ha : a < 2 ^ 32) (hb : b < 2 ^ 32) : a ^^^ b < 2 ^ 32 := Nat.xor_lt_two_pow ha hb
theorem and_lt {a b : Nat} (hb : b < 2 ^ 32) : a &&& b < 2 ^ 32 := Nat.and_lt_two_pow _ hb
theorem div_lt {a k : Nat} (h : a < 2 ^ 32) : a / k < 2 ^ 32 := Nat.lt_of_le_of_lt (Nat.div_le_self _ _) h
theorem sch0_lt {x : Nat} (h : x < 2 ^ 32) : sch0 x < 2 ^ 32 := xor_lt (xor_lt (rotrN_lt h) (rotrN_lt h)) (div_lt h)
theorem sch1_lt {x : Nat} (h : x < 2 ^ 32) : sch1 x < 2 ^ 32 := xor_lt (xor_lt (rotrN_lt h) (rotrN_lt h)) (div_lt h)
theorem big0_lt {x : Nat} (h : x < 2 ^ 32) : big0 x < 2 ^ 32 := xor_lt (xor_lt (rotrN_lt h) (rotrN_lt h)) (rotrN_lt h)
theorem big1_lt {x : Nat} (h : x < 2 ^ 32) : big1 x < 2 ^ 32 := xor_lt (xor_lt (rotrN_lt h) (rotrN_lt h)) (rotrN_lt h)
theorem chN_lt {e f g : Nat} (hf : f < 2 ^ 32) (hg : g < 2 ^ 32) : chN e f g < 2 ^ 32 := xor_lt (and_lt hf) (and_lt hg)
theorem majN_lt {a b c : Nat} (hb : b < 2 ^ 32) (hc : c < 2 ^ 32) : majN a b c < 2 ^ 32 := xor_lt (xor_lt (and_lt hb) (and_lt hc)) (and_lt hc)

/-- The number that four bytes from place i on are. -/
def be4 (b : List Nat) (i : Nat) : Nat := b.getD i 0 * 16777216 + b.getD (i + 1) 0 * 65536 + b.getD (i + 2) 0 * 256 + b.getD (i + 3) 0
/-- The first t words of a block. -/
def nextW (w : List Nat) (t : Nat) : Nat := add32 (add32 (add32 (sch1 (w.getD (t - 2) 0)) (w.getD (t - 7) 0)) (sch0 (w.getD (t - 15) 0))) (w.getD (t - 16) 0)
def wordsTo (b : List Nat) : Nat → List Nat
  | 0 => []
  | t + 1 => wordsTo b t ++ [if t < 16 then be4 b (4 * t) else nextW (wordsTo b t) t]
theorem wordsTo_len (b : List Nat) (t : Nat) : (wordsTo b t).length = t := by
  induction t with
  | zero => rfl
  | succ t ih => simp [wordsTo, ih]
theorem getD_lt {l : List Nat} {m : Nat} (hm : 0 < m) (h : ∀ x ∈ l, x < m) (i : Nat) : l.getD i 0 < m := by
  rcases Nat.lt_or_ge i l.length with g | g
  · rw [List.getD_eq_getElem?_getD, List.getElem?_eq_getElem g]
    exact h _ (List.getElem_mem g)
  · simp [List.getD, g, hm]
theorem be4_lt {b : List Nat} (h : ∀ x ∈ b, x < 256) (i : Nat) : be4 b i < 2 ^ 32 := by
  have h0 := getD_lt (by decide) h i
  have h1 := getD_lt (by decide) h (i + 1)
  have h2 := getD_lt (by decide) h (i + 2)
  have h3 := getD_lt (by decide) h (i + 3)
  unfold be4
  omega
theorem wordsTo_lt {b : List Nat} (h : ∀ x ∈ b, x < 256) (t : Nat) : ∀ x ∈ wordsTo b t, x < 2 ^ 32 := by
  induction t with
  | zero => intro x hx; simp [wordsTo] at hx
  | succ t ih =>
    intro x hx
    rcases List.mem_append.1 hx with hx | hx
    · exact ih x hx
    · simp only [List.mem_singleton] at hx
      subst hx
      split
      · exact be4_lt h _
      · exact add32_lt _ _

/-- The eight numbers of a round. -/
structure Eight where
  a : Nat
  b : Nat
  c : Nat
  d : Nat
  e : Nat
  f : Nat
  g : Nat
  h : Nat
def Eight.ok (s : Eight) : Prop := s.a < 2 ^ 32 ∧ s.b < 2 ^ 32 ∧ s.c < 2 ^ 32 ∧ s.d < 2 ^ 32 ∧ s.e < 2 ^ 32 ∧ s.f < 2 ^ 32 ∧ s.g < 2 ^ 32 ∧ s.h < 2 ^ 32
def t1N (s : Eight) (k w : Nat) : Nat := add32 (add32 (add32 (add32 s.h (big1 s.e)) (chN s.e s.f s.g)) k) w
def t2N (s : Eight) : Nat := add32 (big0 s.a) (majN s.a s.b s.c)
def roundN (s : Eight) (k w : Nat) : Eight := ⟨add32 (t1N s k w) (t2N s), s.a, s.b, s.c, add32 s.d (t1N s k w), s.e, s.f, s.g⟩
theorem roundN_ok {s : Eight} (h : s.ok) (k w : Nat) : (roundN s k w).ok := ⟨add32_lt _ _, h.1, h.2.1, h.2.2.1, add32_lt _ _, h.2.2.2.2.1, h.2.2.2.2.2.1, h.2.2.2.2.2.2.1⟩
def roundsTo (s : Eight) (ks ws : List Nat) : Nat → Eight
  | 0 => s
  | t + 1 => roundN (roundsTo s ks ws t) (ks.getD t 0) (ws.getD t 0)
theorem roundsTo_ok {s : Eight} (h : s.ok) (ks ws : List Nat) (t : Nat) : (roundsTo s ks ws t).ok := by
  induction t with
  | zero => exact h
  | succ t ih => exact roundN_ok ih _ _
def Eight.plus (s u : Eight) : Eight := ⟨add32 s.a u.a, add32 s.b u.b, add32 s.c u.c, add32 s.d u.d, add32 s.e u.e, add32 s.f u.f, add32 s.g u.g, add32 s.h u.h⟩
theorem Eight.plus_ok (s u : Eight) : (s.plus u).ok := ⟨add32_lt _ _, add32_lt _ _, add32_lt _ _, add32_lt _ _, add32_lt _ _, add32_lt _ _, add32_lt _ _, add32_lt _ _⟩
def Eight.list (s : Eight) : List Nat := [s.a, s.b, s.c, s.d, s.e, s.f, s.g, s.h]

def shaK : List Nat := [
  0x428a2f98, 0x71374491, 0xb5c0fbcf, 0xe9b5dba5, 0x3956c25b, 0x59f111f1, 0x923f82a4, 0xab1c5ed5, 0xd807aa98, 0x12835b01, 0x243185be, 0x550c7dc3, 0x72be5d74, 0x80deb1fe, 0x9bdc06a7, 0xc19bf174,
  0xe49b69c1, 0xefbe4786, 0x0fc19dc6, 0x240ca1cc, 0x2de92c6f, 0x4a7484aa, 0x5cb0a9dc, 0x76f988da, 0x983e5152, 0xa831c66d, 0xb00327c8, 0xbf597fc7, 0xc6e00bf3, 0xd5a79147, 0x06ca6351, 0x14292967,
  0x27b70a85, 0x2e1b2138, 0x4d2c6dfc, 0x53380d13, 0x650a7354, 0x766a0abb, 0x81c2c92e, 0x92722c85, 0xa2bfe8a1, 0xa81a664b, 0xc24b8b70, 0xc76c51a3, 0xd192e819, 0xd6990624, 0xf40e3585, 0x106aa070,
  0x19a4c116, 0x1e376c08, 0x2748774c, 0x34b0bcb5, 0x391c0cb3, 0x4ed8aa4a, 0x5b9cca4f, 0x682e6ff3, 0x748f82ee, 0x78a5636f, 0x84c87814, 0x8cc70208, 0x90befffa, 0xa4506ceb, 0xbef9a3f7, 0xc67178f2]
def shaH : Eight := ⟨0x6a09e667, 0xbb67ae85, 0x3c6ef372, 0xa54ff53a, 0x510e527f, 0x9b05688c, 0x1f83d9ab, 0x5be0cd19⟩
/-- One block. -/
def blockN (s : Eight) (b : List Nat) : Eight := s.plus (roundsTo s shaK (wordsTo b 64) 64)
theorem blockN_ok (s : Eight) (b : List Nat) : (blockN s b).ok := Eight.plus_ok _ _
/-- The first k blocks of a text. -/
def blocksTo (s : Eight) (text : List Nat) : Nat → Eight
  | 0 => s
  | k + 1 => blockN (blocksTo s text k) ((text.drop (64 * k)).take 64)
theorem blocksTo_ok {s : Eight} (h : s.ok) (text : List Nat) (k : Nat) : (blocksTo s text k).ok := by
  cases k with
  | zero => exact h
  | succ k => exact blockN_ok _ _
/-- How many bytes 0 come behind. -/
def padZ (n : Nat) : Nat := (119 - n % 64) % 64
def lenBytes (n : Nat) : List Nat := (List.range 8).map fun i => n * 8 / 256 ^ (7 - i) % 256
def padded (b : List Nat) : List Nat := b ++ [128] ++ List.replicate (padZ b.length) 0 ++ lenBytes b.length
theorem padded_len (b : List Nat) : (padded b).length % 64 = 0 := by
  simp [padded, lenBytes, padZ]; omega
def be4s (n : Nat) : List Nat := [n / 16777216 % 256, n / 65536 % 256, n / 256 % 256, n % 256]
def digestN (b : List Nat) : List Nat := (blocksTo shaH (padded b) ((padded b).length / 64)).list.flatMap be4s

end Go.Proofs.Ytcoiincgclglbaa
