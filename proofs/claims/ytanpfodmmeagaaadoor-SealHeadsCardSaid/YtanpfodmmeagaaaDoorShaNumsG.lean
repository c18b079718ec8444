/-
  Plain arithmetic of digests: words of 32 bits, a block's words, its rounds, the text with what comes behind. No program is spoken of here. What is asked of the layer sha, as properties of its calls: the digest of bytes; a hash that takes bytes in parts, whatever it keeps, and wherever: a property R of a world, of the blocks that are the hash's own, of its address and of what it took. Asked in worlds that come out of a world w0: what stood there stands. What is asked of the document's digest. Plain arithmetic of codes: a key of 64 bytes with another byte added, the code, a key for a purpose. No program is spoken of here. The document's own codes (stowageref04), their smaller functions: what they answer; nothing that was there is changed. A slice of bytes of one's own by its cells alone (a string's bytes among them): what it holds, its room, append onto it. The document's own keys for a purpose (stowageref04): what they answer; nothing that was there is changed.
-/
import Derived.WalkKit
import Derived.Test.YtanpfodmmeagaaaDoorWordsG
import Derived.Test.YtanpfodmmeagaaaDoorChecked
import Derived.Tactics
import Derived.Tactics2
import Derived.LoopTactic
import Derived.OpenShut
import Derived.WalkLawsBesides
import Derived.BigQuiet
import Derived.BigRegion
import Derived.Deep.RegionHeld3
import Derived.Deep.DeepCutAuto
import Derived.ArgAppend
import Derived.Lib.ConvBytes
namespace Go.Proofs.YtanpfodmmeagaaaDoor

def rotrN (x n : Nat) : Nat := x / 2 ^ n ||| x * 2 ^ (32 - n) % 4294967296
theorem rotrN_lt {x n : Nat} (h : x < 2 ^ 32) : rotrN x n < 2 ^ 32 := by
  unfold rotrN
  exact Nat.or_lt_two_pow (Nat.lt_of_le_of_lt (Nat.div_le_self _ _) h) (by omega)
def add32 (a b : Nat) : Nat := (a + b) % 4294967296
theorem add32_lt (a b : Nat) : add32 a b < 2 ^ 32 := by unfold add32; omega
def not32 (a : Nat) : Nat := 4294967295 ^^^ a
theorem not32_lt {a : Nat} (h : a < 2 ^ 32) : not32 a < 2 ^ 32 := Nat.xor_lt_two_pow (by decide) h
def sch0 (x : Nat) : Nat := rotrN x 7 ^^^ rotrN x 18 ^^^ x / 8
def sch1 (x : Nat) : Nat := rotrN x 17 ^^^ rotrN x 19 ^^^ x / 1024
def big0 (x : Nat) : Nat := rotrN x 2 ^^^ rotrN x 13 ^^^ rotrN x 22
def big1 (x : Nat) : Nat := rotrN x 6 ^^^ rotrN x 11 ^^^ rotrN x 25
def chN (e f g : Nat) : Nat := (e &&& f) ^^^ (not32 e &&& g)
def majN (a b c : Nat) : Nat := (a &&& b) ^^^ (a &&& c) ^^^ (b &&& c)
theorem xor_lt {a b : Nat} (ha : a < 2 ^ 32) (hb : b < 2 ^ 32) : a ^^^ b < 2 ^ 32 := Nat.xor_lt_two_pow ha hb
theorem and_lt {a b : Nat} (hb : b < 2 ^ 32) : a &&& b < 2 ^ 32 := Nat.and_lt_two_pow _ hb
theorem div_lt {a k : Nat} (h : a < 2 ^ 32) : a / k < 2 ^ 32 := Nat.lt_of_le_of_lt (Nat.div_le_self _ _) h
theorem sch0_lt {x : Nat} (h : x < 2 ^ 32) : sch0 x < 2 ^ 32 := xor_lt (xor_lt (rotrN_lt h) (rotrN_lt h)) (div_lt h)
theorem sch1_lt {x : Nat} (h : x < 2 ^ 32) : sch1 x < 2 ^ 32 := xor_lt (xor_lt (rotrN_lt h) (rotrN_lt h)) (div_lt h)
theorem big0_lt {x : Nat} (h : x < 2 ^ 32) : big0 x < 2 ^ 32 := xor_lt (xor_lt (rotrN_lt h) (rotrN_lt h)) (rotrN_lt h)
theorem big1_lt {x : Nat} (h : x < 2 ^ 32) : big1 x < 2 ^ 32 := xor_lt (xor_lt (rotrN_lt h) (rotrN_lt h)) (rotrN_lt h)
theorem chN_lt {e f g : Nat} (hf : f < 2 ^ 32) (hg : g < 2 ^ 32) : chN e f g < 2 ^ 32 := xor_lt (and_lt hf) (and_lt hg)
theorem majN_lt {a b c : Nat} (hb : b < 2 ^ 32) (hc : c < 2 ^ 32) : majN a b c < 2 ^ 32 := xor_lt (xor_lt (and_lt hb) (and_lt hc)) (and_lt hc)

/-- The number that four bytes from place i on are. -/
def be4 (b : List Nat) (i : Nat) : Nat := b.getD i 0 * 16777216 + b.getD (i + 1) 0 * 65536 + b.getD (i + 2) 0 * 256 + b.getD (i + 3) 0
/-- The first t words of a block. -/
def nextW (w : List Nat) (t : Nat) : Nat := add32 (add32 (add32 (sch1 (w.getD (t - 2) 0)) (w.getD (t - 7) 0)) (sch0 (w.getD (t - 15) 0))) (w.getD (t - 16) 0)
def wordsTo (b : List Nat) : Nat → List Nat
  | 0 => []
  | t + 1 => wordsTo b t ++ [if t < 16 then be4 b (4 * t) else nextW (wordsTo b t) t]
theorem wordsTo_len (b : List Nat) (t : Nat) : (wordsTo b t).length = t := by
  induction t with
  | zero => rfl
  | succ t ih => simp [wordsTo, ih]
theorem getD_lt {l : List Nat} {m : Nat} (hm : 0 < m) (h : ∀ x ∈ l, x < m) (i : Nat) : l.getD i 0 < m := by
  rcases Nat.lt_or_ge i l.length with g | g
  · rw [List.getD_eq_getElem?_getD, List.getElem?_eq_getElem g]
    exact h _ (List.getElem_mem g)
  · simp [List.getD, g, hm]
theorem be4_lt {b : List Nat} (h : ∀ x ∈ b, x < 256) (i : Nat) : be4 b i < 2 ^ 32 := by
  have h0 := getD_lt (by decide) h i
  have h1 := getD_lt (by decide) h (i + 1)
  have h2 := getD_lt (by decide) h (i + 2)
  have h3 := getD_lt (by decide) h (i + 3)
  unfold be4
  omega
theorem wordsTo_lt {b : List Nat} (h : ∀ x ∈ b, x < 256) (t : Nat) : ∀ x ∈ wordsTo b t, x < 2 ^ 32 := by
  induction t with
  | zero => intro x hx; simp [wordsTo] at hx
  | succ t ih =>
    intro x hx
    rcases List.mem_append.1 hx with hx | hx
    · exact ih x hx
    · simp only [List.mem_singleton] at hx
      subst hx
      split
      · exact be4_lt h _
      · exact add32_lt _ _

/-- The eight numbers of a round. -/
structure Eight where
  a : Nat
  b : Nat
  c : Nat
  d : Nat
  e : Nat
  f : Nat
  g : Nat
  h : Nat
def Eight.ok (s : Eight) : Prop := s.a < 2 ^ 32 ∧ s.b < 2 ^ 32 ∧ s.c < 2 ^ 32 ∧ s.d < 2 ^ 32 ∧ s.e < 2 ^ 32 ∧ s.f < 2 ^ 32 ∧ s.g < 2 ^ 32 ∧ s.h < 2 ^ 32
def t1N (s : Eight) (k w : Nat) : Nat := add32 (add32 (add32 (add32 s.h (big1 s.e)) (chN s.e s.f s.g)) k) w
def t2N (s : Eight) : Nat := add32 (big0 s.a) (majN s.a s.b s.c)
def roundN (s : Eight) (k w : Nat) : Eight := ⟨add32 (t1N s k w) (t2N s), s.a, s.b, s.c, add32 s.d (t1N s k w), s.e, s.f, s.g⟩
theorem roundN_ok {s : Eight} (h : s.ok) (k w : Nat) : (roundN s k w).ok := ⟨add32_lt _ _, h.1, h.2.1, h.2.2.1, add32_lt _ _, h.2.2.2.2.1, h.2.2.2.2.2.1, h.2.2.2.2.2.2.1⟩
def roundsTo (s : Eight) (ks ws : List Nat) : Nat → Eight
  | 0 => s
  | t + 1 => roundN (roundsTo s ks ws t) (ks.getD t 0) (ws.getD t 0)
theorem roundsTo_ok {s : Eight} (h : s.ok) (ks ws : List Nat) (t : Nat) : (roundsTo s ks ws t).ok := by
  induction t with
  | zero => exact h
  | succ t ih => exact roundN_ok ih _ _
def Eight.plus (s u : Eight) : Eight := ⟨add32 s.a u.a, add32 s.b u.b, add32 s.c u.c, add32 s.d u.d, add32 s.e u.e, add32 s.f u.f, add32 s.g u.g, add32 s.h u.h⟩
theorem Eight.plus_ok (s u : Eight) : (s.plus u).ok := ⟨add32_lt _ _, add32_lt _ _, add32_lt _ _, add32_lt _ _, add32_lt _ _, add32_lt _ _, add32_lt _ _, add32_lt _ _⟩
def Eight.list (s : Eight) : List Nat := [s.a, s.b, s.c, s.d, s.e, s.f, s.g, s.h]

def shaK : List Nat := [
  0x428a2f98, 0x71374491, 0xb5c0fbcf, 0xe9b5dba5, 0x3956c25b, 0x59f111f1, 0x923f82a4, 0xab1c5ed5, 0xd807aa98, 0x12835b01, 0x243185be, 0x550c7dc3, 0x72be5d74, 0x80deb1fe, 0x9bdc06a7, 0xc19bf174,
  0xe49b69c1, 0xefbe4786, 0x0fc19dc6, 0x240ca1cc, 0x2de92c6f, 0x4a7484aa, 0x5cb0a9dc, 0x76f988da, 0x983e5152, 0xa831c66d, 0xb00327c8, 0xbf597fc7, 0xc6e00bf3, 0xd5a79147, 0x06ca6351, 0x14292967,
  0x27b70a85, 0x2e1b2138, 0x4d2c6dfc, 0x53380d13, 0x650a7354, 0x766a0abb, 0x81c2c92e, 0x92722c85, 0xa2bfe8a1, 0xa81a664b, 0xc24b8b70, 0xc76c51a3, 0xd192e819, 0xd6990624, 0xf40e3585, 0x106aa070,
  0x19a4c116, 0x1e376c08, 0x2748774c, 0x34b0bcb5, 0x391c0cb3, 0x4ed8aa4a, 0x5b9cca4f, 0x682e6ff3, 0x748f82ee, 0x78a5636f, 0x84c87814, 0x8cc70208, 0x90befffa, 0xa4506ceb, 0xbef9a3f7, 0xc67178f2]
def shaH : Eight := ⟨0x6a09e667, 0xbb67ae85, 0x3c6ef372, 0xa54ff53a, 0x510e527f, 0x9b05688c, 0x1f83d9ab, 0x5be0cd19⟩
/-- One block. -/
def blockN (s : Eight) (b : List Nat) : Eight := s.plus (roundsTo s shaK (wordsTo b 64) 64)
theorem blockN_ok (s : Eight) (b : List Nat) : (blockN s b).ok := Eight.plus_ok _ _
/-- The first k blocks of a text. -/
def blocksTo (s : Eight) (text : List Nat) : Nat → Eight
  | 0 => s
  | k + 1 => blockN (blocksTo s text k) ((text.drop (64 * k)).take 64)
theorem blocksTo_ok {s : Eight} (h : s.ok) (text : List Nat) (k : Nat) : (blocksTo s text k).ok := by
  cases k with
  | zero => exact h
  | succ k => exact blockN_ok _ _
/-- How many bytes 0 come behind. -/
def padZ (n : Nat) : Nat := (119 - n % 64) % 64
def lenBytes (n : Nat) : List Nat := (List.range 8).map fun i => n * 8 / 256 ^ (7 - i) % 256
def padded (b : List Nat) : List Nat := b ++ [128] ++ List.replicate (padZ b.length) 0 ++ lenBytes b.length
theorem padded_len (b : List Nat) : (padded b).length % 64 = 0 := by
  simp [padded, lenBytes, padZ]; omega
def be4s (n : Nat) : List Nat := [n / 16777216 % 256, n / 65536 % 256, n / 256 % 256, n % 256]
def digestN (b : List Nat) : List Nat := (blocksTo shaH (padded b) ((padded b).length / 64)).list.flatMap be4s

end Go.Proofs.YtanpfodmmeagaaaDoor

namespace Go.Proofs.YtanpfodmmeagaaaDoor
open Go.RowKit

def DigestSpec (w0 : World) : Prop := ∀ (A : Option Addr) (c : Nat) (b : List Nat) (w : World), Below w0.heap.size w0 w → Ints w w.heap.size .u8 A (up b) → (A = none → c = 0) → (∀ x ∈ b, x < 256) → b.length ≤ c → b.length ≤ 140737488355000 →
  Calls Tryd.prog 58 #[.slice A b.length c] w fun e w' => e = .returned (.agg (BA (digestN b))) ∧ Below w.heap.size w w'

def RefSpec : Prop := ∀ (A0 : Option Addr) (c0 : Nat) (b : List Nat) (w : World), Ints w w.heap.size .u8 A0 (up b) → (A0 = none → c0 = 0) → (∀ x ∈ b, x < 256) → b.length ≤ 140737488355000 →
  Calls Tryd.prog 42 #[.slice A0 b.length c0] w fun e w' => ∃ A c, e = .returned (.slice A 32 c) ∧ 32 ≤ c ∧ Ints w' w'.heap.size .u8 A (up (digestN b)) ∧ Below w.heap.size w w'

theorem digest_len (b : List Nat) : (digestN b).length = 32 := rfl
def zero32 : Array Value := BA (List.replicate 32 0)
/-- All blocks that were there, and are not F's, are as they were. -/
structure Off (F : Nat → Prop) (w w' : World) : Prop where
  os : w'.os = w.os
  tape : w'.tape = w.tape
  output : w'.output = w.output
  size : w.heap.size ≤ w'.heap.size
  block : ∀ k, k < w.heap.size → ¬ F k → w'.heap[k]? = w.heap[k]?
theorem Off.below {F : Nat → Prop} {w0 w w' : World} (h : Off F w w') (hb : Below w0.heap.size w0 w) (hF : ∀ k, F k → w0.heap.size ≤ k) : Below w0.heap.size w0 w' :=
  hb.trans ⟨h.os, h.tape, h.output, h.size, fun k hk => h.block k (Nat.lt_of_lt_of_le hk hb.size) fun hf => by have := hF k hf; omega⟩

theorem Tryd.infoU8' : (Tryd.prog.info? 5).map (fun i => (i.zero, i.size, i.bytes)) = some (some (.int .u8 0), 1, 1) := by kernel_rfl

structure HashSpec (w0 : World) (R : World → (Nat → Prop) → Addr → List Nat → Prop) : Prop where
  new : ∀ w, Below w0.heap.size w0 w → Calls Tryd.prog 59 #[] w fun e w' => ∃ a F, e = .returned (.pointer (some a)) ∧ R w' F a [] ∧ (∀ k, F k → w.heap.size ≤ k ∧ k < w'.heap.size) ∧ Below w.heap.size w w'
  write : ∀ (w : World) (F : Nat → Prop) (a : Addr) (t : List Nat) (A : Option Addr) (c B : Nat) (b : List Nat), Below w0.heap.size w0 w → R w F a t → (∀ k, F k → B ≤ k ∧ k < w.heap.size) → B ≤ w.heap.size → Ints w B .u8 A (up b) → (A = none → c = 0) →
    (∀ x ∈ b, x < 256) → b.length ≤ c → t.length + b.length ≤ 140737488355000 →
    Calls Tryd.prog 60 #[.pointer (some a), .slice A b.length c] w fun e w' => e = .returned (.tuple #[]) ∧ ∃ F', R w' F' a (t ++ b) ∧ (∀ k, F' k → (F k ∨ w.heap.size ≤ k) ∧ k < w'.heap.size) ∧ Off F w w'
  sum : ∀ (w : World) (F : Nat → Prop) (a : Addr) (t : List Nat), Below w0.heap.size w0 w → R w F a t → (∀ k, F k → k < w.heap.size) → (∀ x ∈ t, x < 256) → t.length ≤ 140737488355000 →
    Calls Tryd.prog 61 #[.pointer (some a)] w fun e w' => e = .returned (.agg (BA (digestN t))) ∧ ∃ F', R w' F' a t ∧ (∀ k, F' k → (F k ∨ w.heap.size ≤ k) ∧ k < w'.heap.size) ∧ Off F w w'
  keep : ∀ (w w' : World) (F : Nat → Prop) (a : Addr) (t : List Nat), R w F a t → (∀ k, F k → w'.heap[k]? = w.heap[k]?) → R w' F a t
  nilWrite : ∀ (w : World) (A : Option Addr) (n c : Nat), Calls Tryd.prog 60 #[.pointer none, .slice A n c] w fun e w' => e = .returned (.tuple #[]) ∧ Below w.heap.size w w'
  nilSum : ∀ (w : World), Calls Tryd.prog 61 #[.pointer none] w fun e w' => e = .returned (.agg zero32) ∧ Below w.heap.size w w'

end Go.Proofs.YtanpfodmmeagaaaDoor

namespace Go.Proofs.YtanpfodmmeagaaaDoor

def xorTo (key : List Nat) (x : Nat) (n : Nat) : List Nat := (List.range n).map fun i => key.getD i 0 ^^^ x
def xorK (key : List Nat) (x : Nat) : List Nat := xorTo key x 64
theorem xorTo_len (key : List Nat) (x n : Nat) : (xorTo key x n).length = n := by simp [xorTo]
theorem xorTo_succ (key : List Nat) (x n : Nat) : xorTo key x (n + 1) = xorTo key x n ++ [key.getD n 0 ^^^ x] := by simp [xorTo, List.range_succ]
theorem xorTo_lt {key : List Nat} (hk : ∀ b ∈ key, b < 256) {x : Nat} (hx : x < 256) (n : Nat) : ∀ b ∈ xorTo key x n, b < 256 := by
  intro b hb
  obtain ⟨i, _, rfl⟩ := List.mem_map.1 hb
  exact Nat.xor_lt_two_pow (n := 8) (getD_lt (by decide) hk i) hx
theorem be4s_lt (n : Nat) : ∀ b ∈ be4s n, b < 256 := by
  intro b hb
  simp only [be4s, List.mem_cons, List.not_mem_nil, or_false] at hb
  rcases hb with rfl | rfl | rfl | rfl <;> omega
theorem digestN_lt (t : List Nat) : ∀ b ∈ digestN t, b < 256 := by
  intro b hb
  obtain ⟨n, _, hb⟩ := List.mem_flatMap.1 hb
  exact be4s_lt n b hb
theorem digestN_len (t : List Nat) : (digestN t).length = 32 := rfl
def keyN (key : List Nat) : List Nat := if 64 < key.length then digestN key else key
theorem keyN_lt {key : List Nat} (hk : ∀ b ∈ key, b < 256) : ∀ b ∈ keyN key, b < 256 := by
  unfold keyN
  split
  · exact digestN_lt _
  · exact hk
theorem keyN_len (key : List Nat) : (keyN key).length ≤ 64 := by
  unfold keyN
  split
  · rw [digestN_len]; decide
  · omega
def innerN (key text : List Nat) : List Nat := digestN (xorK (keyN key) 0x36 ++ text)
def macN (key text : List Nat) : List Nat := digestN (xorK (keyN key) 0x5C ++ innerN key text)
theorem macN_lt (key text : List Nat) : ∀ b ∈ macN key text, b < 256 := digestN_lt _
theorem macN_len (key text : List Nat) : (macN key text).length = 32 := rfl
/-- Bytes 0 behind a short key change nothing. -/
theorem xorTo_zero (key : List Nat) (x n : Nat) : xorTo (key ++ [0]) x n = xorTo key x n := by
  unfold xorTo
  apply List.map_congr_left
  intro i _
  congr 1
  rcases Nat.lt_trichotomy i key.length with h | h | h
  · simp [List.getD_eq_getElem?_getD, List.getElem?_append_left h]
  · subst h
    simp [List.getD_eq_getElem?_getD]
  · have h1 : ¬ i < key.length := by omega
    have h2 : key.length ≤ i := by omega
    have h3 : ¬ i - key.length < 1 := by omega
    simp [List.getD_eq_getElem?_getD, List.getElem?_append_right h2, List.getElem?_eq_none h2]
    rw [List.getElem?_eq_none (by simp; omega)]
    rfl
theorem macN_zero (key text : List Nat) (h : key.length < 64) : macN (key ++ [0]) text = macN key text := by
  have h1 : keyN (key ++ [0]) = key ++ [0] := if_neg (by rw [List.length_append, List.length_singleton]; omega)
  have h2 : keyN key = key := if_neg (by omega)
  unfold macN innerN xorK
  rw [h1, h2, xorTo_zero, xorTo_zero]
/-- A long key is its digest. -/
theorem macN_long (key text : List Nat) (h : 64 < key.length) : macN (digestN key) text = macN key text := by
  have h1 : keyN key = digestN key := if_pos h
  have h2 : keyN (digestN key) = digestN key := if_neg (by rw [digestN_len]; decide)
  unfold macN innerN
  rw [h1, h2]
/-- A number as 8 bytes, of n modulo 2^64. -/
def eightTo (n : Nat) (k : Nat) : List Nat := (List.range k).map fun i => n / 256 ^ (7 - i) % 256
theorem eightTo_succ (n k : Nat) : eightTo n (k + 1) = eightTo n k ++ [n / 256 ^ (7 - k) % 256] := by simp [eightTo, List.range_succ]
def eightN (n : Int) : List Nat := eightTo (n % 18446744073709551616).toNat 8
theorem eightN_lt (n : Int) : ∀ b ∈ eightN n, b < 256 := by
  intro b hb
  obtain ⟨i, _, rfl⟩ := List.mem_map.1 hb
  omega
def deriveN (key purpose : List Nat) (n : Int) : List Nat := (macN key (purpose ++ [0] ++ eightN n)).take 16

end Go.Proofs.YtanpfodmmeagaaaDoor

namespace Go.Proofs.YtanpfodmmeagaaaDoor
open Go.RowKit

theorem u8_x (a b : Nat) (ha : a < 256) (hb : b < 256) : bits .xor .u8 (a : Int) (b : Int) = ((a ^^^ b : Nat) : Int) := u8_xor_nat a b ha hb

set_option maxRecDepth 20000 in
theorem with_any (A : Option Addr) (c x : Nat) (key : List Nat) (w : World) (h0 : Ints w w.heap.size .u8 A (up key)) (hb : ∀ b ∈ key, b < 256) (hx : x < 256) :
    Calls Tryd.prog 43 #[.slice A key.length c, .int .u8 (x : Int)] w fun e w' => ∃ v, e = .returned v ∧ w'.ownsRow w.heap.size 5 1 v 64 ((up (xorK key x)).map (Value.int .u8)) ∧ Below w.heap.size w w' := by
  obtain ⟨i0, hi, hz0, hz1, hz2⟩ := info_parts Tryd.infoU8'
  have HB := Lib.hid hb
  clear hb
  go_enter Tryd.func43, Tryd.ntmps43
  go_wp2
  go_loopw [5, 6] (fun v i wr => ∃ k : Nat, k ≤ 64 ∧ i = .int .i64 k ∧ (∃ A c, v = .slice A k c) ∧ wr.ownsRow w.heap.size 5 1 v k ((up (xorTo key x k)).map (Value.int .u8)) ∧ Below w.heap.size w wr) (fun _ i _ => 64 - (intOf i).toNat)
  case atStart => exact ⟨0, by omega, rfl, ⟨_, _, rfl⟩, World.ownsRow_made w #[] 0 (Nat.le_refl _) (Nat.zero_le _) rfl, (Below.refl _ _).alloc (Nat.le_refl _) _⟩
  case round =>
    obtain ⟨k, hk, rfl, ⟨A5, c5, rfl⟩, hown, hbel⟩ := hrel
    by_cases hlt : k < 64
    · have hkd : key.getD k 0 < 256 := getD_lt (by decide) HB.out k
      have hcell : k < key.length → ∃ b off, A = some ⟨b, off, none⟩ ∧ wr.cell? ⟨b, off + k, none⟩ = some (.int .u8 (key.getD k 0 : Nat)) := fun h => by
        obtain ⟨b, off, e, _, hc⟩ := (h0.below hbel) k (by rw [up_len]; exact h)
        rw [up_getD] at hc
        exact ⟨b, off, e, hc⟩
      have hno : key.length ≤ k → key.getD k 0 = 0 := fun h => by rw [List.getD_eq_getElem?_getD, List.getElem?_eq_none h]; rfl
      have HN := Lib.hid (xorTo_succ key x k)
      obtain ⟨d, hd⟩ : ∃ d, d = key.getD k 0 := ⟨_, rfl⟩
      rw [← hd] at hkd hcell hno HN
      have hxr := u8_x d x hkd hx
      have hql : d ^^^ x < 256 := Nat.xor_lt_two_pow (n := 8) hkd hx
      obtain ⟨q, hq⟩ : ∃ q, q = d ^^^ x := ⟨_, rfl⟩
      rw [← hq] at hxr HN hql
      have hsz := hbel.size
      clear hd hq
      rcases Nat.lt_or_ge k key.length with hj | hj
      case' inl => obtain ⟨b, off, rfl, hc⟩ := hcell hj
      case' inr =>
        obtain rfl := hno hj
        replace hxr : bits .xor .u8 0 (x : Int) = ((q : Nat) : Int) := hxr
      all_goals
        clear hcell hno
        go_wp2_with (at_builtin; refine wpList_append_own_at _ rfl _ _ 24 rfl w.heap.size 5 i0 (.int .u8 0) 1 1 Tryd.underlying24 hi hz0 hz1 hz2 rfl (by decide) _ _ _ rfl (hown.alloc _) ⟨wr.heap.size, 0, none⟩ 1 1 [.int .u8 (q : Int)] rfl rfl (cell_one_new _ _ _) ?d1 ?d2 ?d3 ?d4 ?_)
        case d1 => intro u hu; simp at hu; subst hu; rfl
        case d2 => unfold maxLen; omega
        case d3 => omega
        case d4 => simp; omega
        intro v3 w3 hown3 hg3 _ _
        have R : w3.ownsRow w.heap.size 5 1 v3 (k + 1) ((up (xorTo key x (k + 1))).map (Value.int .u8)) ∧ Below w.heap.size w w3 := by
          refine ⟨?_, (hbel.alloc hsz _).grown hg3 (by simp; omega) fun q hq => (hown.lt q hq).1⟩
          rw [HN.out, up_append, List.map_append]
          exact hown3
        obtain ⟨A3, q3, hv3⟩ := own_slice R.1
        subst hv3
        clear hown3 hg3 hown hbel
        go_wp2
        go_roundw
        case rel => first | exact ⟨k + 1, by omega, by go_num, ⟨A3, q3, rfl⟩, R.1, R.2⟩ | ((repeat apply Exists.intro); exact ⟨⟨k + 1, by omega, by go_num, ⟨A3, q3, rfl⟩, R.1, R.2⟩, rfl⟩)
        case measure => simp [intOf]; omega
    · have hk64 : k = 64 := by omega
      subst hk64
      go_wp2
      go_ret
      exact ⟨_, rfl, hown, hbel⟩



set_option maxRecDepth 20000 in
set_option maxHeartbeats 800000 in
theorem refCode_any (HR : RefSpec) (A0 A1 : Option Addr) (c0 c1 : Nat) (key text : List Nat) (w : World) (h0 : Ints w w.heap.size .u8 A0 (up key)) (h1 : Ints w w.heap.size .u8 A1 (up text)) (hA0 : A0 = none → c0 = 0) (hA1 : A1 = none → c1 = 0) (hb0 : ∀ b ∈ key, b < 256) (hb1 : ∀ b ∈ text, b < 256)
    (hm0 : key.length ≤ 140737488355000) (hm1 : text.length ≤ 140737488354900) :
    Calls Tryd.prog 29 #[.slice A0 key.length c0, .slice A1 text.length c1] w fun e w' => ∃ A c, e = .returned (.slice A 32 c) ∧ 32 ≤ c ∧ Ints w' w'.heap.size .u8 A (up (macN key text)) ∧ Below w.heap.size w w' := by
  obtain ⟨i0, hi, hz0, hz1, hz2⟩ := info_parts Tryd.infoU8'
  have HK := Lib.hid (HR A0 c0 key w h0 hA0 hb0 hm0)
  have HKL := Lib.hid (keyN_lt hb0)
  have HX1 : Hid (∀ b ∈ xorK (keyN key) 54 ++ text, b < 256) := fun b hb => by
    rcases List.mem_append.1 hb with h | h
    · exact xorTo_lt (keyN_lt hb0) (by decide) 64 b h
    · exact hb1 b h
  have HX2 : Hid (∀ b ∈ xorK (keyN key) 92 ++ innerN key text, b < 256) := fun b hb => by
    rcases List.mem_append.1 hb with h | h
    · exact xorTo_lt (keyN_lt hb0) (by decide) 64 b h
    · exact digestN_lt _ b h
  have HA1 := Lib.hid hA1
  clear hb1
  go_enter Tryd.func29, Tryd.ntmps29
  go_upto_if 8 with fail
  go_cut [0] (fun s wx => ∃ A c, s = .slice A (keyN key).length c ∧ Ints wx wx.heap.size .u8 A (up (keyN key)) ∧ Below w.heap.size w wx)
  case first =>
    by_cases h6 : (64 : Int) < key.length
    · have hk : keyN key = digestN key := if_pos (by omega)
      go_wp2_with (go_at_call 42; with_reducible (refine Calls.mono HK.out ?_); rintro e w1 ⟨A, c, rfl, hc, hr, hb⟩)
      go_meet
      rw [hk]
      exact ⟨A, c, rfl, hr, hb⟩
    · have hk : keyN key = key := if_neg (by omega)
      go_wp2
      go_meet
      rw [hk]
      exact ⟨A0, c0, rfl, h0, Below.refl _ _⟩
  case rest =>
    obtain ⟨A2, c2, rfl, hr2, hb2⟩ := hcut
    have HW1 := Lib.hid (with_any A2 c2 54 (keyN key) _ hr2 HKL.out (by decide))
    have ht2 := h1.below hb2
    have HXL : (xorK (keyN key) 54).length = 64 := xorTo_len _ _ _
    clear h0 h1
    go_wp2_with (first
      | (go_at_call 43; with_reducible (refine Calls.mono HW1.out ?_); rintro e w3 ⟨v3, rfl, hown3, hb3⟩; obtain ⟨A3, c3, hv3⟩ := own_slice hown3; subst hv3)
      | (at_builtin; refine wpList_append_when _ rfl _ _ 24 rfl wc.heap.size 5 i0 (.int .u8 0) 1 Tryd.underlying24 hi hz0 hz1 hz2 rfl .u8 _ (up (xorK (keyN key) 54)) (up text) w.heap.size c1 text.length A1 (up_len text) rfl rfl (by rw [up_len, HXL]; exact hown3) (ht2.below (hb3.mono hb2.size)) HA1.out ?d1 ?d2 hb3.size ?_))
    case d1 => rw [up_len, up_len, HXL]; unfold maxLen; omega
    case d2 => rw [up_len, up_len, HXL]; omega
    intro v4 w4 hown4 hg4 _
    have b4 : Below wc.heap.size wc w4 := hb3.grown hg4 hb3.size fun q hq => (hown3.lt q hq).1
    have hw4 : w4.ownsRow wc.heap.size 5 1 v4 (xorK (keyN key) 54 ++ text).length ((up (xorK (keyN key) 54 ++ text)).map (Value.int .u8)) := by
      rw [up_append, List.map_append, List.length_append, ← up_len text, ← up_len (xorK (keyN key) 54)]; exact hown4
    clear hown4 hg4 hown3 hb3 ht2
    obtain ⟨A4, c4, hv4⟩ := own_slice hw4
    subst hv4
    have HD1 := Lib.hid (HR A4 c4 _ w4 (Ints.of_own (c := c4) (n := (xorK (keyN key) 54 ++ text).length) (by rw [up_len]; exact hw4)) (own_nil hw4) HX1.out (by rw [List.length_append, HXL]; omega))
    rw [List.length_append, HXL] at HD1
    clear hw4
    have HW2 := Lib.hid (fun (w5 : World) (h : Below wc.heap.size wc w5) => with_any A2 c2 92 (keyN key) w5 ((hr2.below h).more h.size) HKL.out (by decide))
    have HXL2 : (xorK (keyN key) 92).length = 64 := xorTo_len _ _ _
    go_wp2_with (first
      | (go_at_call 42; with_reducible (refine Calls.mono HD1.out ?_); rintro e w5 ⟨A5, c5, rfl, hc5, hr5, hb5⟩; have b5 := chain b4 hb5; have HN5 := nil_of_ints (c := c5) hr5 (by rw [up_len, digestN_len]; decide))
      | (go_at_call 43; with_reducible (refine Calls.mono (HW2.out _ b5) ?_); rintro e w6 ⟨v6, rfl, hown6, hb6⟩; obtain ⟨A6, c6, hv6⟩ := own_slice hown6; subst hv6)
      | (at_builtin; refine wpList_append_when _ rfl _ _ 24 rfl w5.heap.size 5 i0 (.int .u8 0) 1 Tryd.underlying24 hi hz0 hz1 hz2 rfl .u8 _ (up (xorK (keyN key) 92)) (up (innerN key text)) w5.heap.size c5 32 A5 (by rw [up_len]; rfl) rfl rfl (by rw [up_len, HXL2]; exact hown6) (hr5.below hb6) HN5 ?d1 ?d2 hb6.size ?_))
    case d1 => rw [up_len, up_len, HXL2]; show 64 + 32 ≤ maxLen; unfold maxLen; omega
    case d2 => rw [up_len, up_len, HXL2]; show (64 + 32) * 1 ≤ _; omega
    intro v7 w7 hown7 hg7 _
    have b7 : Below w5.heap.size w5 w7 := hb6.grown hg7 hb6.size fun q hq => (hown6.lt q hq).1
    have hw7 : w7.ownsRow w5.heap.size 5 1 v7 (xorK (keyN key) 92 ++ innerN key text).length ((up (xorK (keyN key) 92 ++ innerN key text)).map (Value.int .u8)) := by
      rw [up_append, List.map_append, List.length_append, ← up_len (innerN key text), ← up_len (xorK (keyN key) 92)]; exact hown7
    clear hown7 hg7 hown6 hb6
    obtain ⟨A7, c7, hv7⟩ := own_slice hw7
    subst hv7
    have HD2 := Lib.hid (HR A7 c7 _ w7 (Ints.of_own (c := c7) (n := (xorK (keyN key) 92 ++ innerN key text).length) (by rw [up_len]; exact hw7)) (own_nil hw7) HX2.out (by rw [List.length_append, HXL2]; show 64 + 32 ≤ _; omega))
    rw [List.length_append, HXL2, show (innerN key text).length = 32 from rfl] at HD2
    have HL3 : (innerN key text).length = 32 := rfl
    clear hw7
    have hc7 := chain (chain hb2 b5) b7
    go_wp2_with (go_at_call 42; with_reducible (refine Calls.mono HD2.out ?_); rintro e w8 ⟨A8, c8, rfl, hc8, hr8, hb8⟩; have b8 := chain hc7 hb8)
    go_ret
    exact ⟨_, _, rfl, hc8, hr8, b8⟩

end Go.Proofs.YtanpfodmmeagaaaDoor

namespace Go.Proofs.YtanpfodmmeagaaaDoor
open Go.RowKit

/-- The slice v holds the bytes l, in a block since base; all its room can be written. -/
def Room (w : World) (base : Nat) (v : Value) (l : List Nat) : Prop :=
  ∃ g cap, v = .slice (some ⟨g, 0, none⟩) l.length cap ∧ base ≤ g ∧ g < w.heap.size ∧ l.length ≤ cap ∧ cap ≤ maxLen ∧
    (∀ j, j < cap → (w.cell? ⟨g, j, none⟩).isSome = true ∧ w.frozen? ⟨g, j, none⟩ = false) ∧ ∀ j, j < l.length → w.cell? ⟨g, j, none⟩ = some (.int .u8 (l.getD j 0 : Nat))

theorem setCells_heap (b : Nat) : ∀ (vs : List Value) (o : Nat) (w : World) (k : Nat), k ≠ b → (w.setCells b o vs).heap[k]? = w.heap[k]?
  | [], _, _, _, _ => rfl
  | v :: r, o, w, k, h => by rw [World.setCells, setCells_heap b r (o + 1) _ k h, heap_setCell_other w ⟨b, o, none⟩ k v h]
theorem setCells_size (b : Nat) : ∀ (vs : List Value) (o : Nat) (w : World), (w.setCells b o vs).heap.size = w.heap.size
  | [], _, _ => rfl
  | v :: r, o, w => by rw [World.setCells, setCells_size b r (o + 1)]; simp [World.setCell]
theorem setCells_rest (b : Nat) : ∀ (vs : List Value) (o : Nat) (w : World), (w.setCells b o vs).os = w.os ∧ (w.setCells b o vs).tape = w.tape ∧ (w.setCells b o vs).output = w.output
  | [], _, _ => ⟨rfl, rfl, rfl⟩
  | v :: r, o, w => by rw [World.setCells]; exact setCells_rest b r (o + 1) _
theorem below_setCells {B : Nat} {w0 w : World} (hb : Below B w0 w) {b : Nat} (hB : B ≤ b) (o : Nat) (vs : List Value) : Below B w0 (w.setCells b o vs) := by
  obtain ⟨h1, h2, h3⟩ := setCells_rest b vs o w
  exact ⟨h1.trans hb.os, h2.trans hb.tape, h3.trans hb.output, by rw [setCells_size]; exact hb.size, fun k hk => (setCells_heap b vs o w k (by omega)).trans (hb.block k hk)⟩

section
variable {w w' : World} {base B : Nat} {v : Value} {l : List Nat}
theorem Room.below (h : Room w base v l) (hb : Below B w w') (hB : w.heap.size ≤ B) : Room w' base v l := by
  obtain ⟨g, cap, rfl, h1, h2, h3, h4, h5, h6⟩ := h
  exact ⟨g, cap, rfl, h1, Nat.lt_of_lt_of_le h2 hb.size, h3, h4, fun j hj => by rw [hb.cell (p := ⟨g, j, none⟩) (by simp only []; omega), hb.frozen (p := ⟨g, j, none⟩) (by simp only []; omega)]; exact h5 j hj, fun j hj => by rw [hb.cell (p := ⟨g, j, none⟩) (by simp only []; omega)]; exact h6 j hj⟩
theorem Room.form (h : Room w base v l) : ∃ A c, v = .slice A l.length c ∧ l.length ≤ c ∧ Ints w w.heap.size .u8 A (up l) ∧ (A = none → c = 0) := by
  obtain ⟨g, cap, rfl, h1, h2, h3, h4, h5, h6⟩ := h
  refine ⟨_, _, rfl, h3, fun i hi => ?_, fun h => by cases h⟩
  rw [up_len] at hi
  exact ⟨g, 0, rfl, h2, by rw [Nat.zero_add, h6 i hi, up_getD]⟩
theorem Room.of_own {e : TypeId} (h : w.ownsRow base e 1 v l.length ((up l).map (Value.int .u8))) (h0 : 0 < l.length) : Room w base v l := by
  rcases h.2 with ⟨rfl, hn⟩ | ⟨g, cap, cur, rfl, hb, hg, hl, hm, hs, ht⟩
  · omega
  · rw [Nat.mul_one] at hs ht
    refine ⟨g, cap, rfl, hb, ?_, hl, hm, fun j hj => ⟨?_, frozen_of_row w g j cur e hg⟩, fun j hj => ?_⟩
    · by_cases hlt : g < w.heap.size
      · exact hlt
      · have hn : w.heap[g]? = none := by simp; omega
        rw [hn] at hg
        cases hg
    · rw [cell_of_row w g j cur e _ hg]
      simp [hs, hj]
    · rw [cell_of_row w g j cur e _ hg, ← Array.getElem?_toList]
      have hq : cur.toList[j]? = (cur.toList.take l.length)[j]? := by rw [List.getElem?_take, if_pos hj]
      rw [hq, ht]
      simp [up, hj, List.getD_eq_getElem?_getD]
end

theorem ints_cells {w : World} {B : Nat} {A : Option Addr} {l : List Nat} (h : Ints w B .u8 A (up l)) (h0 : 0 < l.length) : ∃ b off, A = some ⟨b, off, none⟩ ∧ ∀ j, j < l.length → w.cell? ((⟨b, off, none⟩ : Addr).add j) = some (.int .u8 (l.getD j 0 : Nat)) := by
  obtain ⟨b, off, e, _, hc⟩ := h.at_ (by rw [up_len]; exact h0)
  refine ⟨b, off, e, fun j hj => ?_⟩
  have hadd : (⟨b, off, none⟩ : Addr).add j = ⟨b, off + j, none⟩ := by unfold Addr.add; split <;> simp_all
  rw [hadd, hc j (by rw [up_len]; exact hj), up_getD]
/-- '[]byte(s)'. -/
theorem room_of_text (w : World) (e : TypeId) (s : ByteArray) (hs : s.size ≤ maxLen) :
    Room (Lib.bytesWorld w e s) w.heap.size (.slice (some ⟨w.heap.size, 0, none⟩) s.size (grownCap w s.size 0 e)) (s.data.toList.map UInt8.toNat) ∧ Below w.heap.size w (Lib.bytesWorld w e s) := by
  have hge := grownCap_ge w s.size 0 e
  have hle := grownCap_le_maxLen w s.size 0 e hs
  have hl : (s.data.toList.map UInt8.toNat).length = s.size := by simp
  have hcs : (Lib.bytesCells w e s).size = grownCap w s.size 0 e := by
    have h1 : s.data.size = s.size := rfl
    simp only [Lib.bytesCells, Array.size_append, Array.size_map, Array.size_replicate, h1]; omega
  refine ⟨⟨w.heap.size, grownCap w s.size 0 e, by rw [hl], Nat.le_refl _, by rw [Lib.bytesWorld_size]; omega, by rw [hl]; exact hge, hle, fun j hj => ⟨?_, ?_⟩, fun j hj => ?_⟩, ?_⟩
  · rw [cell_of_row _ _ j _ _ _ (Lib.bytesWorld_at_new w e s)]
    simp [hcs, hj]
  · unfold World.frozen?
    rw [Lib.bytesWorld_at_new w e s]
    simp [hcs]
    omega
  · rw [hl] at hj
    rw [Lib.bytesWorld_cell w e s j hj]
    congr 2
    have h1 : j < s.data.toList.length := by simpa using hj
    simp [List.getD_eq_getElem?_getD, List.getElem?_map, List.getElem?_eq_getElem h1]
  · exact ⟨rfl, rfl, rfl, by rw [Lib.bytesWorld_size]; omega, fun k hk => Lib.bytesWorld_at_old w e s k hk⟩

/-- append of bytes onto a slice of one's own. -/
theorem run_append_room {P : Program} (w : World) (t ty : TypeId) (e : TypeId) (i : TypeInfo) (z : Value) (ht : P.underlying t = some (.slice e)) (hi : P.info? e = some i) (hz : i.zero = some z)
    (hsize : i.size = 1) (hby : i.bytes = 1) (hzs : z.cells.size = 1) (base : Nat) (v : Value) (xs zs : List Nat) (c : Nat) (ad : Addr)
    (hroom : Room w base v xs) (hcells : ∀ j, j < zs.length → w.cell? (ad.add j) = some (.int .u8 (zs.getD j 0 : Nat))) (h63 : xs.length + zs.length ≤ maxLen) (hbytes : xs.length + zs.length ≤ 140737488355328) (hbase : base ≤ w.heap.size) :
    ∃ v' w', (Builtin.append_ #[t, t] ty #[v, .slice (some ad) zs.length c]).run P w = .ok v' w' ∧ Room w' base v' (xs ++ zs) ∧ Below base w w' := by
  obtain ⟨g, cap, rfl, h1, h2, h3, h4, h5, h6⟩ := hroom
  have hnews : ∀ j u, (zs.map fun z : Nat => Value.int .u8 (z : Int))[j]? = some u → w.cell? (ad.add j) = some u := by
    intro j u hu
    rcases Nat.lt_or_ge j zs.length with h | h
    · rw [hcells j h]
      simp only [List.getElem?_map, List.getElem?_eq_getElem h, Option.map_some] at hu
      rw [← hu]
      simp [List.getD_eq_getElem?_getD, h]
    · rw [List.getElem?_eq_none (by simpa using h)] at hu
      cases hu
  have hone : ∀ u ∈ (zs.map fun z : Nat => Value.int .u8 (z : Int)), u.oneCell' = true := by
    intro u hu
    obtain ⟨z, _, rfl⟩ := List.mem_map.1 hu
    rfl
  have hadd : ∀ (b off j : Nat), (⟨b, off, none⟩ : Addr).add j = ⟨b, off + j, none⟩ := fun b off j => by unfold Addr.add; split <;> simp_all
  rcases Nat.lt_or_ge cap (xs.length + zs.length) with hfull | hfit
  · obtain ⟨v', w', hrun, hown, hg⟩ := run_append_arg_grows (P := P) w t ty e i z 1 1 ht hi hz hsize hby hzs (by decide) ⟨g, 0, none⟩ xs.length cap (xs.map fun z : Nat => Value.int .u8 (z : Int)) (by simp)
      (fun j u hu => by
        rcases Nat.lt_or_ge j xs.length with h | h
        · rw [hadd, Nat.zero_add, h6 j h]
          simp only [List.getElem?_map, List.getElem?_eq_getElem h, Option.map_some] at hu
          rw [← hu]
          simp [List.getD_eq_getElem?_getD, h]
        · rw [List.getElem?_eq_none (by simpa using h)] at hu
          cases hu) ad zs.length c (zs.map fun z : Nat => Value.int .u8 (z : Int)) (by simp) hnews hfull h63 (by omega)
    refine ⟨v', w', hrun, ?_, ((Below.refl base w).grown hg hbase fun q hq => by cases hq)⟩
    have hown' : w'.ownsRow w.heap.size e 1 v' (xs ++ zs).length ((up (xs ++ zs)).map (Value.int .u8)) := by
      rw [List.length_append, up_append, List.map_append]
      simpa [up, Function.comp_def] using hown
    obtain ⟨g', cap', q1, q2, q3⟩ := Room.of_own hown' (by rw [List.length_append]; omega)
    exact ⟨g', cap', q1, Nat.le_trans hbase q2, q3⟩
  · have hrun := run_append_room_cells (P := P) w t ty e i ht hi g 0 xs.length cap ad zs.length c (zs.map fun z : Nat => Value.int .u8 (z : Int)) (by simp [hsize]) hnews hone hfit
      (fun j hj => by rw [hsize, Nat.mul_one, Nat.zero_add]; exact (h5 _ (by simp at hj; omega)).1) (fun j hj => by rw [hsize, Nat.mul_one, Nat.zero_add]; exact (h5 _ (by simp at hj; omega)).2)
    rw [hsize, Nat.mul_one, Nat.zero_add] at hrun
    refine ⟨_, _, hrun, ⟨g, cap, by rw [List.length_append], h1, by rw [setCells_size]; exact h2, by rw [List.length_append]; exact hfit, h4, fun j hj => ⟨World.isSome_setCells g _ _ w _ (h5 j hj).1, by rw [World.frozen?_setCells]; exact (h5 j hj).2⟩, fun j hj => ?_⟩, below_setCells (Below.refl base w) h1 _ _⟩
    rw [List.length_append] at hj
    rcases Nat.lt_or_ge j xs.length with h | h
    · rw [World.cell?_setCells_out g _ _ w _ (fun _ _ => Or.inl h), h6 j h]
      simp [List.getD_eq_getElem?_getD, List.getElem?_append_left h]
    · have hj2 : j - xs.length < (zs.map fun z : Nat => Value.int .u8 (z : Int)).length := by simp; omega
      have hin := World.cell?_setCells_in g (zs.map fun z : Nat => Value.int .u8 (z : Int)) xs.length w (fun i hi => (h5 _ (by simp at hi; omega)).1) (j - xs.length) hj2
      rw [show xs.length + (j - xs.length) = j by omega] at hin
      rw [hin]
      have hj3 : j - xs.length < zs.length := by omega
      simp [List.getD_eq_getElem?_getD, List.getElem?_append_right h, hj3]
theorem wpList_append_room {P : Program} (w : World) {ops : Array Oper} {rest : List Oper} {o : Oper} {a : Act} {Q : Exit → Act → World → Prop} (hw : Region.wanted o (yielded ops a.tmps) = true) (s x : Operand) (t : TypeId)
    (ho : o.op = .call { callee := .builtin .append, args := #[s, x], argTypes := #[t, t] })
    (e : TypeId) (i : TypeInfo) (z : Value) (ht : P.underlying t = some (.slice e)) (hi : P.info? e = some i) (hz : i.zero = some z)
    (hsize : i.size = 1) (hby : i.bytes = 1) (hzs : z.cells.size = 1) (base : Nat) (v : Value) (xs zs : List Nat) (c n : Nat) (ad : Addr) (hn : zs.length = n) (hs : a.eval s = v) (hx : a.eval x = .slice (some ad) n c)
    (hroom : Room w base v xs) (hcells : ∀ j, j < zs.length → w.cell? (ad.add j) = some (.int .u8 (zs.getD j 0 : Nat))) (h63 : xs.length + zs.length ≤ maxLen) (hbytes : xs.length + zs.length ≤ 140737488355328) (hbase : base ≤ w.heap.size)
    (h : ∀ v' w', Room w' base v' (xs ++ zs) → Below base w w' → wpList P ops Q rest (a.put o.dst v') w') :
    wpList P ops Q (o :: rest) a w := by
  refine wpList_when hw fun K hK => ?_
  subst hn
  obtain ⟨v', w', hrun, h2, h3⟩ := run_append_room (P := P) w t o.type e i z ht hi hz hsize hby hzs base v xs zs c ad hroom hcells h63 hbytes hbase
  unfold Oper.wp execOp
  simp only [ho, resolve, invoke, builtin, Sem.run_bind, Sem.run_pure, Result.andThen_ok, List.map_toArray, List.map_cons, List.map_nil, hs, hx, hrun]
  exact hK _ _ (h v' w' h2 h3)

end Go.Proofs.YtanpfodmmeagaaaDoor

namespace Go.Proofs.YtanpfodmmeagaaaDoor
open Go.RowKit

set_option maxRecDepth 20000 in
theorem eight_ref (n : Int) (w : World) :
    Calls Tryd.prog 28 #[.int .i64 n] w fun e w' => ∃ A c, e = .returned (.slice A 8 c) ∧ 8 ≤ c ∧ Ints w' w'.heap.size .u8 A (up (eightN n)) ∧ Below w.heap.size w w' := by
  obtain ⟨i0, hi, hz0, hz1, hz2⟩ := info_parts Tryd.infoU8'
  have HE : Hid (eightTo (n % 18446744073709551616).toNat 8 = eightN n) := rfl
  obtain ⟨m, hm⟩ : ∃ m : Nat, (m : Int) = n % 18446744073709551616 := ⟨(n % 18446744073709551616).toNat, by omega⟩
  rw [← hm, Int.toNat_natCast] at HE
  go_enter Tryd.func28, Tryd.ntmps28
  go_wp2
  go_loopw [3, 4] (fun v i wr => ∃ k : Nat, k ≤ 8 ∧ i = .int .i64 (7 - (k : Int)) ∧ (∃ A c, v = .slice A k c) ∧ wr.ownsRow w.heap.size 5 1 v k ((up (eightTo m k)).map (Value.int .u8)) ∧ Below w.heap.size w wr) (fun _ i _ => (intOf i + 1).toNat)
  case atStart => exact ⟨0, by omega, by go_num, ⟨_, _, rfl⟩, World.ownsRow_made w #[] 0 (Nat.le_refl _) (Nat.zero_le _) rfl, (Below.refl _ _).alloc (Nat.le_refl _) _⟩
  case round =>
    obtain ⟨k, hk, rfl, ⟨A, c, rfl⟩, hown, hbel⟩ := hrel
    by_cases hlt : k < 8
    · obtain ⟨q, hq⟩ : ∃ q : Nat, (q : Int) = 7 - (k : Int) := ⟨7 - k, by omega⟩
      rw [← hq]
      have hq7 : q ≤ 7 := by omega
      have hsz := hbel.size
      have HQ := Lib.hid hq
      have HS := Lib.hid (eightTo_succ m k)
      have hm' := hm.symm
      clear hq hm
      go_wp2_with (at_builtin; refine wpList_append_own_at _ rfl _ _ 24 rfl w.heap.size 5 i0 (.int .u8 0) 1 1 Tryd.underlying24 hi hz0 hz1 hz2 rfl (by decide) _ _ _ rfl (hown.alloc _) ⟨wr.heap.size, 0, none⟩ 1 1 [_] rfl rfl (cell_one_new _ _ _) ?d1 ?d2 ?d3 ?d4 ?_)
      case d1 => intro u hu; simp at hu; subst hu; rfl
      case d2 => unfold maxLen; omega
      case d3 => omega
      case d4 => simp; omega
      intro v3 w3 hown3 hg3 _ _
      have R : w3.ownsRow w.heap.size 5 1 v3 (k + 1) ((up (eightTo m (k + 1))).map (Value.int .u8)) ∧ Below w.heap.size w w3 := by
        refine ⟨?_, (hbel.alloc hsz _).grown hg3 (by simp; omega) fun q hq => (hown.lt q hq).1⟩
        have e : (m : Int) / 2 ^ (8 * q) % 256 = ((m / 256 ^ (7 - k) % 256 : Nat) : Int) := by
          rw [show 7 - k = q by have := HQ.out; omega, Int.natCast_emod, Int.natCast_ediv, Int.natCast_pow, Int.pow_mul]; rfl
        rw [HS.out, up_append, List.map_append]
        have h := hown3
        have ew : IntKind.u64.wrap n = (m : Int) := hm'
        rw [ew, e] at h
        exact h
      obtain ⟨A3, q3, hv3⟩ := own_slice R.1
      subst hv3
      clear hown3 hg3 hown hbel
      go_wp2
      go_roundw
      case rel => first | exact ⟨k + 1, by omega, by have := HQ.out; go_num, ⟨A3, q3, rfl⟩, R.1, R.2⟩ | ((repeat apply Exists.intro); exact ⟨⟨k + 1, by omega, by have := HQ.out; go_num, ⟨A3, q3, rfl⟩, R.1, R.2⟩, rfl⟩)
      case measure => have := HQ.out; simp [intOf]; try omega
    · have hk8 : k = 8 := by omega
      subst hk8
      rw [HE.out] at hown
      have hle := own_le hown
      go_wp2
      go_ret
      exact ⟨_, _, rfl, hle, Ints.of_own (n := 8) hown, hbel⟩


/-- A text's bytes. -/
def textN (s : ByteArray) : List Nat := s.data.toList.map UInt8.toNat
theorem textN_len (s : ByteArray) : (textN s).length = s.size := by simp [textN]
theorem textN_lt (s : ByteArray) : ∀ b ∈ textN s, b < 256 := by
  intro b hb
  obtain ⟨x, _, rfl⟩ := List.mem_map.1 hb
  exact x.toNat_lt

set_option maxRecDepth 20000 in
set_option maxHeartbeats 800000 in
theorem refDerive_any (HR : RefSpec) (A0 : Option Addr) (c0 : Nat) (key : List Nat) (s : ByteArray) (n : Int) (w : World) (h0 : Ints w w.heap.size .u8 A0 (up key)) (hA0 : A0 = none → c0 = 0) (hb0 : ∀ b ∈ key, b < 256) (hm0 : key.length ≤ 140737488355000) (hs : s.size ≤ 140737488354000) :
    Calls Tryd.prog 26 #[.slice A0 key.length c0, .string s, .int .i64 n] w fun e w' => ∃ A c, e = .returned (.slice A 16 c) ∧ 16 ≤ c ∧ Ints w' w'.heap.size .u8 A (up (deriveN key (textN s) n)) ∧ Below w.heap.size w w' := by
  obtain ⟨i0, hi, hz0, hz1, hz2⟩ := info_parts Tryd.infoU8'
  have kc := fun (w : World) => Lib.run_convert_string_bytes (P := Tryd.prog) w 9 24 5 s Tryd.underlying9 Tryd.underlying24 Tryd.underlying5
  have HT := Lib.hid (room_of_text w 5 s (by unfold maxLen; omega))
  go_enter Tryd.func26, Tryd.ntmps26
  have hr1 : Room ((Lib.bytesWorld w 5 s).alloc (.cells #[.int .u8 0] 5)) w.heap.size (.slice (some ⟨w.heap.size, 0, none⟩) s.size (grownCap w s.size 0 5)) (textN s) := HT.out.1.below ((Below.refl _ _).alloc (Nat.le_refl _) _) (Nat.le_refl _)
  have hb1 : Below w.heap.size w ((Lib.bytesWorld w 5 s).alloc (.cells #[.int .u8 0] 5)) := HT.out.2.alloc HT.out.2.size _
  have hcell1 : ∀ j, j < [0].length → ((Lib.bytesWorld w 5 s).alloc (.cells #[.int .u8 0] 5)).cell? ((⟨(Lib.bytesWorld w 5 s).heap.size, 0, none⟩ : Addr).add j) = some (.int .u8 (([0] : List Nat).getD j 0 : Nat)) := by
    intro j hj
    have h0 : j = 0 := by simp at hj; omega
    subst h0
    exact cell_of_row _ _ 0 _ _ _ (heap_alloc_new _ _)
  have HRM := Lib.hid hr1
  have HBM := Lib.hid hb1
  have HCM := Lib.hid hcell1
  clear hr1 hb1 hcell1
  go_wp2_with (at_builtin; refine wpList_append_room _ rfl _ _ 24 rfl 5 i0 (.int .u8 0) Tryd.underlying24 hi hz0 hz1 hz2 rfl w.heap.size _ (textN s) [0] 1 1 ⟨(Lib.bytesWorld w 5 s).heap.size, 0, none⟩ rfl rfl rfl HRM.out HCM.out ?c1 ?c2 HBM.out.size ?_)
  case c1 => rw [textN_len]; show s.size + 1 ≤ maxLen; unfold maxLen; omega
  case c2 => rw [textN_len]; show s.size + 1 ≤ _; omega
  intro v2 w2 hr2 hb2
  have b2 := HBM.out.trans hb2
  obtain ⟨A2, c2, rfl, hc2, _, _⟩ := hr2.form
  have HE := Lib.hid (eight_ref n w2)
  have hl2 : (textN s ++ [0]).length = s.size + 1 := by rw [List.length_append, textN_len]; rfl
  have htl : ∀ x ∈ textN s ++ [0] ++ eightN n, x < 256 := fun x hx => by
    rcases List.mem_append.1 hx with h | h
    · rcases List.mem_append.1 h with h | h
      · exact textN_lt s x h
      · simp at h; omega
    · exact eightN_lt n x h
  have hl3 : (textN s ++ [0] ++ eightN n).length = s.size + 9 := by rw [List.length_append, hl2]; rfl
  have HCODE := Lib.hid (fun (w4 : World) (A : Option Addr) (c : Nat) (hb : Below w.heap.size w w4) (hr : Ints w4 w4.heap.size .u8 A (up (textN s ++ [0] ++ eightN n))) (hA : A = none → c = 0) =>
    refCode_any HR A0 A c0 c key (textN s ++ [0] ++ eightN n) w4 ((h0.below hb).more hb.size) hr hA0 hA hb0 htl hm0 (by rw [hl3]; omega))
  have HDER : Hid ((macN key (textN s ++ [0] ++ eightN n)).take 16 = deriveN key (textN s) n) := rfl
  obtain ⟨T, hT⟩ : ∃ T, T = textN s ++ [0] := ⟨_, rfl⟩
  obtain ⟨E, hEe⟩ : ∃ E, E = eightN n := ⟨_, rfl⟩
  have hEl : E.length = 8 := by rw [hEe]; rfl
  rw [← hT, ← hEe] at HCODE HDER hl3
  rw [← hT] at hr2 hl2
  rw [← hEe] at HE
  have HHL := Lib.hid hl2
  have HEL := Lib.hid hEl
  have HR2 := Lib.hid hr2
  rw [← hT, hl2]
  clear hr2 hb2 htl h0 hA0 hb0 hl2 hl3 HBM HCM HRM HT kc hT hEe hEl
  go_wp2_with (first
    | (go_at_call 28; with_reducible (refine Calls.mono HE.out ?_); rintro e w3 ⟨A3, c3, rfl, hc3, hi3, hb3⟩; obtain ⟨g3, o3, rfl, hcl3⟩ := ints_cells hi3 (by rw [HEL.out]; decide); have hr3 := HR2.out.below hb3 (Nat.le_refl _))
    | (at_builtin; refine wpList_append_room _ rfl _ _ 24 rfl 5 i0 (.int .u8 0) Tryd.underlying24 hi hz0 hz1 hz2 rfl w.heap.size (.slice A2 (s.size + 1) c2) T E c3 8 ⟨g3, o3, none⟩ HEL.out rfl rfl (by rw [HHL.out] at hr3; exact hr3) hcl3 ?d1 ?d2 (Nat.le_trans b2.size hb3.size) ?_))
  case d1 => rw [HHL.out, HEL.out]; unfold maxLen; omega
  case d2 => rw [HHL.out, HEL.out]; omega
  intro v4 w4 hr4 hb4
  have b4 : Below w.heap.size w w4 := (b2.trans (hb3.mono b2.size)).trans hb4
  obtain ⟨A4, c4, rfl, hc4, hi4, hn4⟩ := hr4.form
  have HC4 := Lib.hid (HCODE.out w4 A4 c4 b4 hi4 hn4)
  rw [List.length_append] at HC4
  clear hr4 hb4 hi4 hr3 hi3 hcl3
  go_wp2_with (go_at_call 29; with_reducible (refine Calls.mono HC4.out ?_); rintro e w5 ⟨A5, c5, rfl, hc5, hi5, hb5⟩; have hc5' : (16 : Int) ≤ c5 := by omega)
  go_ret
  refine ⟨_, _, rfl, by omega, ?_, chain b4 hb5⟩
  rw [← HDER.out]
  have h := hi5.take 16
  rw [show (up (macN key (T ++ E))).take 16 = up ((macN key (T ++ E)).take 16) by simp [up]] at h
  exact h

end Go.Proofs.YtanpfodmmeagaaaDoor
