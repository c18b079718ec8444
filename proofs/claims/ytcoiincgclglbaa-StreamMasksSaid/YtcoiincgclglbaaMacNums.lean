/-
  Plain arithmetic of codes: a key of 64 bytes with another byte added, the code, a key for a purpose. No program is spoken of here.
-/
import Derived.Test.YtcoiincgclglbaaShaNums
namespace Go.Proofs.Ytcoiincgclglbaa

def xorTo (key : List Nat) (x : Nat) (n : Nat) : List Nat := (List.range n).map fun i => key.getD i 0 ^^^ x
def xorK (key : List Nat) (x : Nat) : List Nat := xorTo key x 64
theorem xorTo_len (key : List Nat) (x n : Nat) : (xorTo key x n).length = n := by simp [xorTo]
theorem xorTo_succ (key : List Nat) (x n : Nat) : xorTo key x (n + 1) = xorTo key x n ++ [key.getD n 0 ^^^ x] := by simp [xorTo, List.range_succ]
theorem xorTo_lt {key : List Nat} (hk : ∀ b ∈ key, b < 256) {x : Nat} (hx : x < 256) (n : Nat) : ∀ b ∈ xorTo key x n, b < 256 := by
  intro b hb
  obtain ⟨i, _, rfl⟩ := List.mem_map.1 hb
  exact Nat.xor_lt_two_pow (n := 8) (getD_lt (by decide) hk i) hx
theorem be4s_lt (n : Nat) : ∀ b ∈ be4s n, b < 256 := by
  intro b hb
  simp only [be4s, List.mem_cons, List.not_mem_nil, or_false] at hb
  rcases hb with rfl | rfl | rfl | rfl <;> omega
theorem digestN_lt (t : List Nat) : ∀ b ∈ digestN t, b < 256 := by
  intro b hb
  obtain ⟨n, _, hb⟩ := List.mem_flatMap.1 hb
  exact be4s_lt n b hb
theorem digestN_len (t : List Nat) : (digestN t).length = 32 := rfl
def keyN (key : List Nat) : List Nat := if 64 < key.length then digestN key else key
theorem keyN_lt {key : List Nat} (hk : ∀ b ∈ key, b < 256) : ∀ b ∈ keyN key, b < 256 := by
  unfold keyN
  split
  · exact digestN_lt _
  · exact hk
theorem keyN_len (key : List Nat) : (keyN key).length ≤ 64 := by
  unfold keyN
  split
  · rw [digestN_len]; decide
  · omega
def innerN (key text : List Nat) : List Nat := digestN (xorK (keyN key) 0x36 ++ text)
def macN (key text : List Nat) : List Nat := digestN (xorK (keyN key) 0x5C ++ innerN key text)
theorem macN_lt (key text : List Nat) : ∀ b ∈ macN key text, b < 256 := digestN_lt _
theorem macN_len (key text : List Nat) : (macN key text).length = 32 := rfl
/-- Bytes 0 behind a short key change nothing. -/
theorem xorTo_zero (key : List Nat) (x n : Nat) : xorTo (key ++ [0]) x n = xorTo key x n := by
  unfold xorTo
  apply List.map_congr_left
  intro i _
  congr 1
  rcases Nat.lt_trichotomy i key.length with h | h | h
  · simp [List.getD_eq_getElem?_getD, List.getElem?_append_left h]
  · subst h
    simp [List.getD_eq_getElem?_getD]
  · have h1 : ¬ i < key.length := by omega
    have h2 : key.length ≤ i := by omega
    have h3 : ¬ i - key.length < 1 := by omega
    simp [List.getD_eq_getElem?_getD, List.getElem?_append_right h2, List.getElem?_eq_none h2]
    rw [List.getElem?_eq_none (by simp; omega)]
    rfl
theorem macN_zero (key text : List Nat) (h : key.length < 64) : macN (key ++ [0]) text = macN key text := by
  have h1 : keyN (key ++ [0]) = key ++ [0] := if_neg (by rw [List.length_append, List.length_singleton]; omega)
  have h2 : keyN key = key := if_neg (by omega)
  unfold macN innerN xorK
  rw [h1, h2, xorTo_zero, xorTo_zero]
/-- A long key is its digest. -/
theorem macN_long (key text : List Nat) (h : 64 < key.length) : macN (digestN key) text = macN key text := by
  have h1 : keyN key = digestN key := if_pos h
  have h2 : keyN (digestN key) = digestN key := if_neg (by rw [digestN_len]; decide)
  unfold macN innerN
  rw [h1, h2]
/-- A number as 8 bytes, of n modulo 2^64. -/
def eightTo (n : Nat) (k : Nat) : List Nat := (List.range k).map fun i => n / 256 ^ (7 - i) % 256
theorem eightTo_succ (n k : Nat) : eightTo n (k + 1) = eightTo n k ++ [n / 256 ^ (7 - k) % 256] := by simp [eightTo, List.range_succ]
def eightN (n : Int) : List Nat := eightTo (n % 18446744073709551616).toNat 8
theorem eightN_lt (n : Int) : ∀ b ∈ eightN n, b < 256 := by
  intro b hb
  obtain ⟨i, _, rfl⟩ := List.mem_map.1 hb
  omega
def deriveN (key purpose : List Nat) (n : Int) : List Nat := (macN key (purpose ++ [0] ++ eightN n)).take 16

end Go.Proofs.Ytcoiincgclglbaa
