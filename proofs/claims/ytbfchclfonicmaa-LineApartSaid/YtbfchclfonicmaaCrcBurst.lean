/-
  Plain arithmetic: a text of which one burst of up to 32 bits was turned has another sum. No program is spoken of here.
-/
import Derived.Test.YtbfchclfonicmaaCrcNums
namespace Go.Proofs.Ytbfchclfonicmaa

theorem bitsN_bytes (t : Nat) : bitsN 32 t = regs 0 [t % 256, t / 256 % 256, t / 65536 % 256, t / 16777216 % 256] ^^^ t / 4294967296 := by
  have h (r : Nat) : byteStep r = byteStep (r % 256) ^^^ r / 256 := byteStep_table r
  have e : bitsN 32 t = byteStep (byteStep (byteStep (byteStep t))) := by
    show bitsN (8 + (8 + (8 + 8))) t = _
    rw [bitsN_add, bitsN_add, bitsN_add]; rfl
  have s1 : byteStep t = byteStep (t % 256) ^^^ t / 256 := h t
  have s2 : byteStep (t / 256) = byteStep (t / 256 % 256) ^^^ t / 65536 := by rw [h (t / 256), Nat.div_div_eq_div_mul]
  have s3 : byteStep (t / 65536) = byteStep (t / 65536 % 256) ^^^ t / 16777216 := by rw [h (t / 65536), Nat.div_div_eq_div_mul]
  have s4 : byteStep (t / 16777216) = byteStep (t / 16777216 % 256) ^^^ t / 4294967296 := by rw [h (t / 16777216), Nat.div_div_eq_div_mul]
  rw [e, s1, byteStep_xor, s2, ← Nat.xor_assoc, ← byteStep_xor, byteStep_xor _ (t / 65536), s3, ← Nat.xor_assoc, ← byteStep_xor, byteStep_xor _ (t / 16777216), s4, ← Nat.xor_assoc, ← byteStep_xor]
  simp only [regs, List.foldl_cons, List.foldl_nil, Nat.zero_xor]

/-- The burst t at place i of n bytes. -/
def burst (n i t : Nat) : List Nat := (List.range n).map fun j => if i ≤ j ∧ j < i + 4 then t / 256 ^ (j - i) % 256 else 0
theorem burst_eq (n i t : Nat) (h : i + 4 ≤ n) : burst n i t = List.replicate i 0 ++ ([t % 256, t / 256 % 256, t / 65536 % 256, t / 16777216 % 256] ++ List.replicate (n - 4 - i) 0) := by
  apply List.ext_getElem
  · simp [burst]; omega
  · intro j h1 h2
    have hj : j < n := by simpa [burst] using h1
    simp only [burst, List.getElem_map, List.getElem_range]
    by_cases c1 : j < i
    · rw [if_neg (by omega), List.getElem_append_left (by simpa using c1)]
      simp
    · rw [List.getElem_append_right (by simp; omega)]
      simp only [List.length_replicate]
      by_cases c2 : j < i + 4
      · rw [if_pos ⟨by omega, c2⟩, List.getElem_append_left (by simp; omega)]
        have : j - i = 0 ∨ j - i = 1 ∨ j - i = 2 ∨ j - i = 3 := by omega
        rcases this with e | e | e | e <;> simp [e]
      · rw [if_neg (by omega), List.getElem_append_right (by simp; omega)]
        simp
theorem burst_regs (n i t : Nat) (h : i + 4 ≤ n) (ht : t < 2 ^ 32) (h0 : t ≠ 0) : regs 0 (burst n i t) ≠ 0 := by
  rw [burst_eq n i t h, regs_append, regs_append, regs_zeros, regs_zeros, bitsN_zero]
  have e := bitsN_bytes t
  rw [show t / 4294967296 = 0 by omega, Nat.xor_zero] at e
  rw [← e]
  intro hh
  exact h0 (bitsN_inj0 ht (bitsN_inj0 (bitsN_lt ht) hh))
theorem burst_len (n i t : Nat) : (burst n i t).length = n := by simp [burst]
theorem burst_lt (n i t : Nat) : ∀ b ∈ burst n i t, b < 256 := by
  intro b hb
  simp only [burst, List.mem_map] at hb
  obtain ⟨j, _, rfl⟩ := hb
  split <;> omega

/-- The text with k bytes of the burst turned. -/
def turned (zs : List Int) (i t k : Nat) : List Int := (List.range zs.length).map fun j => if i ≤ j ∧ j < i + k then (((zs.getD j 0).toNat ^^^ (t / 256 ^ (j - i) % 256) : Nat) : Int) else zs.getD j 0
theorem turned_len (zs : List Int) (i t k : Nat) : (turned zs i t k).length = zs.length := by simp [turned]
theorem turned_zero (zs : List Int) (i t : Nat) : turned zs i t 0 = zs := by
  apply List.ext_getElem
  · simp [turned]
  · intro j h1 h2
    simp only [turned, List.getElem_map, List.getElem_range]
    rw [if_neg (by omega)]
    simp [List.getD, h2]
theorem turned_at (zs : List Int) (i t k : Nat) (h : i + k < zs.length) : (turned zs i t k).getD (i + k) 0 = zs.getD (i + k) 0 := by
  rw [List.getD_eq_getElem?_getD, List.getElem?_eq_getElem (by rw [turned_len]; exact h), Option.getD_some]
  simp only [turned, List.getElem_map, List.getElem_range]
  rw [if_neg (by omega)]
theorem turned_succ (zs : List Int) (i t k : Nat) :
    (turned zs i t k).set (i + k) (((zs.getD (i + k) 0).toNat ^^^ (t / 256 ^ k % 256) : Nat) : Int) = turned zs i t (k + 1) := by
  apply List.ext_getElem
  · simp [turned]
  · intro j h1 h2
    have hj : j < zs.length := by simpa [turned] using h2
    rw [List.getElem_set]
    simp only [turned, List.getElem_map, List.getElem_range]
    by_cases e : i + k = j
    · subst e
      rw [if_pos rfl, if_pos ⟨by omega, by omega⟩, show i + k - i = k by omega]
    · rw [if_neg e]
      by_cases c : i ≤ j ∧ j < i + k
      · rw [if_pos c, if_pos ⟨c.1, by omega⟩]
      · rw [if_neg c, if_neg (by omega)]
theorem turned_nb (zs : List Int) (i t : Nat) : nb (turned zs i t 4) = List.zipWith (· ^^^ ·) (nb zs) (burst zs.length i t) := by
  apply List.ext_getElem
  · simp [nb, turned, burst]
  · intro j h1 h2
    have hj : j < zs.length := by simpa [nb, turned] using h1
    rw [List.getElem_zipWith]
    simp only [nb, List.getElem_map, turned, List.getElem_range, burst]
    by_cases c : i ≤ j ∧ j < i + 4
    · rw [if_pos c, if_pos c]
      simp [List.getD, hj]
    · rw [if_neg c, if_neg c]
      simp [List.getD, hj]
theorem turned_mem (zs : List Int) (i t k : Nat) (hz : ∀ z ∈ zs, 0 ≤ z ∧ z ≤ 255) : ∀ z ∈ turned zs i t k, 0 ≤ z ∧ z ≤ 255 := by
  intro z h
  simp only [turned, List.mem_map] at h
  obtain ⟨j, hj, rfl⟩ := h
  have hj' : j < zs.length := by simpa using hj
  have hb := hz (zs.getD j 0) (by simp [List.getD, hj'])
  split
  · have := Nat.xor_lt_two_pow (n := 8) (x := (zs.getD j 0).toNat) (y := t / 256 ^ (j - i) % 256) (by omega) (by omega)
    omega
  · exact hb
theorem xor_self_of {a b : Nat} (h : a ^^^ b = a) : b = 0 := by
  have : a ^^^ (a ^^^ b) = a ^^^ a := by rw [h]
  rw [← Nat.xor_assoc, Nat.xor_self, Nat.zero_xor] at this
  exact this
/-- The sums differ. -/
theorem turned_sum (zs : List Int) (i t : Nat) (hz : ∀ z ∈ zs, 0 ≤ z ∧ z ≤ 255) (h : i + 4 ≤ zs.length) (ht : t < 2 ^ 32) (h0 : t ≠ 0) : moreN 0 (nb (turned zs i t 4)) ≠ moreN 0 (nb zs) := by
  intro he
  have hb := nb_lt hz
  have hlen : (nb zs).length = (burst zs.length i t).length := by rw [burst_len]; simp [nb]
  have e := regs_xor 4294967295 0 (nb zs) (burst zs.length i t) hlen
  rw [Nat.xor_zero] at e
  unfold moreN at he
  have h1 : regs (inv32 0) (nb (turned zs i t 4)) = regs (inv32 0) (nb zs) := by
    have l1 := regs_lt (nb (turned zs i t 4)) (inv32_lt 0) (nb_lt (turned_mem zs i t 4 hz))
    have l2 := regs_lt (nb zs) (inv32_lt 0) hb
    unfold inv32 at he l1 l2 ⊢
    omega
  rw [turned_nb, show inv32 0 = 4294967295 from rfl, e] at h1
  exact burst_regs zs.length i t h ht h0 (xor_self_of h1)

end Go.Proofs.Ytbfchclfonicmaa
