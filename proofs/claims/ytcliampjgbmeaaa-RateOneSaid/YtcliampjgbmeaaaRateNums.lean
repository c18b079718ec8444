/-
  Plain arithmetic of buckets: what a bucket is later, what is taken out of it, when it is ready. No program is spoken of here.
-/
import Derived.WalkKit
namespace Go.Proofs.Ytcliampjgbmeaaa
open Go.RowKit

structure Bk where
  r : Int
  b : Int
  l : Int
  a : Int

def Bk.V (k : Bk) : Value := .agg #[.int .i64 k.r, .int .i64 k.b, .int .i64 k.l, .int .i64 k.a]
def zeroK : Bk := ⟨0, 0, 0, 0⟩
def soundB (k : Bk) : Bool := decide (0 ≤ k.r ∧ k.r ≤ 4294967296 ∧ 1 ≤ k.b ∧ k.b ≤ 64 ∧ 0 ≤ k.l ∧ k.l ≤ 65536 * k.b ∧ 0 ≤ k.a ∧ k.a ≤ 1099511627776)
theorem sound_iff (k : Bk) : soundB k = true ↔ (0 ≤ k.r ∧ k.r ≤ 4294967296 ∧ 1 ≤ k.b ∧ k.b ≤ 64 ∧ 0 ≤ k.l ∧ k.l ≤ 65536 * k.b ∧ 0 ≤ k.a ∧ k.a ≤ 1099511627776) := decide_eq_true_iff
/-- A bucket that is full. -/
def newE (r b a : Int) : Int := if r < 0 ∨ r > 4294967296 ∨ b < 1 ∨ b > 64 ∨ a < 0 ∨ a > 1099511627776 then 1 else 0
def newK (r b a : Int) : Bk := if newE r b a = 0 then ⟨r, b, 65536 * b, a⟩ else zeroK
/-- The level at a later moment. -/
def lev (k : Bk) (m : Int) : Int := min (65536 * k.b) (k.l + k.r * (m - k.a))
def fillE (k : Bk) (m : Int) : Int := if soundB k = true then (if m < k.a ∨ m > 1099511627776 then 1 else 0) else 2
def fillK (k : Bk) (m : Int) : Bk := if fillE k m = 0 then ⟨k.r, k.b, lev k m, m⟩ else zeroK
def takeE (k : Bk) (n m : Int) : Int := if fillE k m = 0 then (if n < 0 ∨ n > k.b then 7 else if lev k m < 65536 * n then 12 else 0) else fillE k m
def takeK (k : Bk) (n m : Int) : Bk := if takeE k n m = 0 then ⟨k.r, k.b, lev k m - 65536 * n, m⟩ else zeroK
/-- The first moment. -/
def firstM (k : Bk) (n : Int) : Int := k.a + (65536 * n - k.l + k.r - 1) / k.r
def readyE (k : Bk) (n m : Int) : Int := if takeE k n m = 12 then (if takeE k n 1099511627776 = 0 then 0 else 4) else takeE k n m
def readyM (k : Bk) (n m : Int) : Int := if readyE k n m = 0 then (if takeE k n m = 0 then m else firstM k n) else 0

theorem fill_err (k : Bk) (m : Int) : fillE k m = 0 ∨ fillE k m = 1 ∨ fillE k m = 2 := by
  unfold fillE
  split
  · split
    · exact .inr (.inl rfl)
    · exact .inl rfl
  · exact .inr (.inr rfl)
theorem fill_ok {k : Bk} {m : Int} : fillE k m = 0 ↔ soundB k = true ∧ k.a ≤ m ∧ m ≤ 1099511627776 := by
  unfold fillE
  by_cases hs : soundB k = true
  · rw [if_pos hs]
    by_cases h : m < k.a ∨ m > 1099511627776
    · rw [if_pos h]; constructor
      · intro e; cases e
      · rintro ⟨_, _, _⟩; omega
    · rw [if_neg h]; exact ⟨fun _ => ⟨hs, by omega, by omega⟩, fun _ => rfl⟩
  · rw [if_neg hs]; exact ⟨(fun e => by cases e), fun e => absurd e.1 hs⟩
theorem mul_mono {a b c : Int} (h : 0 ≤ a) (hbc : b ≤ c) : a * b ≤ a * c := Int.mul_le_mul_of_nonneg_left hbc h
theorem mul_ge_one {a b : Int} (ha : 1 ≤ a) (hb : 0 ≤ b) : b ≤ a * b := by
  have := Int.mul_le_mul_of_nonneg_right ha hb
  omega
theorem lev_mono {k : Bk} (hr : 0 ≤ k.r) {m m' : Int} (h : m ≤ m') : lev k m ≤ lev k m' := by
  have := mul_mono hr (show m - k.a ≤ m' - k.a by omega)
  unfold lev; omega
theorem lev_bounds {k : Bk} (hs : soundB k = true) {m : Int} (h : k.a ≤ m) : k.l ≤ lev k m ∧ lev k m ≤ 65536 * k.b ∧ 0 ≤ lev k m := by
  obtain ⟨h1, h2, h3, h4, h5, h6, h7, h8⟩ := (sound_iff k).1 hs
  have := Int.mul_nonneg h1 (show 0 ≤ m - k.a by omega)
  unfold lev; omega
/-- The level by numbers that are not too great. -/
theorem lev_capped {k : Bk} (hs : soundB k = true) {m : Int} (h : k.a ≤ m) : lev k m = min (k.l + min k.r (65536 * k.b) * min (m - k.a) (65536 * k.b)) (65536 * k.b) := by
  obtain ⟨h1, h2, h3, h4, h5, h6, h7, h8⟩ := (sound_iff k).1 hs
  unfold lev
  obtain ⟨F, hF⟩ : ∃ F, F = 65536 * k.b := ⟨_, rfl⟩
  obtain ⟨s, hs'⟩ : ∃ s, s = m - k.a := ⟨_, rfl⟩
  rw [← hF, ← hs']
  have hF0 : 1 ≤ F := by omega
  have hs0 : 0 ≤ s := by omega
  by_cases hr : k.r ≤ F
  · rw [show min k.r F = k.r by omega]
    by_cases hsF : s ≤ F
    · rw [show min s F = s by omega]; omega
    · rw [show min s F = F by omega]
      by_cases hz : k.r = 0
      · rw [hz]; omega
      · have a1 := mul_ge_one (a := k.r) (b := s) (by omega) hs0
        have a2 := mul_ge_one (a := k.r) (b := F) (by omega) (by omega)
        omega
  · rw [show min k.r F = F by omega]
    by_cases hz : s = 0
    · rw [hz, show min (0 : Int) F = 0 by omega]; omega
    · have a1 := mul_ge_one (a := s) (b := k.r) (by omega) h1
      have a2 := mul_ge_one (a := min s F) (b := F) (by omega) (by omega)
      rw [Int.mul_comm] at a1 a2
      omega
theorem capped_bounds {k : Bk} (hs : soundB k = true) {m : Int} (h : k.a ≤ m) : 0 ≤ min k.r (65536 * k.b) * min (m - k.a) (65536 * k.b) ∧ min k.r (65536 * k.b) * min (m - k.a) (65536 * k.b) ≤ 17592186044416 := by
  obtain ⟨h1, h2, h3, h4, h5, h6, h7, h8⟩ := (sound_iff k).1 hs
  have a : 0 ≤ min k.r (65536 * k.b) ∧ min k.r (65536 * k.b) ≤ 4194304 := by omega
  have b : 0 ≤ min (m - k.a) (65536 * k.b) ∧ min (m - k.a) (65536 * k.b) ≤ 4194304 := by omega
  refine ⟨Int.mul_nonneg a.1 b.1, ?_⟩
  calc _ ≤ (4194304 : Int) * 4194304 := Int.mul_le_mul a.2 b.2 b.1 (by omega)
    _ = 17592186044416 := by decide
/-- Taken at m, just if the first moment has come. -/
theorem ready_iff {k : Bk} {n : Int} (hr : 0 < k.r) (hn : n ≤ k.b) (m : Int) : 65536 * n ≤ lev k m ↔ firstM k n ≤ m := by
  have h1 : 65536 * n ≤ lev k m ↔ 65536 * n ≤ k.l + k.r * (m - k.a) := by unfold lev; omega
  have h2 : (65536 * n - k.l + k.r - 1) / k.r ≤ m - k.a ↔ 65536 * n - k.l + k.r - 1 < (m - k.a + 1) * k.r := by
    rw [← Int.lt_add_one_iff, Int.ediv_lt_iff_lt_mul hr]
  rw [h1]
  unfold firstM
  have h3 : (m - k.a + 1) * k.r = k.r * (m - k.a) + k.r := by rw [Int.add_mul, Int.mul_comm]; omega
  rw [h3] at h2
  omega
theorem take_ok {k : Bk} {n m : Int} : takeE k n m = 0 ↔ soundB k = true ∧ k.a ≤ m ∧ m ≤ 1099511627776 ∧ 0 ≤ n ∧ n ≤ k.b ∧ 65536 * n ≤ lev k m := by
  unfold takeE
  by_cases hf : fillE k m = 0
  · rw [if_pos hf]
    obtain ⟨h1, h2, h3⟩ := fill_ok.1 hf
    by_cases hn : n < 0 ∨ n > k.b
    · rw [if_pos hn]
      exact ⟨(fun e => by cases e), fun e => by omega⟩
    · rw [if_neg hn]
      by_cases hl : lev k m < 65536 * n
      · rw [if_pos hl]
        exact ⟨(fun e => by cases e), fun e => by omega⟩
      · rw [if_neg hl]
        exact ⟨fun _ => ⟨h1, h2, h3, by omega, by omega, by omega⟩, fun _ => rfl⟩
  · rw [if_neg hf]
    exact ⟨fun e => absurd e hf, fun e => absurd (fill_ok.2 ⟨e.1, e.2.1, e.2.2.1⟩) hf⟩
theorem take_wait {k : Bk} {n m : Int} : takeE k n m = 12 ↔ soundB k = true ∧ k.a ≤ m ∧ m ≤ 1099511627776 ∧ 0 ≤ n ∧ n ≤ k.b ∧ lev k m < 65536 * n := by
  unfold takeE
  by_cases hf : fillE k m = 0
  · rw [if_pos hf]
    obtain ⟨h1, h2, h3⟩ := fill_ok.1 hf
    by_cases hn : n < 0 ∨ n > k.b
    · rw [if_pos hn]
      exact ⟨(fun e => by cases e), fun e => by omega⟩
    · rw [if_neg hn]
      by_cases hl : lev k m < 65536 * n
      · rw [if_pos hl]
        exact ⟨fun _ => ⟨h1, h2, h3, by omega, by omega, hl⟩, fun _ => rfl⟩
      · rw [if_neg hl]
        exact ⟨(fun e => by cases e), fun e => by omega⟩
  · rw [if_neg hf]
    constructor
    · intro e
      rcases fill_err k m with h | h | h <;> rw [h] at e <;> cases e
    · exact fun e => absurd (fill_ok.2 ⟨e.1, e.2.1, e.2.2.1⟩) hf
/-- Waiting: the first moment lies behind, and not too far. -/
theorem ready_found {k : Bk} {n m : Int} (hw : takeE k n m = 12) (ho : takeE k n 1099511627776 = 0) : 0 < k.r ∧ m < firstM k n ∧ firstM k n ≤ 1099511627776 ∧ ∀ j, k.a ≤ j → j ≤ 1099511627776 → (takeE k n j = 0 ↔ firstM k n ≤ j) ∧ (takeE k n j = 12 ↔ j < firstM k n) := by
  obtain ⟨h1, h2, h3, h4, h5, h6⟩ := take_wait.1 hw
  obtain ⟨_, _, _, _, _, g6⟩ := take_ok.1 ho
  obtain ⟨s1, s2, s3, s4, s5, s6, s7, s8⟩ := (sound_iff k).1 h1
  have hr : 0 < k.r := by
    rcases Int.lt_or_eq_of_le s1 with h | h
    · exact h
    · unfold lev at h6 g6
      rw [← h] at h6 g6
      omega
  have hi := fun j => ready_iff hr h5 j
  refine ⟨hr, ?_, (hi _).1 g6, fun j hj1 hj2 => ⟨?_, ?_⟩⟩
  · have := hi m
    omega
  · rw [take_ok, ← hi j]
    exact ⟨fun e => e.2.2.2.2.2, fun e => ⟨h1, hj1, hj2, h4, h5, e⟩⟩
  · rw [take_wait]
    have := hi j
    exact ⟨fun e => by omega, fun e => ⟨h1, hj1, hj2, h4, h5, by omega⟩⟩

/-- Filled, and filled again: as at once. -/
theorem fill_sound {k : Bk} {x : Int} (h : fillE k x = 0) : fillK k x = ⟨k.r, k.b, lev k x, x⟩ ∧ soundB ⟨k.r, k.b, lev k x, x⟩ = true := by
  obtain ⟨hs, h1, h2⟩ := fill_ok.1 h
  obtain ⟨s1, s2, s3, s4, s5, s6, s7, s8⟩ := (sound_iff k).1 hs
  obtain ⟨l1, l2, l3⟩ := lev_bounds hs h1
  refine ⟨if_pos h, (sound_iff _).2 ⟨s1, s2, s3, s4, l3, l2, ?_, h2⟩⟩
  show 0 ≤ x
  omega
theorem lev_lev {k : Bk} (hr : 0 ≤ k.r) {x y : Int} (h : x ≤ y) : lev ⟨k.r, k.b, lev k x, x⟩ y = lev k y := by
  have h1 := Int.mul_nonneg hr (show 0 ≤ y - x by omega)
  have h2 : k.r * (y - k.a) = k.r * (x - k.a) + k.r * (y - x) := by rw [← Int.mul_add]; congr 1; omega
  unfold lev
  rw [h2]
  show min (65536 * k.b) (min (65536 * k.b) (k.l + k.r * (x - k.a)) + k.r * (y - x)) = _
  omega
theorem fill_fill {k : Bk} {x y : Int} (h : fillE k x = 0) (hxy : x ≤ y) : fillE (fillK k x) y = fillE k y ∧ fillK (fillK k x) y = fillK k y := by
  obtain ⟨e, hs'⟩ := fill_sound h
  obtain ⟨hs, h1, h2⟩ := fill_ok.1 h
  have hE : fillE (fillK k x) y = fillE k y := by
    rw [e]
    unfold fillE
    rw [if_pos hs', if_pos hs]
    by_cases hc : y > 1099511627776
    · rw [if_pos (Or.inr hc), if_pos (Or.inr hc)]
    · rw [if_neg (by rintro (h | h); · exact absurd (show y < x from h) (by omega)
                     · omega), if_neg (by omega)]
  refine ⟨hE, ?_⟩
  unfold fillK
  rw [show fillE (if fillE k x = 0 then (⟨k.r, k.b, lev k x, x⟩ : Bk) else zeroK) y = fillE k y from hE]
  by_cases hy : fillE k y = 0
  · rw [if_pos hy, if_pos hy, if_pos h, lev_lev ((sound_iff k).1 hs).1 hxy]
  · rw [if_neg hy, if_neg hy]
theorem fill_ok_bounds {k : Bk} (hk : soundB k = true) : -9223372036854775808 ≤ k.r ∧ k.r ≤ 9223372036854775807 ∧ -9223372036854775808 ≤ k.b ∧ k.b ≤ 9223372036854775807 ∧ -9223372036854775808 ≤ k.l ∧ k.l ≤ 9223372036854775807 ∧ -9223372036854775808 ≤ k.a ∧ k.a ≤ 9223372036854775807 := by
  obtain ⟨s1, s2, s3, s4, s5, s6, s7, s8⟩ := (sound_iff k).1 hk
  omega

end Go.Proofs.Ytcliampjgbmeaaa
