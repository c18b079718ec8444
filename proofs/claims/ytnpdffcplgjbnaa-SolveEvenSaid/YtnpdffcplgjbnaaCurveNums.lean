/-
  Plain: curves of counts, sound curves, corners, what a size brings. No program is spoken of here.
-/
import Derived.WalkKit
import Derived.Laws.FloatArith
namespace Go.Proofs.Ytnpdffcplgjbnaa
open Go.RowKit

def ofBad (l : List Int) (t : Int) : Bool := decide (4096 ≤ l.length) || decide (t < 0) || decide (1048576 < t) || l.any fun z => decide (z < 0) || decide (1048576 < z)
def sumK (l : List Int) (k : Nat) : Int := (l.take k).sum
def ofL (l : List Int) (t : Int) : List Int := (List.range (l.length + 1)).map fun i => sumK l i * t
def ofR (l : List Int) (t : Int) : Int × List Int := if ofBad l t then (1, []) else (0, ofL l t)
def soundAt (c : List Int) (i : Nat) : Bool := decide (c.getD i 0 ≤ 4503599627370496) && (decide (i = 0) || decide (c.getD (i - 1) 0 ≤ c.getD i 0))
def soundL (c : List Int) : Bool := decide (1 ≤ c.length) && decide (c.length ≤ 4096) && decide (0 ≤ c.getD 0 0) && (List.range c.length).all (soundAt c)
def moreC (c : List Int) (s a b : Nat) : Bool := decide ((c.getD b 0 - c.getD a 0) * ((s : Int) - a) < (c.getD s 0 - c.getD a 0) * ((b : Int) - a))
def rowOk (c : List Int) (s a : Nat) : Bool := (List.range c.length).all fun b => decide (b ≤ s) || moreC c s a b
def cornerB (c : List Int) (s : Nat) : Bool := (List.range s).all (rowOk c s)
def hullTo (c : List Int) (k : Nat) : List Int := ((List.range k).filter (cornerB c)).map fun s : Nat => (s : Int)
def hullL (c : List Int) : List Int := hullTo c c.length
def hullR (c : List Int) : Int × List Int := if soundL c then (0, hullL c) else (2, [])
def atN (c : List Int) (n : Int) : Int := if c.length = 0 ∨ n < 0 then 0 else if (c.length : Int) ≤ n then c.getD (c.length - 1) 0 else c.getD n.toNat 0
def ratioB (h refs : Int) : Nat := if refs ≤ h then 0 else if h ≤ 0 then 4607182418800017408 else (Ieee.double.div (floatOfInt .f64 (refs - h)) (floatOfInt .f64 refs)).getD 0
def nanOf (b : Nat) : Prop := 9218868437227405312 < b % 9223372036854775808
def ratioOk (c : List Int) (n refs : Int) (b : Nat) : Prop := b < 18446744073709551616 ∧ (refs ≤ 0 → nanOf b) ∧ (0 < refs → b = ratioB (atN c n) refs)

theorem sumK_zero (l : List Int) : sumK l 0 = 0 := rfl
theorem sumK_succ (l : List Int) {k : Nat} (h : k < l.length) : sumK l (k + 1) = sumK l k + l.getD k 0 := by
  unfold sumK
  rw [List.take_add_one, List.getElem?_eq_getElem h, List.getD_eq_getElem?_getD, List.getElem?_eq_getElem h, List.sum_append]
  simp
theorem sumK_bounds {l : List Int} (hl : ∀ z ∈ l, 0 ≤ z ∧ z ≤ 1048576) : ∀ k : Nat, k ≤ l.length → 0 ≤ sumK l k ∧ sumK l k ≤ 1048576 * (k : Int)
  | 0, _ => ⟨Int.le_refl _, Int.le_refl _⟩
  | k + 1, h => by
    have ih := sumK_bounds hl k (by omega)
    have hz := hl (l.getD k 0) (by rw [List.getD_eq_getElem?_getD, List.getElem?_eq_getElem (by omega : k < l.length)]; exact List.getElem_mem _)
    rw [sumK_succ l (by omega)]
    omega
theorem ofL_len (l : List Int) (t : Int) : (ofL l t).length = l.length + 1 := by simp [ofL]
theorem ofL_at (l : List Int) (t : Int) {i : Nat} (h : i ≤ l.length) : (ofL l t).getD i 0 = sumK l i * t := by
  unfold ofL
  simp [List.getD, show i < l.length + 1 by omega]
theorem ofBad_false {l : List Int} {t : Int} (h : ofBad l t = false) : l.length < 4096 ∧ 0 ≤ t ∧ t ≤ 1048576 ∧ ∀ z ∈ l, 0 ≤ z ∧ z ≤ 1048576 := by
  unfold ofBad at h
  simp only [Bool.or_eq_false_iff, decide_eq_false_iff_not, List.any_eq_false, Bool.or_eq_true, decide_eq_true_eq] at h
  obtain ⟨⟨⟨h1, h2⟩, h3⟩, h4⟩ := h
  exact ⟨by omega, by omega, by omega, fun z hz => by have := h4 z hz; omega⟩
theorem ofBad_good {l : List Int} {t : Int} (h1 : l.length < 4096) (h2 : 0 ≤ t) (h3 : t ≤ 1048576) (h4 : ∀ z ∈ l, 0 ≤ z ∧ z ≤ 1048576) : ofBad l t = false := by
  unfold ofBad
  simp only [Bool.or_eq_false_iff, decide_eq_false_iff_not, List.any_eq_false, Bool.or_eq_true, decide_eq_true_eq]
  exact ⟨⟨⟨by omega, by omega⟩, by omega⟩, fun z hz => by have := h4 z hz; omega⟩
/-- A product of bounded numbers. -/
theorem mul_bounds {x y X Y : Int} (h0 : 0 ≤ x) (h1 : x ≤ X) (h2 : 0 ≤ y) (h3 : y ≤ Y) : 0 ≤ x * y ∧ x * y ≤ X * Y :=
  ⟨Int.mul_nonneg h0 h2, Int.mul_le_mul h1 h3 h2 (Int.le_trans h0 h1)⟩
theorem ofL_i64 {l : List Int} {t : Int} (h : ofBad l t = false) {i : Nat} (hi : i ≤ l.length) : 0 ≤ sumK l i * t ∧ sumK l i * t ≤ 4503599627370496 := by
  obtain ⟨h1, h2, h3, h4⟩ := ofBad_false h
  have hs := sumK_bounds h4 i hi
  have := mul_bounds (X := 4294967296) (Y := 1048576) hs.1 (by omega) h2 h3
  exact ⟨this.1, by omega⟩

theorem soundL_iff (c : List Int) : soundL c = true ↔ 1 ≤ c.length ∧ c.length ≤ 4096 ∧ 0 ≤ c.getD 0 0 ∧ ∀ i, i < c.length → soundAt c i = true := by
  unfold soundL
  simp only [Bool.and_eq_true, decide_eq_true_eq, List.all_eq_true, List.mem_range]
  constructor
  · rintro ⟨⟨⟨h1, h2⟩, h3⟩, h4⟩; exact ⟨h1, h2, h3, h4⟩
  · rintro ⟨h1, h2, h3, h4⟩; exact ⟨⟨⟨h1, h2⟩, h3⟩, h4⟩
theorem sound_mono {c : List Int} (h : soundL c = true) : ∀ (d a : Nat), a + d < c.length → c.getD a 0 ≤ c.getD (a + d) 0
  | 0, _, _ => Int.le_refl _
  | d + 1, a, hb => by
    have ih := sound_mono h d a (by omega)
    have h2 := ((soundL_iff c).1 h).2.2.2 (a + d + 1) (by omega)
    unfold soundAt at h2
    simp only [Bool.and_eq_true, Bool.or_eq_true, decide_eq_true_eq] at h2
    have h3 := h2.2
    rw [show a + d + 1 - 1 = a + d by omega] at h3
    rw [show a + (d + 1) = a + d + 1 by omega]
    omega
theorem sound_le {c : List Int} (h : soundL c = true) {a b : Nat} (hab : a ≤ b) (hb : b < c.length) : c.getD a 0 ≤ c.getD b 0 := by
  have := sound_mono h (b - a) a (by omega)
  rwa [show a + (b - a) = b by omega] at this
theorem sound_bounds {c : List Int} (h : soundL c = true) {a : Nat} (ha : a < c.length) : 0 ≤ c.getD a 0 ∧ c.getD a 0 ≤ 4503599627370496 := by
  have h1 := sound_le h (Nat.zero_le a) ha
  have h2 := ((soundL_iff c).1 h).2.2
  have h3 := h2.2 a ha
  unfold soundAt at h3
  simp only [Bool.and_eq_true, decide_eq_true_eq] at h3
  exact ⟨by omega, h3.1⟩
theorem hullTo_succ (c : List Int) (k : Nat) : hullTo c (k + 1) = if cornerB c k then hullTo c k ++ [(k : Int)] else hullTo c k := by
  unfold hullTo
  rw [List.range_succ, List.filter_append, List.map_append]
  cases h : cornerB c k
  · simp [h]
  · simp [h]
theorem hullTo_le (c : List Int) : ∀ k : Nat, (hullTo c k).length ≤ k
  | 0 => Nat.le_refl _
  | k + 1 => by
    have ih := hullTo_le c k
    rw [hullTo_succ]
    split
    · rw [List.length_append]; simp; omega
    · omega
theorem all_range_succ (f : Nat → Bool) (k : Nat) : (List.range (k + 1)).all f = ((List.range k).all f && f k) := by
  rw [List.range_succ, List.all_append]; simp
theorem all_range_false {f : Nat → Bool} {k n : Nat} (hk : k ≤ n) (h : (List.range k).all f = false) : (List.range n).all f = false := by
  rw [List.all_eq_false] at h ⊢
  obtain ⟨x, hx, hf⟩ := h
  exact ⟨x, List.mem_range.2 (by have := List.mem_range.1 hx; omega), hf⟩
/-- 'more', in two parts of 16 bits. -/
theorem more_parts (x p y q : Int) : ((y / 65536 * q + y % 65536 * q / 65536 < x / 65536 * p + x % 65536 * p / 65536) ∨ (x / 65536 * p + x % 65536 * p / 65536 = y / 65536 * q + y % 65536 * q / 65536 ∧ y % 65536 * q % 65536 < x % 65536 * p % 65536)) ↔ y * q < x * p := by
  have hx : x * p = x / 65536 * p * 65536 + x % 65536 * p := by
    conv => lhs; rw [← Int.mul_ediv_add_emod x 65536]
    rw [Int.add_mul, Int.mul_assoc, Int.mul_comm 65536]
  have hy : y * q = y / 65536 * q * 65536 + y % 65536 * q := by
    conv => lhs; rw [← Int.mul_ediv_add_emod y 65536]
    rw [Int.add_mul, Int.mul_assoc, Int.mul_comm 65536]
  rw [hx, hy]
  generalize x / 65536 * p = a
  generalize x % 65536 * p = b
  generalize y / 65536 * q = d
  generalize y % 65536 * q = e
  omega

end Go.Proofs.Ytnpdffcplgjbnaa
