/-
  Plain arithmetic: a number's bytes are that number again; bytes are in the order of the numbers; a byte more. No program is spoken of here.
-/
import Derived.Test.YtbmgiekiildaaaaNums
import Derived.Laws.BytesArg
namespace Go.Proofs.Ytbmgiekiildaaaa
open Go.RowKit

theorem foldl_val (l : List Int) : ∀ a : Int, l.foldl (fun a x => a * 256 + x) a = a * 256 ^ l.length + valOf l := by
  induction l with
  | nil => intro a; simp [valOf]
  | cons x l ih =>
    intro a
    unfold valOf
    rw [List.foldl_cons, List.foldl_cons, ih, ih (0 * 256 + x), List.length_cons, Int.pow_succ]
    have e1 : (a * 256 + x) * 256 ^ l.length = a * 256 * 256 ^ l.length + x * 256 ^ l.length := by rw [Int.add_mul]
    have e2 : a * (256 ^ l.length * 256) = a * 256 * 256 ^ l.length := by rw [Int.mul_comm (256 ^ l.length) 256, Int.mul_assoc]
    rw [e1, e2, Int.zero_mul, Int.zero_add]
    omega
theorem valOf_cons (x : Int) (l : List Int) : valOf (x :: l) = x * 256 ^ l.length + valOf l := by
  show (x :: l).foldl (fun a x => a * 256 + x) 0 = _
  rw [List.foldl_cons, foldl_val, Int.zero_mul, Int.zero_add]
theorem valOf_bytesTo (n : Int) (s : Nat) (h0 : 0 ≤ n) (h : n < 256 ^ s) : ∀ k, k ≤ s → valOf (bytesTo n s k) = n / 256 ^ (s - k) := by
  intro k
  induction k with
  | zero => intro _; rw [bytesTo_zero, valOf_nil, Nat.sub_zero, Int.ediv_eq_zero_of_lt h0 h]
  | succ k ih =>
    intro hk
    rw [bytesTo_succ, valOf_snoc, ih (by omega)]
    have e : s - k = (s - 1 - k) + 1 := by omega
    have e2 : s - (k + 1) = s - 1 - k := by omega
    rw [e2, e, Int.pow_succ, ← Int.ediv_ediv_of_nonneg (Int.le_of_lt (pow_pos _))]
    omega
theorem valOf_bytesOf (n : Int) (s : Nat) (h0 : 0 ≤ n) (h : n < 256 ^ s) : valOf (bytesOf n s) = n := by
  have := valOf_bytesTo n s h0 h s (Nat.le_refl _)
  rw [Nat.sub_self, Int.pow_zero, Int.ediv_one] at this
  exact this
theorem val_step {x y v u p : Int} (hv : 0 ≤ v ∧ v < p) (hu : 0 ≤ u ∧ u < p) (h : x < y) : x * p + v < y * p + u := by
  have h1 : (x + 1) * p ≤ y * p := Int.mul_le_mul_of_nonneg_right (by omega) (by omega)
  rw [Int.add_mul, Int.one_mul] at h1
  omega
theorem byte_lt {a b : Int} (ha : 0 ≤ a ∧ a ≤ 255) (hb : 0 ≤ b ∧ b ≤ 255) : (UInt8.ofNat a.toNat < UInt8.ofNat b.toNat) ↔ a < b := by
  rw [UInt8.lt_iff_toNat_lt, UInt8.toNat_ofNat', UInt8.toNat_ofNat']
  omega
theorem byte_eq {a b : Int} (ha : 0 ≤ a ∧ a ≤ 255) (hb : 0 ≤ b ∧ b ≤ 255) : (UInt8.ofNat a.toNat = UInt8.ofNat b.toNat) ↔ a = b := by
  rw [← UInt8.toNat_inj, UInt8.toNat_ofNat', UInt8.toNat_ofNat']
  omega
theorem less_val : ∀ (a b : List Int), a.length = b.length → (∀ z ∈ a, 0 ≤ z ∧ z ≤ 255) → (∀ z ∈ b, 0 ≤ z ∧ z ≤ 255) →
    Op.bytesLess (a.map fun n => UInt8.ofNat n.toNat) (b.map fun n => UInt8.ofNat n.toNat) = decide (valOf a < valOf b) := by
  intro a
  induction a with
  | nil =>
    intro b hl _ _
    have : b = [] := List.eq_nil_of_length_eq_zero (by simpa using hl.symm)
    subst this
    rfl
  | cons x a ih =>
    intro b hl ha hb
    cases b with
    | nil => simp at hl
    | cons y b =>
      have hl' : a.length = b.length := by simpa using hl
      have hx := ha x (by simp)
      have hy := hb y (by simp)
      have ha' := fun z hz => ha z (List.mem_cons_of_mem _ hz)
      have hb' := fun z hz => hb z (List.mem_cons_of_mem _ hz)
      have va := valOf_bd a ha'
      have vb := valOf_bd b hb'
      rw [List.map_cons, List.map_cons, Op.bytesLess, ih b hl' ha' hb', valOf_cons, valOf_cons, hl']
      rw [hl'] at va
      rw [Bool.eq_iff_iff]
      simp only [Bool.or_eq_true, Bool.and_eq_true, decide_eq_true_eq, beq_iff_eq, byte_lt hx hy, byte_eq hx hy]
      constructor
      · rintro (h | ⟨rfl, h⟩)
        · exact val_step va vb h
        · omega
      · intro h
        rcases Int.lt_trichotomy x y with h1 | h1 | h1
        · exact .inl h1
        · subst h1; exact .inr ⟨rfl, by omega⟩
        · have := val_step vb va h1
          omega
theorem val_inj : ∀ (a b : List Int), a.length = b.length → (∀ z ∈ a, 0 ≤ z ∧ z ≤ 255) → (∀ z ∈ b, 0 ≤ z ∧ z ≤ 255) → valOf a = valOf b → a = b := by
  intro a
  induction a with
  | nil =>
    intro b hl _ _ _
    exact (List.eq_nil_of_length_eq_zero (by simpa using hl.symm)).symm
  | cons x a ih =>
    intro b hl ha hb h
    cases b with
    | nil => simp at hl
    | cons y b =>
      have hl' : a.length = b.length := by simpa using hl
      have ha' := fun z hz => ha z (List.mem_cons_of_mem _ hz)
      have hb' := fun z hz => hb z (List.mem_cons_of_mem _ hz)
      have va := valOf_bd a ha'
      have vb := valOf_bd b hb'
      rw [valOf_cons, valOf_cons, hl'] at h
      rw [hl'] at va
      have hxy : x = y := by
        rcases Int.lt_trichotomy x y with h1 | h1 | h1
        · have := val_step va vb h1; omega
        · exact h1
        · have := val_step vb va h1; omega
      subst hxy
      rw [ih b hl' ha' hb' (by omega)]
theorem bytesOf_valOf (l : List Int) (h : ∀ z ∈ l, 0 ≤ z ∧ z ≤ 255) : bytesOf (valOf l) l.length = l :=
  val_inj _ _ (bytesOf_len _ _) (bytesOf_mem _ _) h (valOf_bytesOf _ _ (valOf_bd l h).1 (valOf_bd l h).2)
/-- A byte more: a byte 0 ahead. -/
theorem bytesOf_more (n : Int) (s : Nat) (h0 : 0 ≤ n) (h : n < 256 ^ s) : bytesOf n (s + 1) = 0 :: bytesOf n s := by
  have hp := pow_pos s
  have h2 : n < 256 ^ (s + 1) := by rw [Int.pow_succ]; omega
  refine val_inj _ _ ?_ (bytesOf_mem _ _) ?_ ?_
  · rw [List.length_cons, bytesOf_len, bytesOf_len]
  · intro z hz
    rcases List.mem_cons.1 hz with rfl | hz
    · omega
    · exact bytesOf_mem _ _ z hz
  · rw [valOf_bytesOf n (s + 1) h0 h2, valOf_cons, Int.zero_mul, Int.zero_add, valOf_bytesOf n s h0 h]

theorem strList (l : List Int) : (strOfNums l).toList = l.map fun n => UInt8.ofNat n.toNat := ByteArray.toList_mk _
theorem strCat (a b : List Int) : strOfNums a ++ strOfNums b = strOfNums (a ++ b) := by
  apply ByteArray.ext
  rw [ByteArray.data_append]
  simp [strOfNums]
theorem strZero (l : List Int) : (⟨#[0]⟩ : ByteArray) ++ strOfNums l = strOfNums (0 :: l) := strCat [0] l

end Go.Proofs.Ytbmgiekiildaaaa
