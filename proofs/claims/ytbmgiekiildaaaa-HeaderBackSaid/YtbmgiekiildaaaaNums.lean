/-
  Plain arithmetic on lists of bytes: the bytes of a number, the number of bytes, and the answers of the layer pack as functions. No program is spoken of here.
-/
import Derived.WalkKit
namespace Go.Proofs.Ytbmgiekiildaaaa
open Go.RowKit

/-- The first k of the s bytes of n, the greatest first. -/
def bytesTo (n : Int) (s k : Nat) : List Int := (List.range k).map fun i => n / 256 ^ (s - 1 - i) % 256
def bytesOf (n : Int) (s : Nat) : List Int := bytesTo n s s
theorem bytesTo_len (n : Int) (s k : Nat) : (bytesTo n s k).length = k := by simp [bytesTo]
theorem bytesOf_len (n : Int) (s : Nat) : (bytesOf n s).length = s := bytesTo_len n s s
theorem bytesTo_succ (n : Int) (s k : Nat) : bytesTo n s (k + 1) = bytesTo n s k ++ [n / 256 ^ (s - 1 - k) % 256] := by
  simp [bytesTo, List.range_succ]
theorem bytesTo_zero (n : Int) (s : Nat) : bytesTo n s 0 = [] := rfl
theorem bytesTo_mem (n : Int) (s k : Nat) : ∀ z ∈ bytesTo n s k, 0 ≤ z ∧ z ≤ 255 := by
  intro z hz
  simp only [bytesTo, List.mem_map] at hz
  obtain ⟨i, _, rfl⟩ := hz
  omega
theorem bytesOf_mem (n : Int) (s : Nat) : ∀ z ∈ bytesOf n s, 0 ≤ z ∧ z ≤ 255 := bytesTo_mem n s s

/-- The number that bytes are. -/
def valOf (l : List Int) : Int := l.foldl (fun a x => a * 256 + x) 0
theorem valOf_nil : valOf [] = 0 := rfl
theorem valOf_snoc (l : List Int) (x : Int) : valOf (l ++ [x]) = valOf l * 256 + x := by simp [valOf, List.foldl_append]
theorem valOf_bd (l : List Int) (h : ∀ z ∈ l, 0 ≤ z ∧ z ≤ 255) : 0 ≤ valOf l ∧ valOf l < 256 ^ l.length := by
  suffices H : ∀ n (l : List Int), l.length = n → (∀ z ∈ l, 0 ≤ z ∧ z ≤ 255) → 0 ≤ valOf l ∧ valOf l < 256 ^ l.length from H _ l rfl h
  intro n
  induction n with
  | zero => intro l hl _; have : l = [] := List.eq_nil_of_length_eq_zero hl; subst this; simp [valOf]
  | succ n ih =>
    intro l hl hm
    have hne : l ≠ [] := by intro e; subst e; simp at hl
    obtain ⟨a, x, rfl⟩ : ∃ a x, l = a ++ [x] := ⟨l.dropLast, l.getLast hne, (List.dropLast_concat_getLast hne).symm⟩
    have hx := hm x (by simp)
    have ha := ih a (by simpa using hl) (fun z hz => hm z (by simp [hz]))
    rw [valOf_snoc, List.length_append, List.length_singleton, Int.pow_succ]
    omega
theorem pow_le8 (s : Nat) (h : s ≤ 8) : (256 : Int) ^ s ≤ 18446744073709551616 := by
  rcases Nat.lt_or_ge s 8 with h8 | h8
  · have : s = 0 ∨ s = 1 ∨ s = 2 ∨ s = 3 ∨ s = 4 ∨ s = 5 ∨ s = 6 ∨ s = 7 := by omega
    rcases this with rfl | rfl | rfl | rfl | rfl | rfl | rfl | rfl <;> decide
  · have : s = 8 := by omega
    subst this; decide
theorem pow_pos (s : Nat) : (0 : Int) < 256 ^ s := Int.pow_pos (by decide)
theorem pow_le7 (s : Nat) (h : s ≤ 7) : (256 : Int) ^ s ≤ 72057594037927936 := by
  have : s = 0 ∨ s = 1 ∨ s = 2 ∨ s = 3 ∨ s = 4 ∨ s = 5 ∨ s = 6 ∨ s = 7 := by omega
  rcases this with rfl | rfl | rfl | rfl | rfl | rfl | rfl | rfl <;> decide
theorem pow_8 (k : Nat) : (2 : Int) ^ (8 * k) = 256 ^ k := by rw [Int.pow_mul]; rfl

/-- Sizes, and whether a number fits. -/
def szOk (s : Int) : Bool := decide (1 ≤ s ∧ s ≤ 8)
def fitB (n s : Int) : Bool := decide (n < 256 ^ s.toNat)
def szs (sizes : List Int) : Bool := decide (sizes.length ≤ 4096) && sizes.all szOk
def total (sizes : List Int) : Int := sizes.foldl (fun a s => a + s) 0
theorem total_snoc (l : List Int) (x : Int) : total (l ++ [x]) = total l + x := by simp [total, List.foldl_append]
theorem total_cons (l : List Int) (x : Int) : total (x :: l) = x + total l := by
  unfold total
  have H : ∀ (l : List Int) (a : Int), l.foldl (fun a s => a + s) a = a + l.foldl (fun a s => a + s) 0 := by
    intro l
    induction l with
    | nil => intro a; simp
    | cons y ys ih => intro a; rw [List.foldl_cons, List.foldl_cons, ih (a + y), ih (0 + y)]; omega
  rw [List.foldl_cons, H]; omega
theorem total_bd (l : List Int) (h : l.all szOk = true) : (l.length : Int) ≤ total l ∧ total l ≤ 8 * l.length := by
  induction l with
  | nil => simp [total]
  | cons y ys ih =>
    simp only [List.all_cons, Bool.and_eq_true, szOk, decide_eq_true_eq] at h
    have := ih h.2
    rw [total_cons, List.length_cons]
    omega

/-- Fields: the error's number and the bytes. -/
def fieldsE (list sizes : List Int) : Int :=
  if szs sizes = true ∧ list.length = sizes.length then (if (list.zip sizes).all (fun p => fitB p.1 p.2) = true then 0 else 7) else 1
def fieldsTo (list sizes : List Int) (k : Nat) : List Int := ((list.zip sizes).take k).flatMap fun p => bytesOf p.1 p.2.toNat
def fieldsB (list sizes : List Int) : List Int := if fieldsE list sizes = 0 then (list.zip sizes).flatMap (fun p => bytesOf p.1 p.2.toNat) else []

/-- Get: the error's number and the number. -/
def getE (zs : List Int) (s : Int) : Int := if szOk s = true then (if (zs.length : Int) < s then 3 else 0) else 1
def getV (zs : List Int) (s : Int) : Int := if getE zs s = 0 then valOf (zs.take s.toNat) else 0
/-- Split: the error's number and the numbers. -/
def splitE (zs sizes : List Int) : Int := if szs sizes = true then (if (zs.length : Int) < total sizes then 3 else if total sizes < (zs.length : Int) then 2 else 0) else 1
def partsOf : List Int → List Int → List Int
  | _, [] => []
  | zs, s :: ss => valOf (zs.take s.toNat) :: partsOf (zs.drop s.toNat) ss
def splitL (zs sizes : List Int) : List Int := if splitE zs sizes = 0 then partsOf zs sizes else []
theorem szs_one (s : Int) : szs [s] = szOk s := by simp [szs]
theorem total_one (s : Int) : total [s] = s := by simp [total]
theorem partsOf_len (zs sizes : List Int) : (partsOf zs sizes).length = sizes.length := by
  induction sizes generalizing zs with
  | nil => rfl
  | cons s ss ih => simp [partsOf, ih]
theorem partsOf_append (zs a b : List Int) (h : a.all szOk = true) : partsOf zs (a ++ b) = partsOf zs a ++ partsOf (zs.drop (total a).toNat) b := by
  induction a generalizing zs with
  | nil => simp [partsOf, total]
  | cons s ss ih =>
    simp only [List.all_cons, Bool.and_eq_true] at h
    have hs : 1 ≤ s ∧ s ≤ 8 := by simpa only [szOk, decide_eq_true_eq] using h.1
    have ht := total_bd ss h.2
    rw [List.cons_append, partsOf, ih _ h.2, partsOf, List.cons_append, List.drop_drop, total_cons]
    congr 3
    congr 1
    omega
theorem zip_at (list sizes : List Int) (k : Nat) (h1 : k < list.length) (h2 : k < sizes.length) : (list.zip sizes)[k]? = some (list.getD k 0, sizes.getD k 0) := by
  rw [List.getElem?_eq_getElem (by simp; omega), List.getElem_zip]
  simp [List.getD, h1, h2]
theorem zip_take_snoc (list sizes : List Int) (k : Nat) (h1 : k < list.length) (h2 : k < sizes.length) : (list.zip sizes).take (k + 1) = (list.zip sizes).take k ++ [(list.getD k 0, sizes.getD k 0)] := by
  have hk : k < (list.zip sizes).length := by simp; omega
  have hz := zip_at list sizes k h1 h2
  rw [List.getElem?_eq_getElem hk] at hz
  rw [List.take_succ_eq_append_getElem hk]
  injection hz with hz
  rw [hz]
theorem fieldsTo_succ (list sizes : List Int) (k : Nat) (h1 : k < list.length) (h2 : k < sizes.length) :
    fieldsTo list sizes (k + 1) = fieldsTo list sizes k ++ bytesOf (list.getD k 0) (sizes.getD k 0).toNat := by
  unfold fieldsTo
  rw [zip_take_snoc list sizes k h1 h2, List.flatMap_append]
  simp
theorem fieldsTo_zero (list sizes : List Int) : fieldsTo list sizes 0 = [] := by simp [fieldsTo]
theorem fieldsTo_len (list sizes : List Int) (h : sizes.all szOk = true) : ∀ k, (fieldsTo list sizes k).length ≤ 8 * k := by
  intro k
  induction k with
  | zero => simp [fieldsTo]
  | succ k ih =>
    by_cases h1 : k < list.length ∧ k < sizes.length
    · rw [fieldsTo_succ list sizes k h1.1 h1.2, List.length_append, bytesOf_len]
      have hm : sizes.getD k 0 ∈ sizes := by simp [List.getD, h1.2]
      have := List.all_eq_true.1 h _ hm
      simp only [szOk, decide_eq_true_eq] at this
      omega
    · have hl : (list.zip sizes).length ≤ k := by simp; omega
      unfold fieldsTo at ih ⊢
      rw [List.take_of_length_le (by omega)]
      rw [List.take_of_length_le hl] at ih
      omega
theorem fieldsE_arg {list sizes : List Int} (h : szs sizes = false ∨ list.length ≠ sizes.length) : fieldsE list sizes = 1 ∧ fieldsB list sizes = [] := by
  have : fieldsE list sizes = 1 := by
    unfold fieldsE
    rw [if_neg]
    rintro ⟨a, b⟩
    rcases h with h | h
    · rw [h] at a; cases a
    · exact h b
  exact ⟨this, by unfold fieldsB; rw [this]; rfl⟩
theorem fieldsE_range {list sizes : List Int} (h : szs sizes = true) (hl : list.length = sizes.length) (k : Nat) (hk : k < list.length) (hf : fitB (list.getD k 0) (sizes.getD k 0) = false) : fieldsE list sizes = 7 ∧ fieldsB list sizes = [] := by
  have : fieldsE list sizes = 7 := by
    unfold fieldsE
    rw [if_pos ⟨h, hl⟩, if_neg]
    intro ha
    have hz := zip_at list sizes k hk (by omega)
    have := List.all_eq_true.1 ha _ (List.mem_of_getElem? hz)
    simp only [hf] at this
    cases this
  exact ⟨this, by unfold fieldsB; rw [this]; rfl⟩
theorem fieldsE_ok {list sizes : List Int} (h : szs sizes = true) (hl : list.length = sizes.length) (ha : ((list.zip sizes).take list.length).all (fun p => fitB p.1 p.2) = true) : fieldsE list sizes = 0 ∧ fieldsB list sizes = fieldsTo list sizes list.length := by
  have hz : (list.zip sizes).take list.length = list.zip sizes := List.take_of_length_le (by simp; omega)
  rw [hz] at ha
  have : fieldsE list sizes = 0 := by
    unfold fieldsE
    rw [if_pos ⟨h, hl⟩, if_pos ha]
  exact ⟨this, by unfold fieldsB fieldsTo; rw [this, hz]; rfl⟩

end Go.Proofs.Ytbmgiekiildaaaa
