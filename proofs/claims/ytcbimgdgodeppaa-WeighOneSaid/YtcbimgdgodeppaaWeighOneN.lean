/-
  Plain facts for WeighOne: one weight alone; the greatest unit; what is infinite. No program.
-/
import Derived.Test.YtcbimgdgodeppaaWeighRefS
import Derived.Test.YtcbimgdgodeppaaWeighFloat
namespace Go.Proofs.Ytcbimgdgodeppaa
open Go.RowKit Ieee

theorem order_max {b : Nat} (hb : b < 18446744073709551616) : (Ieee.double.order b 9218868437227405311 = some .gt) ↔ infN b = true := by
  constructor
  · intro h
    obtain ⟨h1, h2⟩ := order_gt hb (b' := 9218868437227405311) (by decide) h
    have hp : 0 < b ∧ b ≤ infBits := by simpa [posN] using h1
    have hne : b ≠ 9218868437227405311 := by
      rintro rfl
      exact absurd h (by decide)
    unfold infN infBits at *
    rw [beq_iff_eq]; omega
  · intro h
    have : b = infBits := by simpa [infN] using h
    subst this
    decide
theorem unit_pos {f : Nat} (hp : posN f = true) : 0 < unitN (anyInf [f]) ((mostN [f]).getD 0) f := by
  cases hi : infN f with
  | true => have : anyInf [f] = true := by simp [anyInf, hi]
            unfold unitN
            rw [this, if_pos rfl, if_pos hi]; decide
  | false =>
    have ha : anyInf [f] = false := by simp [anyInf, hi]
    obtain ⟨t, ht, _⟩ := most_ge (l := [f]) (b := f) (by simp) hp hi
    obtain ⟨b, hb, h⟩ := unit_most ha ht
    have : b = f := by simpa using hb
    subst this
    have := Nat.two_pow_pos 31
    omega
theorem units_single (f : Nat) : unitsN [f] = [unitN (anyInf [f]) ((mostN [f]).getD 0) f] := rfl
theorem allN_single (u : Nat) : allN [u] = u := by simp [allN, sumF]
theorem share_single {total : Int} {f : Nat} (ht : ¬ total < 0) (ht2 : ¬ total > 1048576) (hp : posN f = true) : shareR total [f] = (0, [total]) := by
  have hu := unit_pos hp
  unfold shareR
  rw [if_neg (by simp; omega), units_single, allN_single, if_neg (by omega), share_one total _ hu]
theorem share_none_one {total : Int} {f : Nat} (ht : ¬ total < 0) (ht2 : ¬ total > 1048576) (hp : posN f = false) : shareR total [f] = (4, []) := by
  unfold shareR
  rw [if_neg (by simp; omega), units_single, allN_single, unit_none hp]; rfl
theorem share_arg_one {total : Int} {f : Nat} (ht : total < 0 ∨ total > 1048576) : shareR total [f] = (1, []) := by
  unfold shareR
  rw [if_pos (by omega)]
/-- The greatest of some numbers. -/
def maxN (l : List Nat) : Nat := l.foldl max 0
theorem maxN_snoc (l : List Nat) (x : Nat) : maxN (l ++ [x]) = max (maxN l) x := by simp [maxN, List.foldl_append]
theorem maxN_ge : ∀ {l : List Nat} {x : Nat}, x ∈ l → x ≤ maxN l := by
  intro l
  suffices H : ∀ n (l : List Nat), l.length = n → ∀ x ∈ l, x ≤ maxN l from fun {x} h => H _ l rfl x h
  intro n
  induction n with
  | zero => intro l hl x hx; rw [List.eq_nil_of_length_eq_zero hl] at hx; cases hx
  | succ n ih =>
    intro l hl x hx
    rcases List.eq_nil_or_concat l with rfl | ⟨L, b, hb⟩
    · cases hx
    · rw [List.concat_eq_append] at hb
      subst hb
      have hL : L.length = n := by simpa using hl
      rw [maxN_snoc]
      rcases List.mem_append.1 hx with h | h
      · have := ih L hL x h; omega
      · have : x = b := by simpa using h
        omega
theorem maxN_le {m : Nat} : ∀ (l : List Nat), (∀ x ∈ l, x ≤ m) → maxN l ≤ m := by
  suffices H : ∀ n (l : List Nat), l.length = n → (∀ x ∈ l, x ≤ m) → maxN l ≤ m from fun l h => H _ l rfl h
  intro n
  induction n with
  | zero => intro l hl _; rw [List.eq_nil_of_length_eq_zero hl]; exact Nat.zero_le _
  | succ n ih =>
    intro l hl h
    rcases List.eq_nil_or_concat l with rfl | ⟨L, b, hb⟩
    · cases hl
    · rw [List.concat_eq_append] at hb
      subst hb
      rw [maxN_snoc]
      have h1 := ih L (by simpa using hl) fun x hx => h x (by simp [hx])
      have h2 := h b (by simp)
      omega
theorem most_inf {l : List Nat} (h : anyInf l = true) : maxN (unitsN l) = 1 := by
  have h1 : maxN (unitsN l) ≤ 1 := maxN_le _ fun x hx => by
    obtain ⟨b, _, rfl⟩ := List.mem_map.1 hx
    unfold unitN
    rw [if_pos h]
    split <;> decide
  obtain ⟨b, hb, hi⟩ := List.any_eq_true.1 h
  have h2 : 1 ≤ maxN (unitsN l) := by
    refine maxN_ge (List.mem_map.2 ⟨b, hb, ?_⟩)
    unfold unitN
    rw [if_pos h, if_pos hi]
  omega
theorem most_fin {l : List Nat} {f : Nat} (h : anyInf l = false) (hf : f ∈ l) (hp : posN f = true) : 2147483648 ≤ maxN (unitsN l) ∧ maxN (unitsN l) < 4294967296 := by
  have hi : infN f = false := by
    cases e : infN f
    · rfl
    · have : anyInf l = true := List.any_eq_true.2 ⟨f, hf, e⟩
      rw [h] at this; cases this
  obtain ⟨t, ht, _⟩ := most_ge hf hp hi
  obtain ⟨b, hb, hge⟩ := unit_most h ht
  have h1 := maxN_ge (l := unitsN l) (List.mem_map.2 ⟨b, hb, rfl⟩)
  have h2 : maxN (unitsN l) ≤ 4294967295 := maxN_le _ fun x hx => by
    obtain ⟨b, hb, rfl⟩ := List.mem_map.1 hx
    have := unit_lt hb
    omega
  omega

end Go.Proofs.Ytcbimgdgodeppaa
