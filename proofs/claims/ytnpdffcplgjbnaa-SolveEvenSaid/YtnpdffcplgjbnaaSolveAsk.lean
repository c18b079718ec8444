/-
  Curves that came in, a slice of slices; the document's own smaller calls (stowageref12): all, gain.
-/
import Derived.Test.YtnpdffcplgjbnaaSolveNums
import Derived.Test.YtnpdffcplgjbnaaCurveAtR
namespace Go.Proofs.Ytnpdffcplgjbnaa
open Go.RowKit

/-- A curve that came in, as a slice. -/
structure Cur where
  A : Option Addr
  c : Nat
  l : List Int
structure Cur.ok (w : World) (B : Nat) (p : Cur) : Prop where
  ints : Ints w B .i64 p.A p.l
  val : ∀ z ∈ p.l, -9223372036854775808 ≤ z ∧ z ≤ 9223372036854775807
  le : p.l.length ≤ p.c
  cap : p.c ≤ 9223372036854775807
/-- A slice of curves. -/
def Curs (w : World) (B : Nat) (A : Option Addr) (ps : List Cur) : Prop :=
  ∀ i, (h : i < ps.length) → ∃ b off, A = some ⟨b, off, none⟩ ∧ b < B ∧ w.cell? ⟨b, off + i, none⟩ = some (.slice ps[i].A ps[i].l.length ps[i].c) ∧ ps[i].ok w B
theorem Cur.ok.below {w w' : World} {B : Nat} {p : Cur} (h : p.ok w B) (hb : Below B w w') : p.ok w' B := ⟨h.ints.below hb, h.val, h.le, h.cap⟩
theorem Cur.ok.more {w : World} {B B' : Nat} {p : Cur} (h : p.ok w B) (hB : B ≤ B') : p.ok w B' := ⟨h.ints.more hB, h.val, h.le, h.cap⟩
theorem Curs.below {w w' : World} {B : Nat} {A : Option Addr} {ps : List Cur} (h : Curs w B A ps) (hb : Below B w w') : Curs w' B A ps := fun i hi => by
  obtain ⟨b, off, h1, h2, h3, h4⟩ := h i hi
  exact ⟨b, off, h1, h2, (hb.cell (p := ⟨b, off + i, none⟩) h2).trans h3, h4.below hb⟩
theorem Curs.more {w : World} {B B' : Nat} {A : Option Addr} {ps : List Cur} (h : Curs w B A ps) (hB : B ≤ B') : Curs w B' A ps := fun i hi => by
  obtain ⟨b, off, h1, h2, h3, h4⟩ := h i hi
  exact ⟨b, off, h1, Nat.lt_of_lt_of_le h2 hB, h3, h4.more hB⟩

/-- Which error: of how many together, the least of each, and curves. -/
def solveE (total : Int) (least : List Int) (cs : List (List Int)) : Int :=
  if total < 0 ∨ 512 < total ∨ cs.length = 0 ∨ 16 < cs.length ∨ least.length ≠ cs.length then 1
  else if least.any (fun z => decide (z < 0) || decide (total < z)) then 1
  else if cs.any (fun c => !soundL c) then 2
  else if total < least.sum then 6 else 0

theorem sumTake_succ (l : List Int) {k : Nat} (h : k < l.length) : (l.take (k + 1)).sum = (l.take k).sum + l.getD k 0 := sumK_succ l h

set_option maxHeartbeats 800000 in
/-- 'all', of numbers that are small. -/
theorem refAll_any (A : Option Addr) (n : Nat) (l : List Int) (w : World) (h : Ints w w.heap.size .i64 A l) (hl : l.length ≤ 16) (hb : ∀ z ∈ l, 0 ≤ z ∧ z ≤ 512) :
    Calls Try.prog 24 #[.slice A l.length n] w fun e w' => e = .returned (.int .i64 l.sum) ∧ w = w' := by
  have HS : Hid (∀ k, k < l.length → sumK l (k + 1) = sumK l k + l.getD k 0 ∧ 0 ≤ l.getD k 0 ∧ l.getD k 0 ≤ 512) := fun k hk => by
    have := hb (l.getD k 0) (by rw [List.getD_eq_getElem?_getD, List.getElem?_eq_getElem hk]; exact List.getElem_mem hk)
    exact ⟨sumK_succ l hk, this.1, this.2⟩
  have HB : Hid (∀ k, k ≤ l.length → 0 ≤ sumK l k ∧ sumK l k ≤ 512 * (k : Int)) := fun k hk => by
    induction k with
    | zero => exact ⟨Int.le_refl _, Int.le_refl _⟩
    | succ k ih =>
      have h1 := ih (by omega)
      obtain ⟨h2, h3, h4⟩ := HS.out k (by omega)
      rw [h2]; omega
  have HE : Hid (sumK l l.length = l.sum) := by refine Lib.hid ?_; unfold sumK; rw [List.take_length]
  have HC : Hid (∀ i, i < l.length → ∃ b o, A = some ⟨b, o, none⟩ ∧ w.cell? ⟨b, o + i, none⟩ = some (.int .i64 (l.getD i 0))) := fun i hi => by
    obtain ⟨b, o, e, _, q⟩ := h i hi
    exact ⟨b, o, e, q⟩
  rw [← HE.out]
  obtain ⟨N, hN⟩ : ∃ N, N = l.length := ⟨_, rfl⟩
  simp only [← hN] at HS HB HC hl ⊢
  obtain ⟨F, hF⟩ : ∃ F : Nat → Int, F = fun i => l.getD i 0 := ⟨_, rfl⟩
  have hFF : ∀ i, l.getD i 0 = F i := fun i => by rw [hF]
  obtain ⟨G, hG⟩ : ∃ G, G = sumK l := ⟨_, rfl⟩
  simp only [hFF] at HS HC
  simp only [← hG] at HS HB ⊢
  have g0 : Hid (G 0 = 0) := by refine Lib.hid ?_; rw [hG]; rfl
  have n1 : (N : Int) ≤ 16 := by omega
  clear h hb HE hN hF hFF hG
  go_enter Try.func24, Try.ntmps24
  go_wp2
  go_loopw [3, 4] (fun s i wr => ∃ k : Nat, k ≤ N ∧ i = .int .i64 k ∧ s = .int .i64 (G k) ∧ wr = w) (fun _ i _ => N - (intOf i).toNat)
  case atStart => exact ⟨0, Nat.zero_le _, rfl, by rw [g0.out], rfl⟩
  case round =>
    obtain ⟨k, hk, rfl, rfl, rfl⟩ := hrel
    by_cases hlt : k < N
    · obtain ⟨b, o, rfl, q0⟩ := HC.out k hlt
      obtain ⟨h1, h2, h3⟩ := HS.out k hlt
      have h4 := HB.out k hk
      have k1 : (k : Int) < (N : Int) := by omega
      have k0 : (0 : Int) ≤ (k : Int) := by omega
      obtain ⟨x, hx⟩ : ∃ x, x = F k := ⟨_, rfl⟩
      rw [← hx] at q0 h1 h2 h3
      have H1 := Lib.hid h1
      obtain ⟨S, hS⟩ : ∃ x, x = G k := ⟨_, rfl⟩
      rw [← hS] at H1 h4 ⊢
      have s0 : (0 : Int) ≤ S := h4.1
      have s1 : S ≤ 8192 := by omega
      clear hx h1 h4 hS
      go_wp2
      go_roundw
      case rel => first | exact ⟨k + 1, by omega, by go_num, by rw [H1.out], by first | rfl | trivial⟩ | ((repeat apply Exists.intro); exact ⟨⟨k + 1, by omega, by go_num, by rw [H1.out], by first | rfl | trivial⟩, rfl⟩)
      case measure => simp [intOf]; omega
    · have hk8 : k = N := by omega
      subst hk8
      go_wp2
      go_ret
      exact ⟨rfl, rfl⟩

end Go.Proofs.Ytnpdffcplgjbnaa
