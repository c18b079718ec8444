/-
  slices.swapRangeCmpFunc and slices.rotateCmpFunc on a row of integers: two ranges change places; two neighbours change places.
-/
import Derived.Test.YtcbimgdgodeppaaSortN
import Derived.Test.YtcbimgdgodeppaaWords
import Derived.Test.YtcbimgdgodeppaaArrs
import Derived.Test.YtcbimgdgodeppaaChecked
import Derived.Tactics
import Derived.Tactics2
import Derived.LoopTactic
import Derived.OpenShut
import Derived.WalkLawsBesides
import Derived.BigQuiet
import Derived.BigRegion
import Derived.Shelf.RegionOpenPlain
import Derived.Deep.DeepCutAuto
namespace Go.Proofs.Ytcbimgdgodeppaa
open Go.RowKit

/-! ### The row that is sorted -/
def CJ (l : List Int) : Array Value := (l.map (Value.int .i64)).toArray
/-- The row lies whole in block g; what lies below it is as it was. -/
structure Srt (g : Nat) (w0 : World) (l : List Int) (w : World) : Prop where
  row : w.heap[g]? = some (.cells (CJ l) 3 (0, 0))
  below : Below g w0 w
theorem CJ_at {l : List Int} {i : Nat} (h : i < l.length) : (CJ l)[i]? = some (.int .i64 (l.getD i 0)) := by
  simp [CJ, List.getD_eq_getElem?_getD, h]
theorem CJ_set (l : List Int) (i : Nat) (x : Int) : (CJ l).setIfInBounds i (.int .i64 x) = CJ (l.set i x) := by
  unfold CJ
  rw [List.setIfInBounds_toArray, List.map_set]
theorem setCell_row (w : World) (g i : Nat) (v : Value) (C : Array Value) (t : TypeId) (fr : Nat × Nat) (h : w.heap[g]? = some (.cells C t fr)) : (w.setCell ⟨g, i, none⟩ v).heap[g]? = some (.cells (C.setIfInBounds i v) t fr) := by
  simp [World.setCell, Array.getElem?_modify, h]
section
variable {g : Nat} {w0 w : World} {l : List Int}
theorem Srt.cell (h : Srt g w0 l w) {i : Nat} (hi : i < l.length) : w.cell? ⟨g, i, none⟩ = some (.int .i64 (l.getD i 0)) := by
  rw [cell_of_row _ _ _ _ _ _ h.row, CJ_at hi]
theorem Srt.thaw (h : Srt g w0 l w) (i : Nat) : w.frozen? ⟨g, i, none⟩ = false := frozen_of_row _ _ _ _ _ h.row
theorem Srt.drewN (h : Srt g w0 l w) (n : Nat) : Srt g w0 l (w.drewN n) := ⟨h.row, below_drewN h.below n⟩
theorem Srt.drew (h : Srt g w0 l w) : Srt g w0 l w.drew := h.drewN 1
theorem Srt.set (h : Srt g w0 l w) (i : Nat) (x : Int) : Srt g w0 (l.set i x) (w.setCell ⟨g, i, none⟩ (.int .i64 x)) :=
  ⟨by rw [setCell_row _ _ _ _ _ _ _ h.row, CJ_set], h.below.setCell (p := ⟨g, i, none⟩) (Nat.le_refl _) _⟩
theorem Srt.swap (h : Srt g w0 l w) (i j : Nat) : Srt g w0 (swapL l i j) ((w.setCell ⟨g, i, none⟩ (.int .i64 (l.getD j 0))).setCell ⟨g, j, none⟩ (.int .i64 (l.getD i 0))).drew :=
  ((h.set i (l.getD j 0)).set j (l.getD i 0)).drew
/-- Behind the first store the other place still holds something. -/
theorem Srt.some (h : Srt g w0 l w) {i j : Nat} (hj : j < l.length) (x : Int) : ∃ u, (w.setCell ⟨g, i, none⟩ (.int .i64 x)).cell? ⟨g, j, none⟩ = some u :=
  ⟨_, (h.set i x).cell (by rw [List.length_set]; exact hj)⟩
end

theorem Try.mixedS : Try.prog.follows .mixedOrders = true := by kernel_rfl
/-! ### Two ranges change places -/
/-- The first i of the ranges U and V have changed places. -/
def swpR (X U Y V Z : List Int) (i : Nat) : List Int := (X ++ V.take i) ++ (U.drop i ++ (Y ++ U.take i ++ (V.drop i ++ Z)))
theorem swpR_zero (X U Y V Z : List Int) : swpR X U Y V Z 0 = X ++ (U ++ (Y ++ (V ++ Z))) := by simp [swpR]
theorem swpR_all (X U Y V Z : List Int) (h : U.length = V.length) : swpR X U Y V Z U.length = X ++ (V ++ (Y ++ (U ++ Z))) := by
  unfold swpR
  rw [List.drop_length, List.take_length, List.take_of_length_le (by omega), List.drop_of_length_le (by omega)]
  simp
theorem swpR_len (X U Y V Z : List Int) {i : Nat} : (swpR X U Y V Z i).length = X.length + U.length + Y.length + V.length + Z.length := by
  simp only [swpR, List.length_append, List.length_take, List.length_drop]
  omega
theorem swpR_next (X U Y V Z : List Int) (h : U.length = V.length) {i : Nat} (hi : i < U.length) : swapL (swpR X U Y V Z i) (X.length + i) (X.length + U.length + Y.length + i) = swpR X U Y V Z (i + 1) := by
  have hv : i < V.length := by omega
  have e1 : U.drop i = U[i] :: U.drop (i + 1) := List.drop_eq_getElem_cons hi
  have e2 : V.drop i = V[i] :: V.drop (i + 1) := List.drop_eq_getElem_cons hv
  have e3 : U.take (i + 1) = U.take i ++ [U[i]] := List.take_succ_eq_append_getElem hi
  have e4 : V.take (i + 1) = V.take i ++ [V[i]] := List.take_succ_eq_append_getElem hv
  have l1 : (X ++ V.take i).length = X.length + i := by rw [List.length_append, List.length_take]; omega
  have l2 : (U.drop (i + 1) ++ (Y ++ U.take i)).length = U.length + Y.length - 1 := by rw [List.length_append, List.length_append, List.length_take, List.length_drop]; omega
  unfold swpR
  rw [e3, e4, e1, e2]
  have e5 : (X ++ V.take i) ++ (U[i] :: U.drop (i + 1) ++ (Y ++ U.take i ++ (V[i] :: V.drop (i + 1) ++ Z))) = (X ++ V.take i) ++ U[i] :: ((U.drop (i + 1) ++ (Y ++ U.take i)) ++ V[i] :: (V.drop (i + 1) ++ Z)) := by simp only [List.append_assoc, List.cons_append]
  rw [e5, swapL_app _ _ _ _ _ l1.symm (by rw [l1, l2]; omega)]
  simp only [List.append_assoc, List.cons_append, List.nil_append]

set_option maxHeartbeats 1600000 in
set_option maxRecDepth 20000 in
theorem swapRange_go (g N cap a b n : Nat) (F : Value) (X U Y V Z l : List Int) (w0 w : World) (hl : l = X ++ (U ++ (Y ++ (V ++ Z)))) (hS : Srt g w0 l w) (hN : l.length = N) (hu : U.length = n) (hv : V.length = n) (ha : X.length = a) (hb : X.length + U.length + Y.length = b) (hm : N ≤ 100000) :
    Calls Try.prog 52 #[.slice (some ⟨g, 0, none⟩) N cap, .int .i64 a, .int .i64 b, .int .i64 n, F] w fun e w' => e = .returned (.tuple #[]) ∧ Srt g w0 (X ++ (V ++ (Y ++ (U ++ Z)))) w' := by
  have hlen : N = X.length + U.length + Y.length + V.length + Z.length := by rw [← hN, hl]; simp; omega
  have HN : Hid (∀ i, i < n → swapL (swpR X U Y V Z i) (a + i) (b + i) = swpR X U Y V Z (i + 1)) := fun i hi => by rw [← ha, ← hb]; exact swpR_next X U Y V Z (by omega) (i := i) (by omega)
  have HL : Hid (∀ i, (swpR X U Y V Z i).length = N) := fun i => by rw [swpR_len, hlen]
  have HA := Lib.hid (swpR_all X U Y V Z (by omega))
  rw [hu] at HA
  rw [hl, ← swpR_zero] at hS
  have H0 := Lib.hid hS
  obtain ⟨M, hM⟩ : ∃ M, M = swpR X U Y V Z := ⟨_, rfl⟩
  simp only [← hM] at HN HL HA H0
  have hbn : b + n ≤ N := by omega
  have han : a + n ≤ b := by omega
  rw [← HA.out]
  clear HA hS hl hM hN hu hv ha hb hlen
  have mixed := Try.mixedS
  go_enter Try.func52, Try.ntmps52
  go_wp2
  go_loopw [10] (fun v wr => ∃ i : Nat, i ≤ n ∧ v = .int .i64 i ∧ Hid (Srt g w0 (M i) wr)) (fun v _ => n - (intOf v).toNat)
  case atStart => exact ⟨0, Nat.zero_le _, rfl, H0⟩
  case round =>
    clear H0
    obtain ⟨i, hi, rfl, S1⟩ := hrel
    by_cases hlt : i < n
    · have k1 : (i : Int) < (n : Int) := by omega
      have hml := HL.out i
      have c1 := S1.out.cell (i := a + i) (by omega)
      have c2 := S1.out.cell (i := b + i) (by omega)
      have f1 := S1.out.thaw (a + i)
      have f2 := S1.out.thaw (b + i)
      have S2 := S1.out.swap (a + i) (b + i)
      rw [HN.out i hlt] at S2
      obtain ⟨x, hx⟩ : ∃ x, x = (M i).getD (a + i) 0 := ⟨_, rfl⟩
      obtain ⟨y, hy⟩ : ∃ x, x = (M i).getD (b + i) 0 := ⟨_, rfl⟩
      obtain ⟨u, c3⟩ := S1.out.some (i := a + i) (j := b + i) (by omega) y
      rw [← hx] at c1 S2
      rw [← hy] at c2 S2
      replace S2 := Lib.hid S2
      obtain ⟨p, hp⟩ : ∃ p, p = a + i := ⟨_, rfl⟩
      obtain ⟨q, hq⟩ : ∃ p, p = b + i := ⟨_, rfl⟩
      rw [← hp] at c1 f1 c3 S2
      rw [← hq] at c2 f2 c3 S2
      have ea : ((a : Int) + (i : Int)).toNat = p := by omega
      have eb : ((b : Int) + (i : Int)).toNat = q := by omega
      have pa : (0 : Int) ≤ (a : Int) + (i : Int) := by omega
      have pb : (0 : Int) ≤ (b : Int) + (i : Int) := by omega
      have ba : (a : Int) + (i : Int) < (N : Int) := by omega
      have bb : (b : Int) + (i : Int) < (N : Int) := by omega
      have ra : IntKind.i64.wrap ((a : Int) + (i : Int)) = (a : Int) + (i : Int) := IntWalk.i64_in _ (by omega)
      have rb : IntKind.i64.wrap ((b : Int) + (i : Int)) = (b : Int) + (i : Int) := IntWalk.i64_in _ (by omega)
      clear hx hy S1 hml hp hq
      go_wp2_with fail
      go_big_region_o
      clear c1 c2 c3 f1 f2
      go_wp2
      go_roundw
      case rel => exact ⟨i + 1, by omega, by go_num, S2⟩
      case measure => simp [intOf]; omega
    · have hk : i = n := by omega
      subst hk
      have k1 : ¬ (i : Int) < (i : Int) := by omega
      go_wp2
      go_end0
      exact ⟨rfl, S1.out⟩

/-! ### Two neighbours change places -/
set_option maxHeartbeats 1600000 in
set_option maxRecDepth 20000 in
theorem rotate_go (g N cap a m b : Nat) (F : Value) (P U V S l : List Int) (w0 w : World) (hl : l = P ++ (U ++ (V ++ S))) (hS : Srt g w0 l w) (hN : l.length = N) (ha : P.length = a) (hm : P.length + U.length = m) (hb : P.length + U.length + V.length = b) (hu : 0 < U.length) (hv : 0 < V.length) (hx : N ≤ 100000) :
    Calls Try.prog 51 #[.slice (some ⟨g, 0, none⟩) N cap, .int .i64 a, .int .i64 m, .int .i64 b, F] w fun e w' => e = .returned (.tuple #[]) ∧ Srt g w0 (P ++ (V ++ (U ++ S))) w' := by
  have HS : Hid (∀ (c d n : Nat) (X U Y V Z l : List Int) (W : World), l = X ++ (U ++ (Y ++ (V ++ Z))) → Srt g w0 l W → l.length = N → U.length = n → V.length = n → X.length = c → X.length + U.length + Y.length = d →
      Calls Try.prog 52 #[.slice (some ⟨g, 0, none⟩) N cap, .int .i64 c, .int .i64 d, .int .i64 n, F] W fun e w' => e = .returned (.tuple #[]) ∧ Srt g w0 (X ++ (V ++ (Y ++ (U ++ Z)))) w') :=
    fun c d n X U Y V Z l W q1 q2 q3 q4 q5 q6 q7 => swapRange_go g N cap c d n F X U Y V Z l w0 W q1 q2 q3 q4 q5 q6 q7 hx
  have HI : Hid (∃ A U' V' B : List Int, Srt g w0 ((P ++ A) ++ (U' ++ (V' ++ (B ++ S)))) w ∧ U'.length = m - a ∧ V'.length = b - m ∧ (P ++ A).length + (m - a) = m ∧ A ++ (V' ++ (U' ++ B)) = V ++ U) :=
    ⟨[], U, V, [], by rw [List.append_nil, List.nil_append, ← hl]; exact hS, by omega, by omega, by rw [List.append_nil]; omega, by simp⟩
  have HL : Hid (∀ A U' V' B : List Int, A ++ (V' ++ (U' ++ B)) = V ++ U → ((P ++ A) ++ (U' ++ (V' ++ (B ++ S)))).length = N) := fun A U' V' B h => by
    have h1 := congrArg List.length h
    rw [← hN, hl]
    simp only [List.length_append] at h1 ⊢
    omega
  have HE : Hid (∀ A U' V' B : List Int, A ++ (V' ++ (U' ++ B)) = V ++ U → (P ++ A) ++ (V' ++ ([] ++ (U' ++ (B ++ S)))) = P ++ (V ++ (U ++ S))) := fun A U' V' B h => by
    have h1 : (P ++ A) ++ (V' ++ ([] ++ (U' ++ (B ++ S)))) = P ++ ((A ++ (V' ++ (U' ++ B))) ++ S) := by simp only [List.append_assoc, List.nil_append]
    rw [h1, h]; simp only [List.append_assoc]
  have e1 : (m : Int) - (a : Int) = ((m - a : Nat) : Int) := by omega
  have e2 : (b : Int) - (m : Int) = ((b - m : Nat) : Int) := by omega
  have l1 : a < m := by omega
  have l2 : m < b := by omega
  have l3 : b ≤ N := by rw [← hN, hl]; simp only [List.length_append]; omega
  have v1 : IntKind.i64.wrap ((m : Int) - (a : Int)) = ((m - a : Nat) : Int) := by rw [IntWalk.i64_in _ (by omega)]; exact e1
  have v2 : IntKind.i64.wrap ((b : Int) - (m : Int)) = ((b - m : Nat) : Int) := by rw [IntWalk.i64_in _ (by omega)]; exact e2
  have i1 : 1 ≤ m - a := by omega
  have j1 : 1 ≤ b - m := by omega
  have ij : m - a ≤ m := by omega
  have jj : (b - m) + m ≤ N := by omega
  obtain ⟨i0, hi0⟩ : ∃ i0, i0 = m - a := ⟨_, rfl⟩
  obtain ⟨j0, hj0⟩ : ∃ i0, i0 = b - m := ⟨_, rfl⟩
  rw [← hi0] at v1 i1 ij HI
  rw [← hj0] at v2 j1 jj HI
  clear hS hl hN ha hm hb hu hv e1 e2 hi0 hj0 l1 l2 l3
  go_enter Try.func51, Try.ntmps51
  go_wp2
  go_loopw [10, 11] (fun vi vj wr => ∃ i j : Nat, vi = .int .i64 i ∧ vj = .int .i64 j ∧ 1 ≤ i ∧ 1 ≤ j ∧ i ≤ m ∧ j + m ≤ N ∧ Hid (∃ A U' V' B : List Int, Srt g w0 ((P ++ A) ++ (U' ++ (V' ++ (B ++ S)))) wr ∧ U'.length = i ∧ V'.length = j ∧ (P ++ A).length + i = m ∧ A ++ (V' ++ (U' ++ B)) = V ++ U)) (fun vi vj _ => (intOf vi).toNat + (intOf vj).toNat)
  case atStart => exact ⟨i0, j0, rfl, rfl, i1, j1, ij, jj, HI⟩
  case round =>
    clear HI v1 v2 i1 j1 ij jj
    obtain ⟨i, j, rfl, rfl, hi, hj, him, hjN, HI⟩ := hrel
    obtain ⟨A, U', V', B, q1, q2, q3, q4, q5⟩ := HI.out
    have hlen := HL.out A U' V' B q5
    by_cases hij : i = j
    · have HC := Lib.hid (HS.out (m - i) m i (P ++ A) U' [] V' (B ++ S) _ wr (by rw [List.nil_append]) q1 hlen q2 (by omega) (by omega) (by rw [List.length_nil]; omega))
      rw [HE.out A U' V' B q5] at HC
      have g1 : (i : Int) = (j : Int) := by omega
      have v3 : (m : Int) - (i : Int) = ((m - i : Nat) : Int) := by omega
      have v4 : IntKind.i64.wrap ((m : Int) - (i : Int)) = ((m - i : Nat) : Int) := by rw [IntWalk.i64_in _ (by omega)]; exact v3
      clear HI HS HL HE q1 q2 q3 q4 q5 hlen v3
      subst hij
      go_wp2_with (go_at_call 52; with_reducible (refine Calls.mono HC.out ?_); rintro e w1 ⟨rfl, hs⟩)
      go_end0
      exact ⟨rfl, hs⟩
    · by_cases hgt : j < i
      · have t1 : (U'.take j).length = j := by rw [List.length_take]; omega
        have t2 : (U'.drop j).length = i - j := by rw [List.length_drop]; omega
        have HC := Lib.hid (HS.out (m - i) m j (P ++ A) (U'.take j) (U'.drop j) V' (B ++ S) _ wr (by rw [← List.append_assoc (U'.take j), List.take_append_drop]) q1 hlen t1 q3 (by omega) (by omega))
        have HR : Hid (∀ W, Srt g w0 ((P ++ A) ++ (V' ++ (U'.drop j ++ (U'.take j ++ (B ++ S))))) W → ∃ A U2 V2 B : List Int, Srt g w0 ((P ++ A) ++ (U2 ++ (V2 ++ (B ++ S)))) W ∧ U2.length = i - j ∧ V2.length = j ∧ (P ++ A).length + (i - j) = m ∧ A ++ (V2 ++ (U2 ++ B)) = V ++ U) := fun W h =>
          ⟨A ++ V', U'.drop j, U'.take j, B, by rw [show (P ++ (A ++ V')) ++ (U'.drop j ++ (U'.take j ++ (B ++ S))) = (P ++ A) ++ (V' ++ (U'.drop j ++ (U'.take j ++ (B ++ S)))) by simp only [List.append_assoc]]; exact h, t2, t1, by rw [← List.append_assoc, List.length_append]; omega, by rw [← q5, ← List.append_assoc (U'.take j), List.take_append_drop, List.append_assoc]⟩
        have g1 : ¬ (i : Int) = (j : Int) := by omega
        have g2 : (j : Int) < (i : Int) := by omega
        have v3 : (m : Int) - (i : Int) = ((m - i : Nat) : Int) := by omega
        have v4 : IntKind.i64.wrap ((m : Int) - (i : Int)) = ((m - i : Nat) : Int) := by rw [IntWalk.i64_in _ (by omega)]; exact v3
        have v5 : (i : Int) - (j : Int) = ((i - j : Nat) : Int) := by omega
        have v6 : IntKind.i64.wrap ((i : Int) - (j : Int)) = ((i - j : Nat) : Int) := by rw [IntWalk.i64_in _ (by omega)]; exact v5
        have x1 : 1 ≤ i - j := by omega
        have x2 : i - j ≤ m := by omega
        have x3 : i - j + j < i + j := by omega
        obtain ⟨k, hk⟩ : ∃ k, k = i - j := ⟨_, rfl⟩
        rw [← hk] at v6 HR x1 x2 x3
        clear HI HS HL HE q1 q2 q3 q4 q5 hlen v3 v5 hk t1 t2
        go_wp2_with (go_at_call 52; with_reducible (refine Calls.mono HC.out ?_); rintro e w1 ⟨rfl, hs⟩; replace hs := Lib.hid (HR.out _ hs))
        go_roundw
        case rel => first | exact ⟨k, j, rfl, rfl, x1, hj, x2, hjN, hs⟩ | ((repeat apply Exists.intro); exact ⟨⟨k, j, rfl, rfl, x1, hj, x2, hjN, hs⟩, rfl⟩)
        case measure => simp [intOf]; omega
      · have t1 : (V'.take (j - i)).length = j - i := by rw [List.length_take]; omega
        have t2 : (V'.drop (j - i)).length = i := by rw [List.length_drop]; omega
        have HC := Lib.hid (HS.out (m - i) (m + j - i) i (P ++ A) U' (V'.take (j - i)) (V'.drop (j - i)) (B ++ S) _ wr (by rw [← List.append_assoc (V'.take (j - i)), List.take_append_drop]) q1 hlen q2 t2 (by omega) (by rw [t1]; omega))
        have HR : Hid (∀ W, Srt g w0 ((P ++ A) ++ (V'.drop (j - i) ++ (V'.take (j - i) ++ (U' ++ (B ++ S))))) W → ∃ A U2 V2 B : List Int, Srt g w0 ((P ++ A) ++ (U2 ++ (V2 ++ (B ++ S)))) W ∧ U2.length = i ∧ V2.length = j - i ∧ (P ++ A).length + i = m ∧ A ++ (V2 ++ (U2 ++ B)) = V ++ U) := fun W h =>
          ⟨A, V'.drop (j - i), V'.take (j - i), U' ++ B, by rw [List.append_assoc U' B S]; exact h, t2, t1, q4, by rw [← q5, ← List.append_assoc (V'.take (j - i)), List.take_append_drop]⟩
        have g1 : ¬ (i : Int) = (j : Int) := by omega
        have g2 : ¬ (j : Int) < (i : Int) := by omega
        have v3 : (m : Int) - (i : Int) = ((m - i : Nat) : Int) := by omega
        have v4 : IntKind.i64.wrap ((m : Int) - (i : Int)) = ((m - i : Nat) : Int) := by rw [IntWalk.i64_in _ (by omega)]; exact v3
        have v5 : (j : Int) - (i : Int) = ((j - i : Nat) : Int) := by omega
        have v6 : IntKind.i64.wrap ((j : Int) - (i : Int)) = ((j - i : Nat) : Int) := by rw [IntWalk.i64_in _ (by omega)]; exact v5
        have v7 : IntKind.i64.wrap ((m : Int) + (j : Int)) = ((m + j : Nat) : Int) := by rw [IntWalk.i64_in _ (by omega)]; omega
        have v8 : IntKind.i64.wrap ((m : Int) + (j : Int) - (i : Int)) = ((m + j - i : Nat) : Int) := by rw [IntWalk.i64_in _ (by omega)]; omega
        have x1 : 1 ≤ j - i := by omega
        have x2 : j - i + m ≤ N := by omega
        have x3 : i + (j - i) < i + j := by omega
        obtain ⟨k, hk⟩ : ∃ k, k = j - i := ⟨_, rfl⟩
        rw [← hk] at v6 HR HC x1 x2 x3
        clear HI HS HL HE q1 q2 q3 q4 q5 hlen v3 v5 hk t1 t2
        go_wp2_with (go_at_call 52; with_reducible (refine Calls.mono HC.out ?_); rintro e w1 ⟨rfl, hs⟩; replace hs := Lib.hid (HR.out _ hs))
        go_roundw
        case rel => first | exact ⟨i, k, rfl, rfl, hi, x1, him, x2, hs⟩ | ((repeat apply Exists.intro); exact ⟨⟨i, k, rfl, rfl, hi, x1, him, x2, hs⟩, rfl⟩)
        case measure => simp [intOf]; omega

end Go.Proofs.Ytcbimgdgodeppaa
