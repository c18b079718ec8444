/-
  SolveAlone: one curve alone gets all.
-/
import Derived.Test.YtnpdffcplgjbnaaSolveGreedyL
namespace Go.Proofs.Ytnpdffcplgjbnaa
open Go.RowKit

theorem alone_asked {V : World} {p : Cur} (hp : p.ok V V.heap.size) {x k : Int} (hx : 0 ≤ x ∧ x ≤ 255) (hk : 0 ≤ k ∧ k ≤ 512) (t1 t2 : TypeId) :
    Asked ((V.alloc (.cells #[.int .i64 x] t1)).alloc (.cells #[.slice p.A p.l.length p.c] t2)) k (some ⟨V.heap.size, 0, none⟩) (some ⟨V.heap.size + 1, 0, none⟩) 1 1 [x] [p] := by
  have e : ((V.alloc (.cells #[.int .i64 x] t1)).alloc (.cells #[.slice p.A p.l.length p.c] t2)).heap.size = V.heap.size + 2 := by simp
  have hb : Below V.heap.size V ((V.alloc (.cells #[.int .i64 x] t1)).alloc (.cells #[.slice p.A p.l.length p.c] t2)) := ((Below.refl _ V).alloc (Nat.le_refl _) _).alloc (by simp) _
  refine ⟨?_, ?_, fun z hz => by simp at hz; omega, by omega, by simp, by simp, by simp, by simp⟩
  · exact ((Ints.new V t1 .i64 [x] #[.int .i64 x] rfl).alloc (by simp) _).more (by simp)
  · intro i hi
    have hi2 : i < 1 := hi
    match i, hi2 with
    | 0, _ => exact ⟨V.heap.size + 1, 0, rfl, by omega, by rw [World.cell?_alloc_at _ _ _ _ (by simp)]; rfl, (hp.below hb).more hb.size⟩
theorem give_alone (c : List Int) (x : Int) : ∀ j : Nat, giveL [c] [x] j = [x + (j : Int)]
  | 0 => by simp [giveL]
  | j + 1 => by
    show oneMore [c] (giveL [c] [x] j) = _
    rw [give_alone c x j]
    have : bestAt [c] [x + (j : Int)] ([c].length - 1) = 0 := rfl
    unfold oneMore
    rw [this]
    show [x + (j : Int) + 1] = [x + ((j + 1 : Nat) : Int)]
    congr 1
    omega
theorem solveE_alone {k x : Int} (c : List Int) (hk : 0 ≤ k ∧ k ≤ 512) (hx : 0 ≤ x) : solveE k [x] [c] = if k < x then 1 else if soundL c then 0 else 2 := by
  unfold solveE
  rw [if_neg (by simp; omega)]
  by_cases h : k < x
  · rw [if_pos (by simp; omega), if_pos h]
  · rw [if_neg (by simp; omega), if_neg h]
    by_cases hs : soundL c = true
    · rw [if_neg (by simp [hs]), if_neg (by simp; omega), if_pos hs]
    · rw [if_pos (by simp at hs ⊢; exact hs), if_neg hs]

set_option maxHeartbeats 1600000 in
set_option maxRecDepth 20000 in
/-- SolveAlone. -/
theorem solveAlone_go (t x : Nat) (p : Cur) (w : World) (HS : SolveSpec w) (hp : p.ok w w.heap.size) (ht : t < 65536) (hx : x < 256) :
    Calls Try.prog 7 #[.int .u16 (t : Int), .int .u8 (x : Int), .slice p.A p.l.length p.c] w fun e w' => e = .returned (.bool true) ∧ Below w.heap.size w w' := by
  have HA := Lib.hid (fun (W : World) (hb : Below w.heap.size w W) => solveAwake HS W hb)
  obtain ⟨k, hk⟩ : ∃ k : Int, k = (t : Int) % 513 := ⟨_, rfl⟩
  have k0 : 0 ≤ k := by omega
  have k1 : k ≤ 512 := by omega
  have HGW : Hid (∀ W, Below w.heap.size w W → Calls Try.prog 9 #[.int .i64 k, .slice (some ⟨W.heap.size, 0, none⟩) 1 1, .slice (some ⟨W.heap.size + 1, 0, none⟩) 1 1] ((W.alloc (.cells #[.int .i64 (x : Int)] 3)).alloc (.cells #[.slice p.A p.l.length p.c] 40))
      fun e w' => ∃ A c, e = .returned (.tuple #[.slice A (greedyR k [(x : Int)] [p.l]).2.length c, .int .i64 (greedyR k [(x : Int)] [p.l]).1]) ∧ Ints w' w'.heap.size .i64 A (greedyR k [(x : Int)] [p.l]).2 ∧ Below W.heap.size W w') := fun W hb => by
    have hbB : Below W.heap.size W ((W.alloc (.cells #[.int .i64 (x : Int)] 3)).alloc (.cells #[.slice p.A p.l.length p.c] 40)) := ((Below.refl _ W).alloc (Nat.le_refl _) _).alloc (by simp) _
    exact (HS.greedy k _ _ 1 1 [(x : Int)] [p] _ (chain hb hbB) (alone_asked ((hp.below hb).more hb.size) (by omega) ⟨k0, k1⟩ _ _)).mono fun e w' ⟨A, c, q1, _, q3, q4⟩ => ⟨A, c, q1, q3, chain hbB q4⟩
  have HBW : Hid (∀ W, Below w.heap.size w W → Calls Try.prog 14 #[.int .i64 k, .slice (some ⟨W.heap.size, 0, none⟩) 1 1, .slice (some ⟨W.heap.size + 1, 0, none⟩) 1 1] ((W.alloc (.cells #[.int .i64 (x : Int)] 3)).alloc (.cells #[.slice p.A p.l.length p.c] 40))
      fun e w' => ∃ A c, e = .returned (.tuple #[.slice A (bestQ k [(x : Int)] [p.l]).2.1.length c, .int .i64 (bestQ k [(x : Int)] [p.l]).2.2, .int .i64 (bestQ k [(x : Int)] [p.l]).1]) ∧ Ints w' w'.heap.size .i64 A (bestQ k [(x : Int)] [p.l]).2.1 ∧ Below W.heap.size W w') := fun W hb => by
    have hbB : Below W.heap.size W ((W.alloc (.cells #[.int .i64 (x : Int)] 3)).alloc (.cells #[.slice p.A p.l.length p.c] 40)) := ((Below.refl _ W).alloc (Nat.le_refl _) _).alloc (by simp) _
    exact (HS.best k _ _ 1 1 [(x : Int)] [p] _ (chain hb hbB) (alone_asked ((hp.below hb).more hb.size) (by omega) ⟨k0, k1⟩ _ _)).mono fun e w' ⟨A, c, q1, _, q3, q4⟩ => ⟨A, c, q1, q3, chain hbB q4⟩
  have HAT : Hid (∀ W, Below w.heap.size w W → Calls Try.prog 19 #[.slice p.A p.l.length p.c, .int .i64 k] W fun e w' => e = .returned (.int .i64 (atN p.l k)) ∧ W = w') := fun W hb => refAt_any p.A p.c p.l k W ((hp.ints.below hb).more hb.size) (by have := hp.le; have := hp.cap; omega)
  have HSI := Lib.hid (fun (W : World) (A0 A1 : Option Addr) (c0 c1 : Nat) (h0 : Ints W W.heap.size .i64 A0 [k]) (h1 : Ints W W.heap.size .i64 A1 [k]) => sameInts_any A0 A1 c0 c1 [k] W h0 h1 (by show 1 ≤ 140737488355328; decide))
  have hE := solveE_alone (k := k) (x := (x : Int)) p.l ⟨k0, k1⟩ (by omega)
  have x1 : (x : Int) ≤ 255 := by omega
  have hw0 := Below.refl w.heap.size w
  have t1 : (t : Int) < 65536 := by omega
  have e1 : IntKind.u16.wrap ((t : Int) % 513) = (t : Int) % 513 := by show ((t : Int) % 513) % 65536 = _; omega
  have e2 : ((t : Int)).tmod 513 = k := by rw [Int.tmod_eq_emod_of_nonneg (by omega)]; exact hk.symm
  by_cases hlt : k < (x : Int)
  · rw [if_pos hlt] at hE
    have dA : decide ((x : Int) ≤ k) = false := decide_eq_false (by omega)
    have dB : decide (k < (x : Int)) = true := decide_eq_true hlt
    have hg : greedyR k [(x : Int)] [p.l] = (1, []) := by unfold greedyR; rw [hE, if_neg (by decide)]
    have hb : bestQ k [(x : Int)] [p.l] = (1, [], 0) := by unfold bestQ; rw [hE, if_neg (by decide)]
    simp only [hg] at HGW
    simp only [hb] at HBW
    clear hE hg hb HS hp HSI HAT e2
    subst hk
    go_enter Try.func7, Try.ntmps7
    go_wp2_with (first
      | (go_at_call 9; with_reducible (refine Calls.mono (HGW.out _ hw0) ?_); rintro e w1 ⟨A2, c2, rfl, hi2, hb1⟩)
      | (go_at_call 14; with_reducible (refine Calls.mono (HBW.out _ hb1) ?_); rintro e w2 ⟨A3, c3, rfl, hi3, hb2⟩; have hx2 := chain hb1 hb2)
      | (go_at_call 11; with_reducible (refine Calls.mono (HA.out _ hx2) ?_); rintro e w3 ⟨rfl, hb3⟩; have hx3 := chain hx2 hb3))
    go_ret
    exact ⟨rfl, hx3⟩
  · rw [if_neg hlt] at hE
    have dA : decide ((x : Int) ≤ k) = true := decide_eq_true (by omega)
    have dB : decide (k < (x : Int)) = false := decide_eq_false hlt
    by_cases hs : soundL p.l = true
    · rw [if_pos hs] at hE
      have hg : greedyR k [(x : Int)] [p.l] = (0, [k]) := by
        unfold greedyR
        rw [if_pos hE, give_alone]
        congr 2
        simp
        omega
      have hb : bestQ k [(x : Int)] [p.l] = (0, [k], atN p.l k) := by unfold bestQ; rw [if_pos hE]; rfl
      simp only [hg] at HGW
      simp only [hb] at HBW
      have HNK : Hid (∀ W : World, Ints (W.alloc (.cells #[.int .i64 k] 3)) (W.alloc (.cells #[.int .i64 k] 3)).heap.size .i64 (some ⟨W.heap.size, 0, none⟩) [k]) := fun W => (Ints.new W 3 .i64 [k] #[.int .i64 k] rfl).more (by simp)
      obtain ⟨v, hv⟩ : ∃ v, v = atN p.l k := ⟨_, rfl⟩
      rw [← hv] at HBW HAT
      clear hE hg hb HS hp e2 hs hv
      subst hk
      go_enter Try.func7, Try.ntmps7
      go_wp2_with (first
        | (go_at_call 9; with_reducible (refine Calls.mono (HGW.out _ hw0) ?_); rintro e w1 ⟨A2, c2, rfl, hi2, hb1⟩)
        | (go_at_call 14; with_reducible (refine Calls.mono (HBW.out _ hb1) ?_); rintro e w2 ⟨A3, c3, rfl, hi3, hb2⟩; have hx2 := chain hb1 hb2; have hi2b := (hi2.below hb2).more hb2.size)
        | (go_at_call 11; with_reducible (refine Calls.mono (HA.out _ hx2) ?_); rintro e w3 ⟨rfl, hb3⟩; have hx3 := chain hx2 hb3; have hi2c := (hi2b.below hb3).more hb3.size; have hi3c := (hi3.below hb3).more hb3.size; have hi2d := (hi2c.alloc (Nat.le_refl _) (.cells #[.int .i64 ((t : Int) % 513)] 3)).more (show w3.heap.size ≤ (w3.alloc (.cells #[.int .i64 ((t : Int) % 513)] 3)).heap.size by simp); have hi3d := (hi3c.alloc (Nat.le_refl _) (.cells #[.int .i64 ((t : Int) % 513)] 3)).more (show w3.heap.size ≤ (w3.alloc (.cells #[.int .i64 ((t : Int) % 513)] 3)).heap.size by simp); have hx4 := hx3.alloc hx3.size (.cells #[.int .i64 ((t : Int) % 513)] 3))
        | (go_at_call 12; with_reducible (refine Calls.mono (HSI.out _ _ _ _ _ hi2d (HNK.out _)) ?_); rintro e w4 ⟨rfl, m4, hw4⟩; have hi3e := hi3d.drewS m4; have hx5 := below_drewN hx4 m4; rw [← hw4] at hi3e hx5; have hi3f := (hi3e.alloc (Nat.le_refl _) (.cells #[.int .i64 ((t : Int) % 513)] 3)).more (show w4.heap.size ≤ (w4.alloc (.cells #[.int .i64 ((t : Int) % 513)] 3)).heap.size by simp); have hx6 := hx5.alloc hx5.size (.cells #[.int .i64 ((t : Int) % 513)] 3); clear hw4 hi2d)
        | (go_at_call 12; with_reducible (refine Calls.mono (HSI.out _ _ _ _ _ hi3f (HNK.out _)) ?_); rintro e w5 ⟨rfl, m5, hw5⟩; have hx7 := below_drewN hx6 m5; rw [← hw5] at hx7; clear hw5)
        | (go_at_call 19; with_reducible (refine Calls.mono (HAT.out _ hx7) ?_); rintro e w6 ⟨rfl, rfl⟩))
      go_ret
      exact ⟨rfl, hx7⟩
    · rw [if_neg hs] at hE
      have hg : greedyR k [(x : Int)] [p.l] = (2, []) := by unfold greedyR; rw [hE, if_neg (by decide)]
      have hb : bestQ k [(x : Int)] [p.l] = (2, [], 0) := by unfold bestQ; rw [hE, if_neg (by decide)]
      simp only [hg] at HGW
      simp only [hb] at HBW
      clear hE hg hb HS hp HSI HAT e2 hs
      subst hk
      go_enter Try.func7, Try.ntmps7
      go_wp2_with (first
        | (go_at_call 9; with_reducible (refine Calls.mono (HGW.out _ hw0) ?_); rintro e w1 ⟨A2, c2, rfl, hi2, hb1⟩)
        | (go_at_call 14; with_reducible (refine Calls.mono (HBW.out _ hb1) ?_); rintro e w2 ⟨A3, c3, rfl, hi3, hb2⟩; have hx2 := chain hb1 hb2)
        | (go_at_call 11; with_reducible (refine Calls.mono (HA.out _ hx2) ?_); rintro e w3 ⟨rfl, hb3⟩; have hx3 := chain hx2 hb3))
      go_ret
      exact ⟨rfl, hx3⟩

end Go.Proofs.Ytnpdffcplgjbnaa
