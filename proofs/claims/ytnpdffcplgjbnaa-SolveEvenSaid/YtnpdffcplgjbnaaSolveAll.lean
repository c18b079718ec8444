/-
  SolveAll: what is shared is the total, nobody has less than the least, no shares that are tried bring more than the best. Written by wip/gen/solve_all.py.
-/
import Derived.Test.YtnpdffcplgjbnaaSolveAllN
import Derived.Test.YtnpdffcplgjbnaaSolveBestL
namespace Go.Proofs.Ytnpdffcplgjbnaa
open Go.RowKit

theorem own_roomS {w : World} {base t n c : Nat} {A : Option Addr} {xs : List Value} (h : w.ownsRow base t 1 (.slice A n c) n xs) : n ≤ c := by
  rcases h.2 with ⟨h, _⟩ | ⟨_, _, _, h, _, _, h2, _⟩
  · injection h with _ h2 h3; omega
  · injection h with _ _ h3; omega

set_option maxHeartbeats 3200000 in
set_option maxRecDepth 20000 in
/-- SolveAll. -/
theorem solveAll_go (t : Nat) (A0 A1 A2 : Option Addr) (c0 c1 c2 : Nat) (least tries : List Int) (ps : List Cur) (w : World) (HS : SolveSpec w) (ht : t < 256) (h0 : Ints w w.heap.size .u8 A0 least) (h1 : Curs w w.heap.size A1 ps) (h2 : Ints w w.heap.size .u8 A2 tries)
    (b0 : ∀ z ∈ least, 0 ≤ z ∧ z ≤ 255) (b2 : ∀ z ∈ tries, 0 ≤ z ∧ z ≤ 255) (hc1 : ps.length ≤ c1) (n1 : ps.length ≤ 5864062014805) (n2 : tries.length ≤ 140737488355328) :
    Calls Try.prog 5 #[.int .u8 (t : Int), .slice A0 least.length c0, .slice A1 ps.length c1, .slice A2 tries.length c2] w fun e w' => e = .returned (.bool true) ∧ Below w.heap.size w w' := by
  obtain ⟨i0, hif, hz0, hz1, hz2⟩ := info_parts Try.infoI64v
  have HA := Lib.hid (fun (W : World) (hb : Below w.heap.size w W) => solveAwake HS W hb)
  obtain ⟨K, hK⟩ : ∃ K : Int, K = (t : Int) % 120 := ⟨_, rfl⟩
  have K0 : 0 ≤ K := by omega
  have K1 : K ≤ 119 := by omega
  have e1 : IntKind.u8.wrap ((t : Int) % 120) = K := by show ((t : Int) % 120) % 256 = _; omega
  have e2 : ((t : Int)).tmod 120 = K := by rw [Int.tmod_eq_emod_of_nonneg (by omega)]; exact hK.symm
  obtain ⟨N, hN⟩ : ∃ N, N = ps.length := ⟨_, rfl⟩
  obtain ⟨ln, hln⟩ : ∃ N, N = least.length := ⟨_, rfl⟩
  obtain ⟨lt, hlt⟩ : ∃ N, N = tries.length := ⟨_, rfl⟩
  have HI0 := Lib.hid h0
  have HI2 := Lib.hid h2
  have HC1 := Lib.hid h1
  have HLF : Hid (∀ k, k < ln → lowF least k = least.getD k 0 % 8 ∧ 0 ≤ least.getD k 0 ∧ least.getD k 0 ≤ 255) := fun k hk => ⟨if_pos (by omega), b0 _ (by rw [List.getD_eq_getElem?_getD, List.getElem?_eq_getElem (by omega : k < least.length)]; exact List.getElem_mem _)⟩
  have HLG : Hid (∀ k, ¬ k < ln → lowF least k = 0) := fun k hk => if_neg (by omega)
  have HTF : Hid (∀ k, k < lt → 0 ≤ tries.getD k 0 ∧ tries.getD k 0 ≤ 255) := fun k hk => b2 _ (by rw [List.getD_eq_getElem?_getD, List.getElem?_eq_getElem (by omega : k < tries.length)]; exact List.getElem_mem _)
  have HSC := Lib.hid (lowL_succ least)
  have HL0 : Hid (lowL least 0 = []) := rfl
  have HNN := Lib.hid hN
  have HNl := Lib.hid hln
  have HNt := Lib.hid hlt
  have HK := Lib.hid hK
  have HCC := Lib.hid hc1
  rw [← hN] at n1 ⊢
  rw [← hln]
  rw [← hlt] at n2 ⊢
  have HB1 := Lib.hid n1
  clear h0 h1 h2 b0 b2 hN hln hlt hK hc1 ht
  go_enter Try.func5, Try.ntmps5
  go_wp2
  go_loopw [10, 11] (fun v i wr => ∃ k : Nat, k ≤ N ∧ i = .int .i64 k ∧ (∃ A c, v = .slice A k c) ∧ Hid (wr.ownsRow w.heap.size 3 1 v k ((lowL least k).map (Value.int .i64)) ∧ Below w.heap.size w wr)) (fun _ i _ => N - (intOf i).toNat)
  case atStart =>
    refine ⟨0, Nat.zero_le _, rfl, ⟨_, _, rfl⟩, ?_⟩
    rw [HL0.out]
    exact ⟨World.ownsRow_made w #[] 0 (Nat.le_refl _) (Nat.zero_le _) rfl, (Below.refl _ _).alloc (Nat.le_refl _) _⟩
  case round =>
    obtain ⟨k, hk, rfl, ⟨A3, c3, rfl⟩, hR⟩ := hrel
    by_cases hkN : k < N
    · obtain ⟨hown, hbel⟩ := hR.out
      have k1 : (k : Int) < (N : Int) := by omega
      have k0 : (0 : Int) ≤ (k : Int) := by omega
      by_cases hkl : k < ln
      · obtain ⟨b1, off, rfl, hbl, hc9⟩ := (HI0.out.below hbel) k (by have := HNl.out; omega)
        obtain ⟨hlf, x0, x1⟩ := HLF.out k hkl
        have k2 : (k : Int) < (ln : Int) := by omega
        obtain ⟨x, hx⟩ : ∃ x, x = least.getD k 0 := ⟨_, rfl⟩
        rw [← hx] at hlf x0 x1 hc9
        obtain ⟨P, hP⟩ : ∃ P, P = x % 8 := ⟨_, rfl⟩
        have m1 : x.tmod 8 = P := by rw [Int.tmod_eq_emod_of_nonneg x0]; exact hP.symm
        have m2 : IntKind.u8.wrap (x % 8) = P := by show (x % 8) % 256 = _; omega
        have m3 : x % 8 = P := hP.symm
        have p0 : 0 ≤ P := by omega
        have p1 : P ≤ 7 := by omega
        have HTSS := Lib.hid (show (lowL least (k + 1)).map (Value.int .i64) = (lowL least k).map (Value.int .i64) ++ [Value.int .i64 P] by rw [HSC.out, List.map_append, hlf, ← hP]; rfl)
        clear hx hP hlf hR
        go_wp2_with (at_builtin; refine wpList_append_own_at _ rfl _ _ 22 rfl w.heap.size 3 i0 (.int .i64 0) 1 8 Try.underlying22 hif hz0 hz1 hz2 rfl (by decide) _ _ _ rfl (hown.alloc _) ⟨wr.heap.size, 0, none⟩ 1 1 [.int .i64 P] rfl rfl (cell_one_new _ _ _) ?d1a ?d2a ?d3a ?d4a ?_)
        case d1a => first | rfl | (intro u hu; simp at hu; subst hu; rfl)
        case d2a => unfold maxLen; omega
        case d3a => omega
        case d4a => have := hbel.size; simp; omega
        intro v3 w3 hown3 hg3 _ _
        have R : Hid (w3.ownsRow w.heap.size 3 1 v3 (k + 1) ((lowL least (k + 1)).map (Value.int .i64)) ∧ Below w.heap.size w w3) := by
          refine ⟨?_, (hbel.alloc hbel.size _).grown hg3 (by have := hbel.size; simp; omega) fun q hq => (hown.lt q hq).1⟩
          rw [HTSS.out]; exact hown3
        obtain ⟨A4, c4, rfl⟩ := own_slice R.out.1
        clear hown hbel hown3 hg3
        go_wp2
        go_roundw
        case rel => first | exact ⟨k + 1, by omega, by go_num, ⟨A4, c4, rfl⟩, R.out⟩ | ((repeat apply Exists.intro); exact ⟨⟨k + 1, by omega, by go_num, ⟨A4, c4, rfl⟩, R.out⟩, rfl⟩)
        case measure => simp [intOf]; omega
      · have hlf := HLG.out k hkl
        have k2 : ¬ (k : Int) < (ln : Int) := by omega
        obtain ⟨P, hP⟩ : ∃ P : Int, P = 0 := ⟨_, rfl⟩
        have HP0 := Lib.hid hP
        have HTSS := Lib.hid (show (lowL least (k + 1)).map (Value.int .i64) = (lowL least k).map (Value.int .i64) ++ [Value.int .i64 P] by rw [HSC.out, List.map_append, hlf, ← hP]; rfl)
        clear hP hlf hR
        rw [HP0.out] at HTSS
        go_wp2_with (at_builtin; refine wpList_append_own_at _ rfl _ _ 22 rfl w.heap.size 3 i0 (.int .i64 0) 1 8 Try.underlying22 hif hz0 hz1 hz2 rfl (by decide) _ _ _ rfl (hown.alloc _) ⟨wr.heap.size, 0, none⟩ 1 1 [.int .i64 0] rfl rfl (cell_one_new _ _ _) ?d1b ?d2b ?d3b ?d4b ?_)
        case d1b => first | rfl | (intro u hu; simp at hu; subst hu; rfl)
        case d2b => unfold maxLen; omega
        case d3b => omega
        case d4b => have := hbel.size; simp; omega
        intro v3 w3 hown3 hg3 _ _
        have R : Hid (w3.ownsRow w.heap.size 3 1 v3 (k + 1) ((lowL least (k + 1)).map (Value.int .i64)) ∧ Below w.heap.size w w3) := by
          refine ⟨?_, (hbel.alloc hbel.size _).grown hg3 (by have := hbel.size; simp; omega) fun q hq => (hown.lt q hq).1⟩
          rw [HTSS.out]; exact hown3
        obtain ⟨A4, c4, rfl⟩ := own_slice R.out.1
        clear hown hbel hown3 hg3
        go_wp2
        go_roundw
        case rel => first | exact ⟨k + 1, by omega, by go_num, ⟨A4, c4, rfl⟩, R.out⟩ | ((repeat apply Exists.intro); exact ⟨⟨k + 1, by omega, by go_num, ⟨A4, c4, rfl⟩, R.out⟩, rfl⟩)
        case measure => simp [intOf]; omega
    · have hkn : N = k := by omega
      subst hkn
      clear HLF HLG HSC HL0
      obtain ⟨wo, hwo⟩ : ∃ x, x = wr := ⟨_, rfl⟩
      subst hwo
      obtain ⟨hown, hbel⟩ := hR.out
      have hlen := lowL_len least N
      have hval := lowL_val least N
      obtain ⟨L, hL⟩ : ∃ L, L = lowL least N := ⟨_, rfl⟩
      rw [← hL] at hown hlen hval
      have hi : Ints wo wo.heap.size .i64 A3 L := Ints.of_own (n := N) (c := c3) (by rw [hlen]; exact hown)
      have hNc : N ≤ c3 := own_roomS hown
      obtain ⟨cs, hcs⟩ : ∃ cs, cs = ps.map Cur.l := ⟨_, rfl⟩
      have hAsk : Hid (∀ W : World, Below wo.heap.size wo W → Asked W K A3 A1 c3 c1 L ps) := fun W hb =>
        ⟨(hi.below hb).more hb.size, (HC1.out.below (chain hbel hb)).more (chain hbel hb).size, fun z hz => by have := hval z hz; omega, by omega, by rw [hlen]; exact hNc, HCC.out, by rw [hlen]; omega, by have := HNN.out; omega⟩
      have HG : Hid (∀ W : World, Below wo.heap.size wo W → Calls Try.prog 9 #[.int .i64 K, .slice A3 N c3, .slice A1 N c1] W fun e w' => ∃ A c, e = .returned (.tuple #[.slice A (greedyR K L cs).2.length c, .int .i64 (greedyR K L cs).1]) ∧ Ints w' w'.heap.size .i64 A (greedyR K L cs).2 ∧ Below W.heap.size W w') := fun W hb => by
        have h := HS.greedy K A3 A1 c3 c1 L ps W (chain hbel hb) (hAsk.out W hb)
        rw [hlen, ← HNN.out, ← hcs] at h
        exact h.mono fun e w' ⟨A, c, q1, _, q3, q4⟩ => ⟨A, c, q1, q3, q4⟩
      have HBe : Hid (∀ W : World, Below wo.heap.size wo W → Calls Try.prog 14 #[.int .i64 K, .slice A3 N c3, .slice A1 N c1] W fun e w' => ∃ A c, e = .returned (.tuple #[.slice A (bestQ K L cs).2.1.length c, .int .i64 (bestQ K L cs).2.2, .int .i64 (bestQ K L cs).1]) ∧ Ints w' w'.heap.size .i64 A (bestQ K L cs).2.1 ∧ Below W.heap.size W w') := fun W hb => by
        have h := HS.best K A3 A1 c3 c1 L ps W (chain hbel hb) (hAsk.out W hb)
        rw [hlen, ← HNN.out, ← hcs] at h
        exact h.mono fun e w' ⟨A, c, q1, _, q3, q4⟩ => ⟨A, c, q1, q3, q4⟩
      have HBW := Lib.hid hbel
      have HLI := Lib.hid hi
      have HLN := Lib.hid hlen
      have HLV := Lib.hid hval
      have hw0 : Below wo.heap.size wo wo := Below.refl _ _
      by_cases hE : solveE K L cs = 0
      · have hgood := solveE_good hE
        have hgr : greedyR K L cs = (0, giveL cs L (K - L.sum).toNat) := by unfold greedyR; rw [if_pos hE]
        have hbr : bestQ K L cs = (0, bestR L cs K) := by unfold bestQ; rw [if_pos hE]
        have sG := hgood.give
        obtain ⟨sB, qB, pB, mB⟩ := bestR_spec cs L K hgood.may
        have hcl : cs.length = N := by rw [hcs, List.length_map, HNN.out]
        have hL0 : ∀ z ∈ L, 0 ≤ z := fun z hz => (hval z hz).1
        have hk16 := hgood.k16
        have hpos := hgood.pos
        have hlsum := hgood.sum
        have hls0 := sum_nonneg hL0
        rw [hcl] at hk16 hpos
        have HSUM : Hid (∀ (W : World) (A : Option Addr) (c : Nat) (X : List Int), Below wo.heap.size wo W → X.length = N → Ints W W.heap.size .i64 A X → Calls Try.prog 15 #[.slice A N c, .slice A1 N c1] W fun e w' => e = .returned (.int .i64 (bringL cs X)) ∧ ∃ m, w' = W.drewN m) := fun W A c X hb hX hI => by
          have h := refSum_any A A1 c c1 X ps W hI ((HC1.out.below (chain hbel hb)).more (chain hbel hb).size) (hX.trans HNN.out) (by rw [← HNN.out]; exact hk16) (fun i hi => by rw [← hcs] at hi ⊢; exact hgood.sound _ (by rw [List.getD_eq_getElem?_getD, List.getElem?_eq_getElem hi]; exact List.getElem_mem _))
          rw [← hcs, hX, ← HNN.out] at h
          rw [bringL_sum cs X (by rw [hX, hcl]), hcl]
          exact h
        rw [hgr] at HG
        rw [hbr] at HBe
        obtain ⟨GL, hGL⟩ : ∃ X, X = giveL cs L (K - L.sum).toNat := ⟨_, rfl⟩
        obtain ⟨BL, hBL⟩ : ∃ X, X = (bestR L cs K).1 := ⟨_, rfl⟩
        obtain ⟨BV, hBV⟩ : ∃ X, X = (bestR L cs K).2 := ⟨_, rfl⟩
        rw [← hGL] at HG sG
        rw [← hBL, ← hBV] at HBe
        rw [← hBL] at sB qB
        rw [← hBV] at qB mB
        have lG : GL.length = N := sG.len.trans hlen
        have lB : BL.length = N := sB.len.trans hlen
        have HLG2 := Lib.hid lG
        have HLB2 := Lib.hid lB
        simp only [lG] at HG
        simp only [lB] at HBe
        have HTRY : Hid (∀ X, Shares L K X → bringL cs X ≤ BV) := mB
        have HQB := Lib.hid qB
        have HZ1 := Lib.hid (mB GL sG)
        have HEG : Hid (∀ k, k < N → L.getD k 0 ≤ GL.getD k 0 ∧ 0 ≤ L.getD k 0 ∧ L.getD k 0 ≤ 7 ∧ 0 ≤ GL.getD k 0 ∧ GL.getD k 0 ≤ 119) := fun k hk => by
          have h := sG.entry hL0 (i := k) (by rw [hlen]; exact hk)
          have h2 := hval (L.getD k 0) (by rw [List.getD_eq_getElem?_getD, List.getElem?_eq_getElem (by rw [hlen]; exact hk)]; exact List.getElem_mem _)
          omega
        have HEB : Hid (∀ k, k < N → L.getD k 0 ≤ BL.getD k 0 ∧ 0 ≤ BL.getD k 0 ∧ BL.getD k 0 ≤ 119) := fun k hk => by
          have h := sB.entry hL0 (i := k) (by rw [hlen]; exact hk)
          omega
        have HUG : Hid (∀ k, k ≤ N → 0 ≤ sumK GL k ∧ sumK GL k ≤ 1048576 * (k : Int)) := fun k hk => sG.sums hL0 (by omega) (by rw [hlen]; exact hk)
        have HUB : Hid (∀ k, k ≤ N → 0 ≤ sumK BL k ∧ sumK BL k ≤ 1048576 * (k : Int)) := fun k hk => sB.sums hL0 (by omega) (by rw [hlen]; exact hk)
        have HUL : Hid (∀ k, k ≤ N → 0 ≤ sumK L k ∧ sumK L k ≤ 1048576 * (k : Int)) := fun k hk => sumK_bounds (fun z hz => by have := hval z hz; omega) k (by rw [hlen]; exact hk)
        have HSG : Hid (∀ k, k < N → sumK GL (k + 1) = sumK GL k + GL.getD k 0) := fun k hk => sumK_succ GL (by rw [lG]; exact hk)
        have HSB : Hid (∀ k, k < N → sumK BL (k + 1) = sumK BL k + BL.getD k 0) := fun k hk => sumK_succ BL (by rw [lB]; exact hk)
        have HSL : Hid (∀ k, k < N → sumK L (k + 1) = sumK L k + L.getD k 0) := fun k hk => sumK_succ L (by rw [hlen]; exact hk)
        have HNG : Hid (sumK GL N = K) := by unfold Hid; rw [← sG.sum, ← lG]; unfold sumK; rw [List.take_length]
        have HNB : Hid (sumK BL N = K) := by unfold Hid; rw [← sB.sum, ← lB]; unfold sumK; rw [List.take_length]
        have HNL : Hid (sumK L N = L.sum) := by unfold Hid; rw [← hlen]; unfold sumK; rw [List.take_length]
        have HG0 : Hid (sumK GL 0 = 0) := rfl
        have HB0 : Hid (sumK BL 0 = 0) := rfl
        have HLL0 : Hid (sumK L 0 = 0) := rfl
        have HMORE : Hid (∀ (Y : List Int) (j : Int) (d : Nat), Y.length = N → Y.sum = L.sum + j → (∀ i, i < N → L.getD i 0 ≤ Y.getD i 0) → d < N → (Y.set d (Y.getD d 0 + 1)).length = N ∧ (Y.set d (Y.getD d 0 + 1)).sum = L.sum + (j + 1) ∧ ∀ i, i < N → L.getD i 0 ≤ (Y.set d (Y.getD d 0 + 1)).getD i 0) := fun Y j d h1 h2 h3 h4 => by
          have h := tried_more (ls := L) (Y := Y) (j := j) (by rw [hlen]; exact h1) h2 (by rw [hlen]; exact h3) (d := d) (by rw [hlen]; exact h4)
          rw [hlen] at h
          exact h
        have HENT : Hid (∀ (Y : List Int) (j : Int) (d : Nat), Y.length = N → Y.sum = L.sum + j → (∀ i, i < N → L.getD i 0 ≤ Y.getD i 0) → d < N → 0 ≤ Y.getD d 0 ∧ Y.getD d 0 ≤ L.sum + j) := fun Y j d h1 h2 h3 h4 => by
          have h : Shares L (L.sum + j) Y := ⟨by rw [hlen]; exact h1, h2, by rw [hlen]; exact h3⟩
          have := h.entry hL0 (i := d) (by rw [hlen]; exact h4)
          omega
        have HSHA : Hid (∀ (Y : List Int), Y.length = N → Y.sum = K → (∀ i, i < N → L.getD i 0 ≤ Y.getD i 0) → Shares L K Y) := fun Y h1 h2 h3 => ⟨by rw [hlen]; exact h1, h2, by rw [hlen]; exact h3⟩
        obtain ⟨LS, hLS⟩ : ∃ x, x = L.sum := ⟨_, rfl⟩
        simp only [← hLS] at HNL HMORE HENT hlsum hls0
        have HLS := Lib.hid hLS
        obtain ⟨L0, hL0'⟩ : ∃ x, x = K - LS := ⟨_, rfl⟩
        have HL0' := Lib.hid hL0'
        have l0 : 0 ≤ L0 := by omega
        have l1 : L0 ≤ 119 := by omega
        have n16 : (N : Int) ≤ 16 := by omega
        have n01 : (1 : Int) ≤ (N : Int) := by omega
        have HNIL := Lib.hid (nil_of_ints (c := c3) hi (by rw [hlen]; omega))
        clear hgood hgr hbr sG sB qB pB mB hcl hL0 hk16 hpos hlsum hls0 hGL hBL hBV lG lB hE hown hbel hlen hval hi hNc hcs hL hR HS hAsk hLS hL0'
        go_wp2_with (first
          | (go_at_call 9; with_reducible (refine Calls.mono (HG.out _ hw0) ?_); rintro e w1 ⟨A5, c5, rfl, hi5, hb5⟩)
          | (go_at_call 14; with_reducible (refine Calls.mono (HBe.out _ hb5) ?_); rintro e w2 ⟨A6, c6, rfl, hi6, hb6⟩; have hx6 := chain hb5 hb6; have hi5b := (hi5.below hb6).more hb6.size)
          | (go_at_call 11; with_reducible (refine Calls.mono (HA.out _ (chain HBW.out hx6)) ?_); rintro e w3 ⟨rfl, hb7⟩; have hx7 := chain hx6 hb7; have hi5c := (hi5b.below hb7).more hb7.size; have hi6c := (hi6.below hb7).more hb7.size; have hlc := (HLI.out.below hx7).more hx7.size)
          | (at_builtin; refine wpList_append_when _ rfl (.tmp 82) (.tmp 83) 22 rfl w3.heap.size 3 i0 (.int .i64 0) 8 Try.underlying22 hif hz0 hz1 hz2 rfl .i64 (.slice (some ⟨w3.heap.size, 0, none⟩) 0 0) [] L w3.heap.size c3 N A3 HLN.out rfl rfl (World.ownsRow_made w3 #[] 0 (Nat.le_refl _) (Nat.zero_le _) rfl) (hlc.below ((Below.refl _ w3).alloc (Nat.le_refl _) _)) HNIL.out ?da ?db (by simp) ?_))
        case da => rw [HLN.out]; unfold maxLen; simp; omega
        case db => rw [HLN.out]; simp; omega
        intro v4 w4 hown4 hg4 _
        have hb4 : Below w3.heap.size w3 w4 := ((Below.refl w3.heap.size w3).alloc (Nat.le_refl _) _).grown hg4 (by simp) fun q hq => by simp [Value.ownBlock] at hq; omega
        have hown5 : w4.ownsRow w3.heap.size 3 1 v4 N (L.map (Value.int .i64)) := by
          have h := hown4
          have hl := HLN.out
          first
            | exact hl ▸ h
            | (rw [List.nil_append, hl] at h; exact h)
            | (simp only [List.nil_append, hl] at h; exact h)
        obtain ⟨g, cap, hv, hbg, hgl⟩ := hown5.form (by omega)
        subst hv
        have HO5 := Lib.hid hown5
        have HB4 := Lib.hid hb4
        have HX7 := Lib.hid hx7
        have HGI : Hid (Ints w4 w4.heap.size .i64 A5 GL) := (hi5c.below hb4).more hb4.size
        have HBI : Hid (Ints w4 w4.heap.size .i64 A6 BL) := (hi6c.below hb4).more hb4.size
        have HLI4 : Hid (Ints w4 w4.heap.size .i64 A3 L) := (hlc.below hb4).more hb4.size
        have HGI3 := Lib.hid hi5c
        have HBI3 := Lib.hid hi6c
        have HLGL : Hid (GL.length = N) := HLG2.out
        have HLBL : Hid (BL.length = N) := HLB2.out
        clear hown4 hg4 hown5 hb4 hx7 hx6 hi5 hi6 hi5b hi5c hi6c hlc hb5 hb6 hb7 HA HG HBe HLI
        go_wp2
        go_loopw [18, 19, 20, 22] (fun s a l i wx => ∃ k m : Nat, k ≤ N ∧ i = .int .i64 k ∧ s = .int .i64 (sumK GL k) ∧ a = .int .i64 (sumK BL k) ∧ l = .int .i64 (K - sumK L k) ∧ wx = w4.drewN m) (fun _ _ _ i _ => N - (intOf i).toNat)
        case atStart => exact ⟨0, 0, Nat.zero_le _, rfl, by rw [HG0.out], by rw [HB0.out], by rw [HLL0.out, Int.sub_zero], rfl⟩
        case round =>
          obtain ⟨k, m, hk, rfl, rfl, rfl, rfl, hwr⟩ := hrel
          by_cases hkN : k < N
          · obtain ⟨bg, og, rfl, _, cg⟩ := HGI.out k (by have := HLGL.out; omega)
            obtain ⟨bb, ob, rfl, _, cb⟩ := HBI.out k (by have := HLBL.out; omega)
            obtain ⟨bl, ol, rfl, _, cl⟩ := HLI4.out k (by have := HLN.out; omega)
            replace cg : wr.cell? ⟨bg, og + k, none⟩ = some (.int .i64 (GL.getD k 0)) := by rw [hwr]; exact cg
            replace cb : wr.cell? ⟨bb, ob + k, none⟩ = some (.int .i64 (BL.getD k 0)) := by rw [hwr]; exact cb
            replace cl : wr.cell? ⟨bl, ol + k, none⟩ = some (.int .i64 (L.getD k 0)) := by rw [hwr]; exact cl
            obtain ⟨a1, a2, a3, a4, a5⟩ := HEG.out k hkN
            obtain ⟨a6, _, a7⟩ := HEB.out k hkN
            have g1 := HSG.out k hkN
            have g2 := HSB.out k hkN
            have g3 := HSL.out k hkN
            have u1 := HUG.out k hk
            have u2 := HUB.out k hk
            have u3 := HUL.out k hk
            obtain ⟨x, hx⟩ : ∃ x, x = GL.getD k 0 := ⟨_, rfl⟩
            obtain ⟨y, hy⟩ : ∃ x, x = BL.getD k 0 := ⟨_, rfl⟩
            obtain ⟨z, hz⟩ : ∃ x, x = L.getD k 0 := ⟨_, rfl⟩
            rw [← hx] at cg a1 a4 a5 g1
            rw [← hy] at cb a6 a7 g2
            rw [← hz] at cl a1 a2 a3 a6 g3
            obtain ⟨S, hS⟩ : ∃ x, x = sumK GL k := ⟨_, rfl⟩
            obtain ⟨T, hT⟩ : ∃ x, x = sumK BL k := ⟨_, rfl⟩
            obtain ⟨U, hU⟩ : ∃ x, x = K - sumK L k := ⟨_, rfl⟩
            have g4 : U - z = K - sumK L (k + 1) := by omega
            have u4 : -16777216 ≤ U ∧ U ≤ 119 := by omega
            rw [← hS] at g1 u1 ⊢
            rw [← hT] at g2 u2 ⊢
            rw [← hU]
            have G1 := Lib.hid g1
            have G2 := Lib.hid g2
            have G4 := Lib.hid g4
            have s0 : (0 : Int) ≤ S := u1.1
            have s1 : S ≤ 16777216 := by omega
            have t0 : (0 : Int) ≤ T := u2.1
            have t1 : T ≤ 16777216 := by omega
            have w0 := u4.1
            have w1' := u4.2
            have k1 : (k : Int) < (N : Int) := by omega
            have k0 : (0 : Int) ≤ (k : Int) := by omega
            have d1 : decide (x < z) = false := decide_eq_false (by omega)
            have d2 : decide (y < z) = false := decide_eq_false (by omega)
            have v1 : IntKind.i64.wrap (S + x) = S + x := IntWalk.i64_in _ (by omega)
            have v2 : IntKind.i64.wrap (T + y) = T + y := IntWalk.i64_in _ (by omega)
            have v3 : IntKind.i64.wrap (U - z) = U - z := IntWalk.i64_in _ (by omega)
            have HWR := Lib.hid hwr
            clear hx hy hz hS hT hU g1 g2 g3 g4 u1 u2 u3 u4 hwr
            go_wp2
            go_quiet (fail)
            go_wp2
            go_roundw
            case rel => first | exact ⟨k + 1, m + nq, by omega, by go_num, by rw [G1.out], by rw [G2.out], by rw [G4.out], by rw [HWR.out, World.drewN_drewN]⟩ | ((repeat apply Exists.intro); exact ⟨⟨k + 1, m + nq, by omega, by go_num, by rw [G1.out], by rw [G2.out], by rw [G4.out], by rw [HWR.out, World.drewN_drewN]⟩, rfl⟩)
            case measure => simp [intOf]; omega
          · have hkn : N = k := by omega
            subst hkn
            have HW2 := Lib.hid hwr
            have HO6 : Hid (wr.ownsRow w3.heap.size 3 1 (.slice (some ⟨g, 0, none⟩) N cap) N (L.map (Value.int .i64))) := by unfold Hid; rw [hwr]; exact HO5.out
            have HB6 : Hid (Below w3.heap.size w3 wr) := by unfold Hid; rw [hwr]; exact below_drewN HB4.out m
            rw [HNG.out, HNB.out, HNL.out, ← HL0'.out]
            clear hwr HSG HSB HSL HUG HUB HUL HEG HEB HG0 HB0 HLL0 HO5 HB4 HGI HBI HLI4 HW2
            go_wp2
            go_loopw [20, 23] (fun l i wx => ∃ (j : Nat) (Y : List Int), (j : Int) ≤ L0 ∧ l = .int .i64 (L0 - j) ∧ i = .int .i64 j ∧ Hid (Y.length = N ∧ Y.sum = LS + (j : Int) ∧ (∀ i, i < N → L.getD i 0 ≤ Y.getD i 0)) ∧ Hid (wx.ownsRow w3.heap.size 3 1 (.slice (some ⟨g, 0, none⟩) N cap) N (Y.map (Value.int .i64)) ∧ Below w3.heap.size w3 wx)) (fun l _ _ => (intOf l).toNat)
            case atStart => exact ⟨0, L, by omega, by simp, rfl, ⟨HLN.out, by have := HLS.out; simp; omega, fun i _ => Int.le_refl _⟩, ⟨HO6.out, HB6.out⟩⟩
            case round =>
              clear HO6 HB6
              obtain ⟨j, Y, hj, rfl, rfl, hY, hW⟩ := hrel
              by_cases hjl : (j : Int) < L0
              · have l2 : (0 : Int) < L0 - (j : Int) := by omega
                have j0 : (0 : Int) ≤ (j : Int) := by omega
                by_cases hjt : j < lt
                · have j1 : (j : Int) < (lt : Int) := by omega
                  obtain ⟨bt, ot, rfl, _, ct⟩ := ((HI2.out.below (chain HBW.out HX7.out)).below (Below.mono hW.out.2 (chain HBW.out HX7.out).size)) j (by have := HNt.out; omega)
                  have hx := HTF.out j hjt
                  obtain ⟨x, hxx⟩ : ∃ x, x = tries.getD j 0 := ⟨_, rfl⟩
                  rw [← hxx] at ct hx
                  obtain ⟨d, hd⟩ : ∃ d : Nat, (d : Int) = x % (N : Int) := ⟨(x % (N : Int)).toNat, by have := Int.emod_nonneg x (show (N : Int) ≠ 0 by omega); omega⟩
                  have hdN : d < N := by have := Int.emod_lt_of_pos x (show (0 : Int) < (N : Int) by omega); omega
                  have m1 : x.tmod (N : Int) = (d : Int) := by rw [Int.tmod_eq_emod_of_nonneg hx.1]; exact hd.symm
                  have m3 : x % (N : Int) = (d : Int) := hd.symm
                  have m2 : IntKind.i64.wrap (x % (N : Int)) = (d : Int) := by rw [m3]; exact IntWalk.i64_in _ (by omega)
                  have m4 : IntKind.i64.wrap x = x := IntWalk.i64_in _ (by omega)
                  have x0 := hx.1
                  have x1 := hx.2
                  have nz : ((N : Int) == 0) = false := beq_eq_false_iff_ne.2 (by omega)
                  clear hx hxx hd
                  obtain ⟨y1, y2, y3⟩ := hY.out
                  obtain ⟨hown, hbel⟩ := hW.out
                  have R1 := Lib.hid (HMORE.out Y (j : Int) d y1 y2 y3 hdN)
                  have yb := HENT.out Y (j : Int) d y1 y2 y3 hdN
                  have q1 := own_atG hown (i := d) (by rw [y1]; exact hdN)
                  have f1 := hown.frozenAt d
                  have s1 := (hown.stored d (.int .i64 (Y.getD d 0 + 1))).1
                  have s4 := hbel.setCell (p := ⟨g, d, none⟩) (hown.lt g rfl).1 (.int .i64 (Y.getD d 0 + 1))
                  rw [← List.map_set] at s1
                  have R3 := Lib.hid (And.intro s1 s4)
                  obtain ⟨y, hy⟩ : ∃ y, y = Y.getD d 0 := ⟨_, rfl⟩
                  rw [← hy] at q1 yb R1 R3
                  have HLL := HL0'.out
                  have v9 : IntKind.i64.wrap (y + 1) = y + 1 := IntWalk.i64_in _ (by omega)
                  have k2 : ((d : Nat) : Int) < (N : Int) := by omega
                  clear hY hW y1 y2 y3 hown hbel s1 s4 hy yb HLL
                  go_wp2
                  go_roundw
                  case rel => first | exact ⟨j + 1, _, by omega, by congr 1; omega, by go_num, R1, R3⟩ | ((repeat apply Exists.intro); exact ⟨⟨j + 1, _, by omega, by congr 1; omega, by go_num, R1, R3⟩, rfl⟩)
                  case measure => simp [intOf]; omega
                · have j1 : ¬ (j : Int) < (lt : Int) := by omega
                  obtain ⟨d, hd⟩ : ∃ d : Nat, d = 0 := ⟨_, rfl⟩
                  have hdN : d < N := by omega
                  subst hd
                  obtain ⟨y1, y2, y3⟩ := hY.out
                  obtain ⟨hown, hbel⟩ := hW.out
                  have R1 := Lib.hid (HMORE.out Y (j : Int) 0 y1 y2 y3 hdN)
                  have yb := HENT.out Y (j : Int) 0 y1 y2 y3 hdN
                  have q1 := own_atG hown (i := 0) (by rw [y1]; exact hdN)
                  have f1 := hown.frozenAt 0
                  have s1 := (hown.stored 0 (.int .i64 (Y.getD 0 0 + 1))).1
                  have s4 := hbel.setCell (p := ⟨g, 0, none⟩) (hown.lt g rfl).1 (.int .i64 (Y.getD 0 0 + 1))
                  rw [← List.map_set] at s1
                  have R3 := Lib.hid (And.intro s1 s4)
                  obtain ⟨y, hy⟩ : ∃ y, y = Y.getD 0 0 := ⟨_, rfl⟩
                  rw [← hy] at q1 yb R1 R3
                  have HLL := HL0'.out
                  have v9 : IntKind.i64.wrap (y + 1) = y + 1 := IntWalk.i64_in _ (by omega)
                  have k2 : ((0 : Nat) : Int) < (N : Int) := by omega
                  clear hY hW y1 y2 y3 hown hbel s1 s4 hy yb HLL
                  go_wp2
                  go_roundw
                  case rel => first | exact ⟨j + 1, _, by omega, by congr 1; omega, by go_num, R1, R3⟩ | ((repeat apply Exists.intro); exact ⟨⟨j + 1, _, by omega, by congr 1; omega, by go_num, R1, R3⟩, rfl⟩)
                  case measure => simp [intOf]; omega
              · have hjL : (j : Int) = L0 := by omega
                obtain ⟨y1, y2, y3⟩ := hY.out
                obtain ⟨hown, hbel⟩ := hW.out
                have HZ2 := Lib.hid (HTRY.out Y (HSHA.out Y y1 (by have := HL0'.out; omega) y3))
                have l3 : ¬ (0 : Int) < L0 - (j : Int) := by omega
                have HM : Hid (Ints wr wr.heap.size .i64 (some ⟨g, 0, none⟩) Y) := Ints.of_own (n := N) (c := cap) (by rw [y1]; exact hown)
                have HGG : Hid (Ints wr wr.heap.size .i64 A5 GL) := (HGI3.out.below hbel).more hbel.size
                have HBB : Hid (Ints wr wr.heap.size .i64 A6 BL) := (HBI3.out.below hbel).more hbel.size
                have HXX := Lib.hid (chain HX7.out hbel)
                have HYL := Lib.hid y1
                have HSQ := Lib.hid (fun (W : World) (A : Option Addr) (c : Nat) (hb : Below wo.heap.size wo W) (hI : Ints W W.heap.size .i64 A BL) => HSUM.out W A c BL hb HLBL.out hI)
                have hqb := HQB.out
                obtain ⟨SG, hSG⟩ : ∃ x, x = bringL cs GL := ⟨_, rfl⟩
                obtain ⟨SY, hSY⟩ : ∃ x, x = bringL cs Y := ⟨_, rfl⟩
                have z1 : SG ≤ BV := by rw [hSG]; exact HZ1.out
                have z2 : SY ≤ BV := by rw [hSY]; exact HZ2.out
                rw [← hqb] at HSQ
                have HSA := Lib.hid (fun (W : World) (A : Option Addr) (c : Nat) (hb : Below wo.heap.size wo W) (hI : Ints W W.heap.size .i64 A GL) => HSUM.out W A c GL hb HLGL.out hI)
                have HSY := Lib.hid (fun (W : World) (A : Option Addr) (c : Nat) (hb : Below wo.heap.size wo W) (hI : Ints W W.heap.size .i64 A Y) => HSUM.out W A c Y hb HYL.out hI)
                rw [← hSG] at HSA
                rw [← hSY] at HSY
                clear hY hW y1 y2 y3 hown hbel hjL hSG hSY hqb
                go_wp2_with (first
                  | (go_at_call 15; with_reducible (refine Calls.mono (HSA.out _ _ _ HXX.out HGG.out) ?_); rintro e w5 ⟨rfl, m5, hw5⟩; have hM5 := HM.out.drewS m5; have hB5 := HBB.out.drewS m5; have hx5 := below_drewN HXX.out m5; rw [← hw5] at hM5 hB5 hx5; clear hw5)
                  | (go_at_call 15; with_reducible (refine Calls.mono (HSY.out _ _ _ hx5 hM5) ?_); rintro e w6 ⟨rfl, m6, hw6⟩; have hB6 := hB5.drewS m6; have hx6 := below_drewN hx5 m6; rw [← hw6] at hB6 hx6; clear hw6)
                  | (go_at_call 15; with_reducible (refine Calls.mono (HSQ.out _ _ _ hx6 hB6) ?_); rintro e w7 ⟨rfl, m7, hw7⟩; have hx8 := below_drewN hx6 m7; rw [← hw7] at hx8; clear hw7))
                go_ret
                exact ⟨rfl, chain HBW.out hx8⟩
      · have hg : greedyR K L cs = (solveE K L cs, []) := by unfold greedyR; rw [if_neg hE]
        have hb : bestQ K L cs = (solveE K L cs, [], 0) := by unfold bestQ; rw [if_neg hE]
        rw [hg] at HG
        rw [hb] at HBe
        have hle := solveE_le K L cs
        obtain ⟨E, hEE⟩ : ∃ E, E = solveE K L cs := ⟨_, rfl⟩
        rw [← hEE] at HG HBe hE
        have y0 : (E == 0) = false := by rw [beq_eq_false_iff_ne]; exact hE
        have y1 : (E != 0) = true := by rw [bne_iff_ne]; exact hE
        clear hg hb hle hEE hown hbel hlen hval hi hNc hcs hL hR HS hAsk
        go_wp2_with (first
          | (go_at_call 9; with_reducible (refine Calls.mono (HG.out _ hw0) ?_); rintro e w1 ⟨A5, c5, rfl, hi5, hb5⟩)
          | (go_at_call 14; with_reducible (refine Calls.mono (HBe.out _ hb5) ?_); rintro e w2 ⟨A6, c6, rfl, hi6, hb6⟩; have hx6 := chain (chain HBW.out hb5) hb6)
          | (go_at_call 11; with_reducible (refine Calls.mono (HA.out _ hx6) ?_); rintro e w3 ⟨rfl, hb7⟩; have hx7 := chain hx6 hb7))
        go_ret
        exact ⟨rfl, hx7⟩

end Go.Proofs.Ytnpdffcplgjbnaa
