/-
  SampleTwice.
-/
import Derived.Test.YtphejkcdddkfnaaSampleFirst
import Derived.StillTailTactics
namespace Go.Proofs.Ytphejkcdddkfnaa
open Go.RowKit

theorem cell_two_new (w : World) (x y : Value) (t : TypeId) : ∀ j u, [x, y][j]? = some u → (w.alloc (.cells #[x, y] t)).cell? ((⟨w.heap.size, 0, none⟩ : Addr).add j) = some u := by
  intro j u hj
  have hadd : (⟨w.heap.size, 0, none⟩ : Addr).add j = ⟨w.heap.size, j, none⟩ := by unfold Addr.add; split <;> simp_all
  rw [hadd, cell_of_row _ _ j _ _ _ (heap_alloc_new _ _)]
  simpa using hj
theorem own_drew {w : World} {base e s n : Nat} {v : Value} {xs : List Value} (h : w.ownsRow base e s v n xs) : w.drew.ownsRow base e s v n xs := h
theorem twiceL_snoc (l : List Int) (x : Int) : twiceL (l ++ [x]) = twiceL l ++ [x, x] := by unfold twiceL; rw [List.flatMap_append]; rfl

set_option maxHeartbeats 1600000 in
set_option maxRecDepth 20000 in
theorem sampleTwice_le (A : Option Addr) (c : Nat) (l : List Nat) (w : World) (HS : SampleSpec w) (h : Ints w w.heap.size .u8 A (up l)) (hlt : ∀ b ∈ l, b < 256) (hN : l.length ≤ 500) :
    Calls Try.prog 8 #[.slice A l.length c] w fun e w' => e = .returned (.bool true) ∧ Below w.heap.size w w' := by
  obtain ⟨i0, hif, hz0, hz1, hz2⟩ := info_parts Try.infoI64s
  have HA := Lib.hid (sampleAwake HS)
  have hN2 : (l.length : Int) ≤ 500 := by omega
  go_enter Try.func8, Try.ntmps8
  go_wp2
  go_loopw [3, 4, 5] (fun v u i wr => ∃ k : Nat, k ≤ l.length ∧ i = .int .i64 k ∧ (∃ A c, v = .slice A k c) ∧ (∃ A c, u = .slice A (2 * k) c) ∧ Hid (wr.ownsRow w.heap.size 3 1 v k ((up (l.take k)).map (Value.int .i64)) ∧
      wr.ownsRow w.heap.size 3 1 u (2 * k) ((twiceL (up (l.take k))).map (Value.int .i64)) ∧ Apart v u ∧ Below w.heap.size w wr)) (fun _ _ i _ => l.length - (intOf i).toNat)
  case atStart =>
    refine ⟨0, Nat.zero_le _, rfl, ⟨_, _, rfl⟩, ⟨_, _, rfl⟩, ?_⟩
    have h1 := (World.ownsRow_made (base := w.heap.size) (e := 3) (size := 1) w #[] 0 (Nat.le_refl _) (Nat.zero_le _) rfl).alloc (.cells #[] 3)
    have h2 := World.ownsRow_made (base := w.heap.size) (e := 3) (size := 1) (w.alloc (.cells #[] 3)) #[] 0 (by simp) (Nat.zero_le _) rfl
    rw [World.size_alloc] at h2
    exact ⟨h1, h2, fun q hq hq2 => by simp [Value.ownBlock] at hq hq2; omega, ((Below.refl _ _).alloc (Nat.le_refl _) _).alloc (by simp) _⟩
  case round =>
    obtain ⟨k, hk, rfl, ⟨A1, c1, rfl⟩, ⟨A2, c2, rfl⟩, hS⟩ := hrel
    by_cases hlt3 : k < l.length
    · have k1 : (k : Int) < (l.length : Int) := by omega
      have k2 : (k : Int) < 500 := by omega
      have k0 : (0 : Int) ≤ (k : Int) := by omega
      obtain ⟨hown, hown2, hap, hbel⟩ := hS.out
      obtain ⟨b1, off, rfl, hbl, hc9⟩ := (h.below hbel) k (by rw [up_len]; exact hlt3)
      rw [up_getD] at hc9
      have ht1 := take_snocM (fun x : Nat => Value.int .i64 (x : Int)) l hlt3
      have ht2 := take_snocM (fun x : Nat => (x : Int)) l hlt3
      have e1 : ∀ j, (up (l.take j)).map (Value.int .i64) = (l.take j).map fun x : Nat => Value.int .i64 (x : Int) := fun j => by unfold up; rw [List.map_map]; rfl
      have hx2 : l.getD k 0 < 256 := by rw [List.getD_eq_getElem?_getD, List.getElem?_eq_getElem hlt3]; exact hlt _ (List.getElem_mem hlt3)
      rw [e1] at hown
      obtain ⟨x, hx⟩ : ∃ x, x = l.getD k 0 := ⟨_, rfl⟩
      rw [← hx] at hc9 ht1 ht2 hx2
      have ht3 : twiceL (up (l.take (k + 1))) = twiceL (up (l.take k)) ++ [(x : Int), (x : Int)] := by
        have : up (l.take (k + 1)) = up (l.take k) ++ [(x : Int)] := ht2
        rw [this, twiceL_snoc]
      obtain ⟨P1, hP1⟩ : ∃ P, P = (l.take k).map fun x : Nat => Value.int .i64 (x : Int) := ⟨_, rfl⟩
      have hTWL : (twiceL (up (l.take k))).length = 2 * k := by rw [twiceL_len, up_len, List.length_take]; omega
      obtain ⟨TW, hP2⟩ : ∃ P, P = twiceL (up (l.take k)) := ⟨_, rfl⟩
      rw [← hP1] at hown ht1
      rw [← hP2] at hown2 ht3 hTWL
      have HTWL := Lib.hid hTWL
      have HT1 := Lib.hid ((e1 (k + 1)).trans ht1)
      have HT2 := Lib.hid ht3
      have x0 : (0 : Int) ≤ (x : Int) := by omega
      have x1 : (x : Int) < 256 := by omega
      clear hx ht1 ht2 ht3 e1 hP1 hP2 hTWL hS hx2
      go_wp2_with (at_builtin; refine wpList_append_own_at _ rfl _ _ 25 rfl w.heap.size 3 i0 (.int .i64 0) 1 8 Try.underlying25 hif hz0 hz1 hz2 rfl (by decide) _ _ _ rfl (hown.alloc _) ⟨wr.heap.size, 0, none⟩ 1 1 [.int .i64 (x : Int)] rfl rfl (cell_one_new _ _ _) ?d1 ?d2 ?d3 ?d4 ?_)
      case d1 => first | rfl | (intro u hu; simp at hu; subst hu; rfl)
      case d2 => unfold maxLen; omega
      case d3 => omega
      case d4 => have := hbel.size; simp; omega
      intro v3 w3 hown3 hg3 _ hv3
      have hb3 : Below w.heap.size w w3 := (hbel.alloc hbel.size _).grown hg3 (by have := hbel.size; simp; omega) fun q hq => (hown.lt q hq).1
      have ho2 := own_kept (hown2.alloc (.cells #[.int .i64 (x : Int)] 3)) hg3 (fun q hq => hap q hq)
      have hap3 : Apart v3 (.slice A2 (2 * k) c2) := hap.grown (N := wr.heap.size + 1) (fun q hq => by have := (hown2.lt q hq).2; omega) hv3
      have hc3 := (hb3.cell (p := ⟨b1, off + k, none⟩) hbl).trans ((hbel.cell (p := ⟨b1, off + k, none⟩) hbl).symm.trans hc9)
      obtain ⟨A3, c3, rfl⟩ := own_slice hown3
      have HB3 := Lib.hid hb3
      have HO2 := Lib.hid ho2
      have HO1 := Lib.hid hown3
      have HAP := Lib.hid hap3
      have hbl3 : b1 < w3.heap.size := by have := hb3.size; omega
      have HSS : Hid (∀ W : World, Below w3.heap.size w3 W → W.cell? ⟨b1, off + k, none⟩ = some (.int .u8 (x : Nat))) := fun W hb => (hb.cell (p := ⟨b1, off + k, none⟩) hbl3).trans hc3
      have HSG : Hid (∀ W : World, Below w.heap.size w3 W → W.cell? ⟨b1, off + k, none⟩ = some (.int .u8 (x : Nat))) := fun W hb => (hb.cell (p := ⟨b1, off + k, none⟩) hbl).trans hc3
      have hxw : IntKind.i64.wrap (x : Int) = (x : Int) := by rw [IntKind.wrap_i64]; omega
      clear hown hown2 hap hbel hg3 hc9 hv3 hown3 ho2 hb3 hap3 hc3 hbl3
      go_wp2
      go_region_held3 (fun W => W.cell? ⟨b1, off + k, none⟩ = some (.int .u8 (x : Nat)))
        (first
          | exact HSS.out _ ((Below.refl _ _).drew)
          | exact HSS.out _ (((Below.refl _ _).alloc (Nat.le_refl _) _).drew)
          | exact HSG.out _ hb7)
        (first
          | (refine step_append_when _ (by rfl) _ _ 25 (by rfl) w.heap.size 3 i0 (.int .i64 0) 8 Try.underlying25 hif hz0 hz1 hz2 rfl .i64 (.slice A2 (2 * k) c2) TW [(x : Int), (x : Int)] (w3.heap.size + 1) 2 2 (some ⟨w3.heap.size, 0, none⟩) rfl (by rfl) (by rfl) (by rw [HTWL.out]; exact HO2.out.alloc _) (Ints.new w3 3 .i64 [(x : Int), (x : Int)] _ rfl) (fun h => by cases h) (by rw [HTWL.out]; show 2 * k + 2 ≤ maxLen; unfold maxLen; omega) (by rw [HTWL.out]; show (2 * k + 2) * 8 ≤ _; omega) (by have h8 := HB3.out.size; show w.heap.size ≤ (w3.alloc _).heap.size; simp; omega) ?_; intro v7 w7 hown7 hgr7 hv7; have hb7 : Below w.heap.size w3 w7 := ((Below.refl _ _).alloc HB3.out.size (.cells #[.int .i64 (x : Int), .int .i64 (x : Int)] 3)).grown ⟨hgr7.os, hgr7.tape, hgr7.output, hgr7.size, hgr7.block⟩ (by have h8 := HB3.out.size; simp; omega) (fun q hq => (HO2.out.lt q hq).1)))
      have R : Hid (w7.ownsRow w.heap.size 3 1 (.slice A3 (k + 1) c3) (k + 1) ((up (l.take (k + 1))).map (Value.int .i64)) ∧ w7.ownsRow w.heap.size 3 1 v7 (2 * (k + 1)) ((twiceL (up (l.take (k + 1)))).map (Value.int .i64)) ∧ Apart (.slice A3 (k + 1) c3) v7 ∧ Below w.heap.size w w7) := by
        refine ⟨?_, ?_, ?_, HB3.out.trans (hb7.mono (Nat.le_refl _))⟩
        · rw [HT1.out]
          exact own_kept (HO1.out.alloc (.cells #[.int .i64 (x : Int), .int .i64 (x : Int)] 3)) ⟨hgr7.os, hgr7.tape, hgr7.output, hgr7.size, hgr7.block⟩ (fun q hq => HAP.out.symm q hq)
        · have h := hown7
          rw [show (TW ++ [(x : Int), (x : Int)]).length = 2 * (k + 1) by rw [List.length_append, HTWL.out]; rfl] at h
          rw [HT2.out]
          exact h
        · exact (HAP.out.symm.grown (N := w3.heap.size + 1) (fun q hq => by have := (HO1.out.lt q hq).2; omega) (by
            rcases hv7 with h | h
            · exact Or.inl h
            · refine Or.inr (h.trans ?_)
              show some (w3.alloc _).heap.size = _
              simp)).symm
      obtain ⟨A4, c4, rfl⟩ := own_slice R.out.2.1
      clear hown7 hgr7 hv7 hb7 HSS HSG HO1 HO2 HAP HB3 HTWL
      go_wp2
      go_roundw
      case rel => first | exact ⟨k + 1, by omega, by go_num, ⟨A3, c3, rfl⟩, ⟨A4, c4, rfl⟩, R.out⟩ | ((repeat apply Exists.intro); exact ⟨⟨k + 1, by omega, by go_num, ⟨A3, c3, rfl⟩, ⟨A4, c4, rfl⟩, R.out⟩, rfl⟩)
      case measure => simp [intOf]; omega
    · have hk8 : k = l.length := by omega
      subst hk8
      have hm9 : l.length ≤ 500 := hN
      obtain ⟨hown, hown2, _, hbel⟩ := hS.out
      clear hS
      have hLl : (up l).length = l.length := by rw [up_len]
      have hlt9 : l.take l.length = l := List.take_length
      rw [hlt9] at hown hown2
      have h64 : I64s (up l) := bytes_i64 hlt
      have h64b : I64s (twiceL (up l)) := fun z hz => by unfold twiceL at hz; obtain ⟨x, hx, hz⟩ := List.mem_flatMap.1 hz; simp at hz; rw [hz]; exact h64 x hx
      have hc1 := own_le hown
      have hc2 := own_le hown2
      have hi1 : Ints wr wr.heap.size .i64 A1 (up l) := Ints.of_own (n := l.length) (c := c1) (by rw [hLl]; exact hown)
      have hL2 : (twiceL (up l)).length = 2 * l.length := by rw [twiceL_len, hLl]
      have hi2 : Ints wr wr.heap.size .i64 A2 (twiceL (up l)) := Ints.of_own (n := 2 * l.length) (c := c2) (by rw [hL2]; exact hown2)
      obtain ⟨L, hL⟩ : ∃ L, L = up l := ⟨_, rfl⟩
      rw [← hL] at hLl h64 h64b hi1 hi2 hL2
      clear hown hown2 hlt9
      have hdl : (distL L).length = l.length := by rw [distL_len, hLl]
      have hdl2 : (distL (twiceL L)).length = 2 * l.length := by rw [distL_len, hL2]
      have H1 := HS.dist A1 c1 L
      rw [distR_le (by rw [hLl]; omega), hdl, hLl] at H1
      have H2 := HS.dist A2 c2 (twiceL L)
      rw [distR_le (by rw [hL2]; omega), hdl2, hL2] at H2
      have K1 := Lib.hid (fun (W : World) (hb : Below w.heap.size w W) (h : Ints W W.heap.size .i64 A1 L) => H1 W hb h h64 hc1 (by omega))
      have K2 := Lib.hid (fun (W : World) (hb : Below w.heap.size w W) (h : Ints W W.heap.size .i64 A2 (twiceL L)) => H2 W hb h h64b hc2 (by omega))
      have HTW : Hid (∀ j, j < l.length → (distL (twiceL L)).getD (2 * j) 0 = (distL L).getD j 0 ∧ (distL (twiceL L)).getD (2 * j + 1) 0 = 0) := fun j hj => dist_twice L (by rw [hLl]; exact hj)
      have HDL := Lib.hid hdl
      have HDL2 := Lib.hid hdl2
      have HM9 : Hid (l.length ≤ 500) := by refine Lib.hid ?_; omega
      clear H1 H2 h64 h64b hLl HS hlt hdl hdl2 hc1 hc2 hL hL2
      go_wp2_with (first
        | (go_at_call 10; with_reducible (refine Calls.mono (HA.out _ hbx5) ?_); rintro e w7 ⟨rfl, hb7⟩; have hbx := chain hbx5 hb7; replace hi4 := (hi4.below hb7).more hb7.size; replace hi5 := (hi5.below hb7).more hb7.size)
        | (go_at_call 13; with_reducible (refine Calls.mono (K2.out _ hbx4 hi2b) ?_); rintro e w5 ⟨A5, c5, rfl, hc5, hi5, hb5⟩; have hbx5 := chain hbx4 hb5; replace hi4 := (hi4.below hb5).more hb5.size)
        | (go_at_call 13; with_reducible (refine Calls.mono (K1.out _ hbel hi1) ?_); rintro e w4 ⟨A4, c4, rfl, hc4, hi4, hb4⟩; have hbx4 := chain hbel hb4; have hi2b := (hi2.below hb4).more hb4.size))
      have HC : Hid (∀ m' j, j < l.length → ∃ b4 o4 b5 o5 d, A4 = some ⟨b4, o4, none⟩ ∧ A5 = some ⟨b5, o5, none⟩ ∧ (w7.drewN m').cell? ⟨b4, o4 + j, none⟩ = some (.int .i64 d) ∧ (w7.drewN m').cell? ⟨b5, o5 + 2 * j, none⟩ = some (.int .i64 d) ∧ (w7.drewN m').cell? ⟨b5, o5 + (2 * j + 1), none⟩ = some (.int .i64 0)) := fun m' j hj => by
        obtain ⟨b4, o4, e4, _, hc4⟩ := hi4 j (by rw [HDL.out]; exact hj)
        obtain ⟨b5, o5, e5, _, hc5⟩ := hi5.at_ (by rw [HDL2.out]; omega)
        have h1 := hc5 (2 * j) (by rw [HDL2.out]; omega)
        have h2 := hc5 (2 * j + 1) (by rw [HDL2.out]; omega)
        obtain ⟨t1, t2⟩ := HTW.out j hj
        rw [t1] at h1
        rw [t2] at h2
        exact ⟨b4, o4, b5, o5, _, e4, e5, hc4, h1, h2⟩
      clear hi4 hi5 HTW HDL HDL2 K1 K2 hi1 hi2 hi2b hbel hbx4 hbx5 hb4 hb5 hb7
      go_wp2
      go_loopw [8] (fun i wi => ∃ j m' : Nat, j ≤ l.length ∧ i = .int .i64 j ∧ wi = w7.drewN m') (fun i _ => l.length - (intOf i).toNat)
      case atStart => exact ⟨0, 0, Nat.zero_le _, rfl, rfl⟩
      case round =>
        obtain ⟨j, m', hj, rfl, hwi⟩ := hrel
        by_cases hj2 : j < l.length
        · obtain ⟨b4, o4, b5, o5, d, rfl, rfl, q1, q2, q3⟩ := HC.out m' j hj2
          rw [← hwi] at q1 q2 q3
          have HWI := Lib.hid hwi
          have j1 : (j : Int) < ((l.length : Nat) : Int) := by omega
          have j0 : (0 : Int) ≤ (j : Int) := by omega
          have j2 : (j : Int) < 500 := by have h2 := HM9.out; omega
          have j3 : 2 * (j : Int) < 2 * ((l.length : Nat) : Int) := by omega
          have j4 : 2 * (j : Int) + 1 < 2 * ((l.length : Nat) : Int) := by omega
          have e1 : (d != d) = false := bne_self_eq_false d
          clear hwi
          go_wp2
          go_quiet (fail)
          go_wp2
          go_roundw
          case rel => first | exact ⟨j + 1, m' + nq, by omega, by go_num, by rw [HWI.out, World.drewN_drewN]⟩ | ((repeat apply Exists.intro); exact ⟨⟨j + 1, m' + nq, by omega, by go_num, by rw [HWI.out, World.drewN_drewN]⟩, rfl⟩)
          case measure => simp [intOf]; omega
        · have hj8 : j = l.length := by omega
          subst hj8
          have HWI := Lib.hid hwi
          clear hwi
          go_wp2
          go_ret
          exact ⟨rfl, by rw [HWI.out]; exact below_drewN hbx m'⟩

set_option maxHeartbeats 1600000 in
set_option maxRecDepth 20000 in
theorem sampleTwice_gt (b0 o0 N c : Nat) (l : List Nat) (w : World) (HS : SampleSpec w) (h : Ints w w.heap.size .u8 (some ⟨b0, o0, none⟩) (up l)) (hlt : ∀ b ∈ l, b < 256) (hl : l.length = 500) (hN : 500 < N) (hc : N ≤ c) :
    Calls Try.prog 8 #[.slice (some ⟨b0, o0, none⟩) N c] w fun e w' => e = .returned (.bool true) ∧ Below w.heap.size w w' := by
  obtain ⟨i0, hif, hz0, hz1, hz2⟩ := info_parts Try.infoI64s
  have HA := Lib.hid (sampleAwake HS)
  have hN2 : (500 : Int) < (N : Int) := by omega
  have hc2 : (500 : Int) ≤ (c : Int) := by omega
  go_enter Try.func8, Try.ntmps8
  go_wp2
  go_loopw [3, 4, 5] (fun v u i wr => ∃ k : Nat, k ≤ 500 ∧ i = .int .i64 k ∧ (∃ A c, v = .slice A k c) ∧ (∃ A c, u = .slice A (2 * k) c) ∧ Hid (wr.ownsRow w.heap.size 3 1 v k ((up (l.take k)).map (Value.int .i64)) ∧
      wr.ownsRow w.heap.size 3 1 u (2 * k) ((twiceL (up (l.take k))).map (Value.int .i64)) ∧ Apart v u ∧ Below w.heap.size w wr)) (fun _ _ i _ => 500 - (intOf i).toNat)
  case atStart =>
    refine ⟨0, Nat.zero_le _, rfl, ⟨_, _, rfl⟩, ⟨_, _, rfl⟩, ?_⟩
    have h1 := (World.ownsRow_made (base := w.heap.size) (e := 3) (size := 1) w #[] 0 (Nat.le_refl _) (Nat.zero_le _) rfl).alloc (.cells #[] 3)
    have h2 := World.ownsRow_made (base := w.heap.size) (e := 3) (size := 1) (w.alloc (.cells #[] 3)) #[] 0 (by simp) (Nat.zero_le _) rfl
    rw [World.size_alloc] at h2
    exact ⟨h1, h2, fun q hq hq2 => by simp [Value.ownBlock] at hq hq2; omega, ((Below.refl _ _).alloc (Nat.le_refl _) _).alloc (by simp) _⟩
  case round =>
    obtain ⟨k, hk, rfl, ⟨A1, c1, rfl⟩, ⟨A2, c2, rfl⟩, hS⟩ := hrel
    by_cases hlt3 : k < 500
    · have k1 : (k : Int) < (N : Int) := by omega
      have k2 : (k : Int) < 500 := by omega
      have k0 : (0 : Int) ≤ (k : Int) := by omega
      obtain ⟨hown, hown2, hap, hbel⟩ := hS.out
      have hlt4 : k < l.length := by rw [hl]; exact hlt3
      have k3 : (k : Int) < (c : Int) := by omega
      obtain ⟨b1, off, e9, hbl, hc9⟩ := (h.below hbel) k (by rw [up_len]; exact hlt4)
      injection e9 with e9
      injection e9 with e10 e11
      subst e10 e11
      rw [up_getD] at hc9
      have ht1 := take_snocM (fun x : Nat => Value.int .i64 (x : Int)) l hlt4
      have ht2 := take_snocM (fun x : Nat => (x : Int)) l hlt4
      have e1 : ∀ j, (up (l.take j)).map (Value.int .i64) = (l.take j).map fun x : Nat => Value.int .i64 (x : Int) := fun j => by unfold up; rw [List.map_map]; rfl
      have hx2 : l.getD k 0 < 256 := by rw [List.getD_eq_getElem?_getD, List.getElem?_eq_getElem hlt4]; exact hlt _ (List.getElem_mem hlt4)
      rw [e1] at hown
      obtain ⟨x, hx⟩ : ∃ x, x = l.getD k 0 := ⟨_, rfl⟩
      rw [← hx] at hc9 ht1 ht2 hx2
      have ht3 : twiceL (up (l.take (k + 1))) = twiceL (up (l.take k)) ++ [(x : Int), (x : Int)] := by
        have : up (l.take (k + 1)) = up (l.take k) ++ [(x : Int)] := ht2
        rw [this, twiceL_snoc]
      obtain ⟨P1, hP1⟩ : ∃ P, P = (l.take k).map fun x : Nat => Value.int .i64 (x : Int) := ⟨_, rfl⟩
      have hTWL : (twiceL (up (l.take k))).length = 2 * k := by rw [twiceL_len, up_len, List.length_take]; omega
      obtain ⟨TW, hP2⟩ : ∃ P, P = twiceL (up (l.take k)) := ⟨_, rfl⟩
      rw [← hP1] at hown ht1
      rw [← hP2] at hown2 ht3 hTWL
      have HTWL := Lib.hid hTWL
      have HT1 := Lib.hid ((e1 (k + 1)).trans ht1)
      have HT2 := Lib.hid ht3
      have x0 : (0 : Int) ≤ (x : Int) := by omega
      have x1 : (x : Int) < 256 := by omega
      clear hx ht1 ht2 ht3 e1 hP1 hP2 hTWL hS hx2 hlt4
      go_wp2_with (at_builtin; refine wpList_append_own_at _ rfl _ _ 25 rfl w.heap.size 3 i0 (.int .i64 0) 1 8 Try.underlying25 hif hz0 hz1 hz2 rfl (by decide) _ _ _ rfl (hown.alloc _) ⟨wr.heap.size, 0, none⟩ 1 1 [.int .i64 (x : Int)] rfl rfl (cell_one_new _ _ _) ?d1 ?d2 ?d3 ?d4 ?_)
      case d1 => first | rfl | (intro u hu; simp at hu; subst hu; rfl)
      case d2 => unfold maxLen; omega
      case d3 => omega
      case d4 => have := hbel.size; simp; omega
      intro v3 w3 hown3 hg3 _ hv3
      have hb3 : Below w.heap.size w w3 := (hbel.alloc hbel.size _).grown hg3 (by have := hbel.size; simp; omega) fun q hq => (hown.lt q hq).1
      have ho2 := own_kept (hown2.alloc (.cells #[.int .i64 (x : Int)] 3)) hg3 (fun q hq => hap q hq)
      have hap3 : Apart v3 (.slice A2 (2 * k) c2) := hap.grown (N := wr.heap.size + 1) (fun q hq => by have := (hown2.lt q hq).2; omega) hv3
      have hc3 := (hb3.cell (p := ⟨b0, o0 + k, none⟩) hbl).trans ((hbel.cell (p := ⟨b0, o0 + k, none⟩) hbl).symm.trans hc9)
      obtain ⟨A3, c3, rfl⟩ := own_slice hown3
      have HB3 := Lib.hid hb3
      have HO2 := Lib.hid ho2
      have HO1 := Lib.hid hown3
      have HAP := Lib.hid hap3
      have hbl3 : b0 < w3.heap.size := by have := hb3.size; omega
      have HSS : Hid (∀ W : World, Below w3.heap.size w3 W → W.cell? ⟨b0, o0 + k, none⟩ = some (.int .u8 (x : Nat))) := fun W hb => (hb.cell (p := ⟨b0, o0 + k, none⟩) hbl3).trans hc3
      have HSG : Hid (∀ W : World, Below w.heap.size w3 W → W.cell? ⟨b0, o0 + k, none⟩ = some (.int .u8 (x : Nat))) := fun W hb => (hb.cell (p := ⟨b0, o0 + k, none⟩) hbl).trans hc3
      have hxw : IntKind.i64.wrap (x : Int) = (x : Int) := by rw [IntKind.wrap_i64]; omega
      clear hown hown2 hap hbel hg3 hc9 hv3 hown3 ho2 hb3 hap3 hc3 hbl3
      go_wp2
      go_region_held3 (fun W => W.cell? ⟨b0, o0 + k, none⟩ = some (.int .u8 (x : Nat)))
        (first
          | exact HSS.out _ ((Below.refl _ _).drew)
          | exact HSS.out _ (((Below.refl _ _).alloc (Nat.le_refl _) _).drew)
          | exact HSG.out _ hb7)
        (first
          | (refine step_append_when _ (by rfl) _ _ 25 (by rfl) w.heap.size 3 i0 (.int .i64 0) 8 Try.underlying25 hif hz0 hz1 hz2 rfl .i64 (.slice A2 (2 * k) c2) TW [(x : Int), (x : Int)] (w3.heap.size + 1) 2 2 (some ⟨w3.heap.size, 0, none⟩) rfl (by rfl) (by rfl) (by rw [HTWL.out]; exact HO2.out.alloc _) (Ints.new w3 3 .i64 [(x : Int), (x : Int)] _ rfl) (fun h => by cases h) (by rw [HTWL.out]; show 2 * k + 2 ≤ maxLen; unfold maxLen; omega) (by rw [HTWL.out]; show (2 * k + 2) * 8 ≤ _; omega) (by have h8 := HB3.out.size; show w.heap.size ≤ (w3.alloc _).heap.size; simp; omega) ?_; intro v7 w7 hown7 hgr7 hv7; have hb7 : Below w.heap.size w3 w7 := ((Below.refl _ _).alloc HB3.out.size (.cells #[.int .i64 (x : Int), .int .i64 (x : Int)] 3)).grown ⟨hgr7.os, hgr7.tape, hgr7.output, hgr7.size, hgr7.block⟩ (by have h8 := HB3.out.size; simp; omega) (fun q hq => (HO2.out.lt q hq).1)))
      have R : Hid (w7.ownsRow w.heap.size 3 1 (.slice A3 (k + 1) c3) (k + 1) ((up (l.take (k + 1))).map (Value.int .i64)) ∧ w7.ownsRow w.heap.size 3 1 v7 (2 * (k + 1)) ((twiceL (up (l.take (k + 1)))).map (Value.int .i64)) ∧ Apart (.slice A3 (k + 1) c3) v7 ∧ Below w.heap.size w w7) := by
        refine ⟨?_, ?_, ?_, HB3.out.trans (hb7.mono (Nat.le_refl _))⟩
        · rw [HT1.out]
          exact own_kept (HO1.out.alloc (.cells #[.int .i64 (x : Int), .int .i64 (x : Int)] 3)) ⟨hgr7.os, hgr7.tape, hgr7.output, hgr7.size, hgr7.block⟩ (fun q hq => HAP.out.symm q hq)
        · have h := hown7
          rw [show (TW ++ [(x : Int), (x : Int)]).length = 2 * (k + 1) by rw [List.length_append, HTWL.out]; rfl] at h
          rw [HT2.out]
          exact h
        · exact (HAP.out.symm.grown (N := w3.heap.size + 1) (fun q hq => by have := (HO1.out.lt q hq).2; omega) (by
            rcases hv7 with h | h
            · exact Or.inl h
            · refine Or.inr (h.trans ?_)
              show some (w3.alloc _).heap.size = _
              simp)).symm
      obtain ⟨A4, c4, rfl⟩ := own_slice R.out.2.1
      clear hown7 hgr7 hv7 hb7 HSS HSG HO1 HO2 HAP HB3 HTWL
      go_wp2
      go_roundw
      case rel => first | exact ⟨k + 1, by omega, by go_num, ⟨A3, c3, rfl⟩, ⟨A4, c4, rfl⟩, R.out⟩ | ((repeat apply Exists.intro); exact ⟨⟨k + 1, by omega, by go_num, ⟨A3, c3, rfl⟩, ⟨A4, c4, rfl⟩, R.out⟩, rfl⟩)
      case measure => simp [intOf]; omega
    · have hk8 : k = 500 := by omega
      subst hk8
      obtain ⟨hown, hown2, _, hbel⟩ := hS.out
      clear hS
      have hLl : (up l).length = 500 := by rw [up_len]; exact hl
      have hlt9 : l.take 500 = l := List.take_of_length_le (by omega)
      rw [hlt9] at hown hown2
      have h64 : I64s (up l) := bytes_i64 hlt
      have h64b : I64s (twiceL (up l)) := fun z hz => by unfold twiceL at hz; obtain ⟨x, hx, hz⟩ := List.mem_flatMap.1 hz; simp at hz; rw [hz]; exact h64 x hx
      have hc1 := own_le hown
      have hc2 := own_le hown2
      have hi1 : Ints wr wr.heap.size .i64 A1 (up l) := Ints.of_own (n := 500) (c := c1) (by rw [hLl]; exact hown)
      have hL2 : (twiceL (up l)).length = 2 * 500 := by rw [twiceL_len, hLl]
      have hi2 : Ints wr wr.heap.size .i64 A2 (twiceL (up l)) := Ints.of_own (n := 2 * 500) (c := c2) (by rw [hL2]; exact hown2)
      obtain ⟨L, hL⟩ : ∃ L, L = up l := ⟨_, rfl⟩
      rw [← hL] at hLl h64 h64b hi1 hi2 hL2
      clear hown hown2 hlt9
      have hdl : (distL L).length = 500 := by rw [distL_len, hLl]
      have hdl2 : (distL (twiceL L)).length = 2 * 500 := by rw [distL_len, hL2]
      have H1 := HS.dist A1 c1 L
      rw [distR_le (by rw [hLl]; omega), hdl, hLl] at H1
      have H2 := HS.dist A2 c2 (twiceL L)
      rw [distR_le (by rw [hL2]; omega), hdl2, hL2] at H2
      have K1 := Lib.hid (fun (W : World) (hb : Below w.heap.size w W) (h : Ints W W.heap.size .i64 A1 L) => H1 W hb h h64 hc1 (by omega))
      have K2 := Lib.hid (fun (W : World) (hb : Below w.heap.size w W) (h : Ints W W.heap.size .i64 A2 (twiceL L)) => H2 W hb h h64b hc2 (by omega))
      have HTW : Hid (∀ j, j < 500 → (distL (twiceL L)).getD (2 * j) 0 = (distL L).getD j 0 ∧ (distL (twiceL L)).getD (2 * j + 1) 0 = 0) := fun j hj => dist_twice L (by rw [hLl]; exact hj)
      have HDL := Lib.hid hdl
      have HDL2 := Lib.hid hdl2
      have HM9 : Hid (500 ≤ 500) := by refine Lib.hid ?_; omega
      clear H1 H2 h64 h64b hLl HS hlt hdl hdl2 hc1 hc2 hL hL2
      go_wp2_with (first
        | (go_at_call 10; with_reducible (refine Calls.mono (HA.out _ hbx5) ?_); rintro e w7 ⟨rfl, hb7⟩; have hbx := chain hbx5 hb7; replace hi4 := (hi4.below hb7).more hb7.size; replace hi5 := (hi5.below hb7).more hb7.size)
        | (go_at_call 13; with_reducible (refine Calls.mono (K2.out _ hbx4 hi2b) ?_); rintro e w5 ⟨A5, c5, rfl, hc5, hi5, hb5⟩; have hbx5 := chain hbx4 hb5; replace hi4 := (hi4.below hb5).more hb5.size)
        | (go_at_call 13; with_reducible (refine Calls.mono (K1.out _ hbel hi1) ?_); rintro e w4 ⟨A4, c4, rfl, hc4, hi4, hb4⟩; have hbx4 := chain hbel hb4; have hi2b := (hi2.below hb4).more hb4.size))
      have HC : Hid (∀ m' j, j < 500 → ∃ b4 o4 b5 o5 d, A4 = some ⟨b4, o4, none⟩ ∧ A5 = some ⟨b5, o5, none⟩ ∧ (w7.drewN m').cell? ⟨b4, o4 + j, none⟩ = some (.int .i64 d) ∧ (w7.drewN m').cell? ⟨b5, o5 + 2 * j, none⟩ = some (.int .i64 d) ∧ (w7.drewN m').cell? ⟨b5, o5 + (2 * j + 1), none⟩ = some (.int .i64 0)) := fun m' j hj => by
        obtain ⟨b4, o4, e4, _, hc4⟩ := hi4 j (by rw [HDL.out]; exact hj)
        obtain ⟨b5, o5, e5, _, hc5⟩ := hi5.at_ (by rw [HDL2.out]; omega)
        have h1 := hc5 (2 * j) (by rw [HDL2.out]; omega)
        have h2 := hc5 (2 * j + 1) (by rw [HDL2.out]; omega)
        obtain ⟨t1, t2⟩ := HTW.out j hj
        rw [t1] at h1
        rw [t2] at h2
        exact ⟨b4, o4, b5, o5, _, e4, e5, hc4, h1, h2⟩
      clear hi4 hi5 HTW HDL HDL2 K1 K2 hi1 hi2 hi2b hbel hbx4 hbx5 hb4 hb5 hb7
      go_wp2
      go_loopw [8] (fun i wi => ∃ j m' : Nat, j ≤ 500 ∧ i = .int .i64 j ∧ wi = w7.drewN m') (fun i _ => 500 - (intOf i).toNat)
      case atStart => exact ⟨0, 0, Nat.zero_le _, rfl, rfl⟩
      case round =>
        obtain ⟨j, m', hj, rfl, hwi⟩ := hrel
        by_cases hj2 : j < 500
        · obtain ⟨b4, o4, b5, o5, d, rfl, rfl, q1, q2, q3⟩ := HC.out m' j hj2
          rw [← hwi] at q1 q2 q3
          have HWI := Lib.hid hwi
          have j1 : (j : Int) < ((500 : Nat) : Int) := by omega
          have j0 : (0 : Int) ≤ (j : Int) := by omega
          have j2 : (j : Int) < 500 := by have h2 := HM9.out; omega
          have j3 : 2 * (j : Int) < 2 * ((500 : Nat) : Int) := by omega
          have j4 : 2 * (j : Int) + 1 < 2 * ((500 : Nat) : Int) := by omega
          have e1 : (d != d) = false := bne_self_eq_false d
          clear hwi
          go_wp2
          go_quiet (fail)
          go_wp2
          go_roundw
          case rel => first | exact ⟨j + 1, m' + nq, by omega, by go_num, by rw [HWI.out, World.drewN_drewN]⟩ | ((repeat apply Exists.intro); exact ⟨⟨j + 1, m' + nq, by omega, by go_num, by rw [HWI.out, World.drewN_drewN]⟩, rfl⟩)
          case measure => simp [intOf]; omega
        · have hj8 : j = 500 := by omega
          subst hj8
          have HWI := Lib.hid hwi
          clear hwi
          go_wp2
          go_ret
          exact ⟨rfl, by rw [HWI.out]; exact below_drewN hbx m'⟩

/-- SampleTwice. -/
theorem sampleTwice_go (A : Option Addr) (c : Nat) (l : List Nat) (w : World) (HS : SampleSpec w) (h : Ints w w.heap.size .u8 A (up l)) (hlt : ∀ b ∈ l, b < 256) (hc : l.length ≤ c) :
    Calls Try.prog 8 #[.slice A l.length c] w fun e w' => e = .returned (.bool true) ∧ Below w.heap.size w w' := by
  by_cases hN : l.length ≤ 500
  · exact sampleTwice_le A c l w HS h hlt hN
  · obtain ⟨b0, o0, rfl, _⟩ := h.at_ (by rw [up_len]; omega)
    have h2 : Ints w w.heap.size .u8 (some ⟨b0, o0, none⟩) (up (l.take 500)) := by
      have := h.take 500
      rwa [show (up l).take 500 = up (l.take 500) by simp [up]] at this
    exact sampleTwice_gt b0 o0 l.length c (l.take 500) w HS h2 (fun b hb => hlt b (List.mem_of_mem_take hb)) (by rw [List.length_take]; omega) (by omega) hc

end Go.Proofs.Ytphejkcdddkfnaa
