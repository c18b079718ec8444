/-
  CurveGoes.
-/
import Derived.Test.YtoedapeookkodaaCurveParts
import Derived.Test.YtoedapeookkodaaArrs
namespace Go.Proofs.Ytoedapeookkodaa
open Go.RowKit

theorem take_snocC {α : Type} (f : Nat → α) (l : List Nat) {k : Nat} (h : k < l.length) : (l.take (k + 1)).map f = (l.take k).map f ++ [f (l.getD k 0)] := by
  have : l.take (k + 1) = l.take k ++ [l.getD k 0] := by rw [List.take_add_one, List.getElem?_eq_getElem h, List.getD_eq_getElem?_getD, List.getElem?_eq_getElem h]; rfl
  rw [this, List.map_append]; rfl
theorem up_i64 {l : List Nat} (hl : ∀ b ∈ l, b < 65536) : ∀ z ∈ up l, 0 ≤ z ∧ z ≤ 65535 := fun z hz => by
  unfold up at hz
  obtain ⟨x, hx, rfl⟩ := List.mem_map.1 hz
  have := hl x hx
  omega

set_option maxHeartbeats 1600000 in
set_option maxRecDepth 20000 in
theorem curveGoes_le (A : Option Addr) (c : Nat) (l : List Nat) (T : Nat) (w : World) (HS : CurveSpec w) (h : Ints w w.heap.size .u16 A (up l)) (hlt : ∀ b ∈ l, b < 65536) (hT : T < 65536) (hN : l.length ≤ 300) :
    Calls Try.prog 9 #[.slice A l.length c, .int .u16 (T : Int)] w fun e w' => e = .returned (.bool true) ∧ Below w.heap.size w w' := by
  obtain ⟨i0, hif, hz0, hz1, hz2⟩ := info_parts Try.infoI64c
  have HA := Lib.hid (curveAwake HS)
  have hN2 : (l.length : Int) ≤ 300 := by omega
  go_enter Try.func9, Try.ntmps9
  go_wp2
  go_loopw [5, 6, 7] (fun v s i wr => ∃ k : Nat, k ≤ l.length ∧ i = .int .i64 k ∧ s = .int .i64 (sumK (up l) k) ∧ (∃ A c, v = .slice A k c) ∧ Hid (wr.ownsRow w.heap.size 3 1 v k ((up (l.take k)).map (Value.int .i64)) ∧ Below w.heap.size w wr)) (fun _ _ i _ => l.length - (intOf i).toNat)
  case atStart => exact ⟨0, Nat.zero_le _, rfl, rfl, ⟨_, _, rfl⟩, World.ownsRow_made (base := w.heap.size) (e := 3) (size := 1) w #[] 0 (Nat.le_refl _) (Nat.zero_le _) rfl, (Below.refl _ _).alloc (Nat.le_refl _) _⟩
  case round =>
    obtain ⟨k, hk, rfl, rfl, ⟨A1, c1, rfl⟩, hS⟩ := hrel
    by_cases hlt3 : k < l.length
    · have k1 : (k : Int) < (l.length : Int) := by omega
      have k2 : (k : Int) < 300 := by omega
      have k0 : (0 : Int) ≤ (k : Int) := by omega
      obtain ⟨hown, hbel⟩ := hS.out
      obtain ⟨b1, off, rfl, hbl, hc9⟩ := (h.below hbel) k (by rw [up_len]; exact hlt3)
      rw [up_getD] at hc9
      have ht1 := take_snocC (fun x : Nat => Value.int .i64 (x : Int)) l hlt3
      have e1 : ∀ j, (up (l.take j)).map (Value.int .i64) = (l.take j).map fun x : Nat => Value.int .i64 (x : Int) := fun j => by unfold up; rw [List.map_map]; rfl
      have hx2 : l.getD k 0 < 65536 := by rw [List.getD_eq_getElem?_getD, List.getElem?_eq_getElem hlt3]; exact hlt _ (List.getElem_mem hlt3)
      have hsum := sumK_succ (up l) (k := k) (by rw [up_len]; exact hlt3)
      rw [up_getD] at hsum
      have hsb := sumK_bounds (l := up l) (fun z hz => by have := up_i64 hlt z hz; omega) k (by rw [up_len]; omega)
      rw [e1] at hown
      obtain ⟨x, hx⟩ : ∃ x, x = l.getD k 0 := ⟨_, rfl⟩
      rw [← hx] at hc9 ht1 hx2 hsum
      obtain ⟨P1, hP1⟩ : ∃ P, P = (l.take k).map fun x : Nat => Value.int .i64 (x : Int) := ⟨_, rfl⟩
      rw [← hP1] at hown ht1
      have HT1 := Lib.hid ((e1 (k + 1)).trans ht1)
      have x0 : (0 : Int) ≤ (x : Int) := by omega
      have x1 : (x : Int) < 65536 := by omega
      obtain ⟨S, hSe⟩ : ∃ S, S = sumK (up l) k := ⟨_, rfl⟩
      rw [← hSe] at hsum hsb ⊢
      have s0 : (0 : Int) ≤ S := hsb.1
      have s1 : S ≤ 4294967296 := by omega
      have HSU := Lib.hid hsum
      clear hSe
      clear hx ht1 e1 hP1 hS hx2 hsum hsb
      go_wp2_with (at_builtin; refine wpList_append_own_at _ rfl _ _ 22 rfl w.heap.size 3 i0 (.int .i64 0) 1 8 Try.underlying22 hif hz0 hz1 hz2 rfl (by decide) _ _ _ rfl (hown.alloc _) ⟨wr.heap.size, 0, none⟩ 1 1 [.int .i64 (x : Int)] rfl rfl (cell_one_new _ _ _) ?d1 ?d2 ?d3 ?d4 ?_)
      case d1 => first | rfl | (intro u hu; simp at hu; subst hu; rfl)
      case d2 => unfold maxLen; omega
      case d3 => omega
      case d4 => have := hbel.size; simp; omega
      intro v3 w3 hown3 hg3 _ _
      have hb3 : Below w.heap.size w w3 := (hbel.alloc hbel.size _).grown hg3 (by have := hbel.size; simp; omega) fun q hq => (hown.lt q hq).1
      have hc3 := (hb3.cell (p := ⟨b1, off + k, none⟩) hbl).trans ((hbel.cell (p := ⟨b1, off + k, none⟩) hbl).symm.trans hc9)
      obtain ⟨A3, c3, rfl⟩ := own_slice hown3
      rw [← HT1.out] at hown3
      have R := Lib.hid (And.intro hown3 hb3)
      clear hown hbel hg3 hc9 hown3 hb3
      go_wp2
      go_roundw
      case rel => first | exact ⟨k + 1, by omega, by go_num, by rw [HSU.out], ⟨A3, c3, rfl⟩, R.out⟩ | ((repeat apply Exists.intro); exact ⟨⟨k + 1, by omega, by go_num, by rw [HSU.out], ⟨A3, c3, rfl⟩, R.out⟩, rfl⟩)
      case measure => simp [intOf]; omega
    · have hk8 : k = l.length := by omega
      subst hk8
      have hm9 : l.length ≤ 300 := hN
      obtain ⟨hown, hbel⟩ := hS.out
      clear hS
      have hLl : (up l).length = l.length := by rw [up_len]
      have hlt9 : l.take l.length = l := List.take_length
      rw [hlt9] at hown
      have hub := up_i64 hlt
      have hbad : ofBad (up l) (T : Int) = false := ofBad_good (by omega) (by omega) (by omega) (fun z hz => by have := hub z hz; omega)
      have h64 : ∀ z ∈ up l, -9223372036854775808 ≤ z ∧ z ≤ 9223372036854775807 := fun z hz => by have := hub z hz; omega
      have hc1 := own_le hown
      have hi1 : Ints wr wr.heap.size .i64 A1 (up l) := Ints.of_own (n := l.length) (c := c1) (by rw [hLl]; exact hown)
      have eR : ofR (up l) (T : Int) = (0, ofL (up l) (T : Int)) := by unfold ofR; rw [hbad]; rfl
      have hlen := ofL_len (up l) (T : Int)
      rw [hLl] at hlen
      have h64b : ∀ z ∈ ofL (up l) (T : Int), -9223372036854775808 ≤ z ∧ z ≤ 9223372036854775807 := fun z hz => by
        unfold ofL at hz
        obtain ⟨i, hi, rfl⟩ := List.mem_map.1 hz
        have := ofL_i64 hbad (i := i) (by have := List.mem_range.1 hi; omega)
        omega
      have HO := HS.makes A1 c1 (up l) (T : Int)
      rw [eR] at HO
      simp only [hlen] at HO
      rw [hLl] at HO
      have HO' := Lib.hid (fun (W : World) (hb : Below w.heap.size w W) (hi : Ints W W.heap.size .i64 A1 (up l)) => HO W hb hi h64 hc1 (by omega) ⟨by omega, by omega⟩)
      have hat : ∀ i : Nat, i ≤ l.length → (ofL (up l) (T : Int)).getD i 0 = sumK (up l) i * (T : Int) := fun i hi => ofL_at _ _ (by rw [hLl]; exact hi)
      have HAT : Hid (∀ (W : World) (A2 : Option Addr) (c2 : Nat) (z : Int), Below w.heap.size w W → Ints W W.heap.size .i64 A2 (ofL (up l) (T : Int)) → l.length + 1 ≤ c2 → 0 ≤ z ∧ z ≤ 4096 →
          Calls Try.prog 22 #[.slice A2 (l.length + 1) c2, .int .i64 z] W fun e w' => e = .returned (.int .i64 (atN (ofL (up l) (T : Int)) z)) ∧ Below W.heap.size W w') := fun W A2 c2 z hb hi hc hz => by
        have h9 := HS.at_ A2 c2 (ofL (up l) (T : Int)) z W hb hi h64b (by rw [hlen]; exact hc) (by rw [hlen]; omega) ⟨by omega, by omega⟩
        rw [hlen] at h9
        exact h9
      have hAN : ∀ i : Nat, i ≤ l.length → atN (ofL (up l) (T : Int)) (i : Int) = sumK (up l) i * (T : Int) := fun i hi => by
        unfold atN
        rw [hlen, if_neg (by omega), if_neg (by omega), Int.toNat_natCast, hat i hi]
      have hANE : atN (ofL (up l) (T : Int)) ((l.length : Nat) + 1 + 5) = sumK (up l) l.length * (T : Int) := by
        unfold atN
        rw [hlen, if_neg (by omega), if_pos (by omega), Nat.add_sub_cancel, hat _ (Nat.le_refl _)]
      have hST : ∀ i : Nat, i < l.length → sumK (up l) (i + 1) * (T : Int) - sumK (up l) i * (T : Int) = (T : Int) * (up l).getD i 0 := fun i hi => by
        rw [sumK_succ (up l) (by rw [hLl]; exact hi), Int.add_mul, Int.mul_comm ((up l).getD i 0)]
        omega
      have hSB : ∀ i : Nat, i ≤ l.length → 0 ≤ sumK (up l) i * (T : Int) ∧ sumK (up l) i * (T : Int) ≤ 4503599627370496 := fun i hi => ofL_i64 hbad (by rw [hLl]; exact hi)
      obtain ⟨L, hL⟩ : ∃ L, L = ofL (up l) (T : Int) := ⟨_, rfl⟩
      obtain ⟨U, hU⟩ : ∃ L, L = up l := ⟨_, rfl⟩
      simp only [← hL] at HO' HAT hlen hat hAN hANE
      simp only [← hU] at HO' hat hAN hANE hST hSB hi1 hLl
      rw [← hU]
      obtain ⟨G, hG⟩ : ∃ G : Nat → Int, G = fun i => sumK U i * (T : Int) := ⟨_, rfl⟩
      have hGG : ∀ i, sumK U i * (T : Int) = G i := fun i => by rw [hG]
      have hG0 : G 0 = 0 := by rw [hG]; simp [sumK]
      simp only [hGG] at hat hAN hANE hST hSB
      have hSE := hGG l.length
      have HAN := Lib.hid hAN
      have HANE := Lib.hid hANE
      have HST := Lib.hid hST
      have HSB := Lib.hid hSB
      have HIA := Lib.hid hat
      have HLE := Lib.hid hlen
      have HLU := Lib.hid hLl
      have HUI := Lib.hid hi1
      have hm300 : Hid (l.length ≤ 300) := by refine Lib.hid ?_; omega
      clear HS HO h64 h64b eR hbad hub hlt9 hown hLl hlen hat hAN hANE hST hSB hL hU hG hGG hc1 hlt
      obtain ⟨S, hSs⟩ : ∃ S, S = sumK U l.length := ⟨_, rfl⟩
      rw [← hSs] at hSE ⊢
      clear hSs
      go_wp2_with (first
        | (go_at_call 10; with_reducible (refine Calls.mono (HO'.out _ hbel hi1) ?_); rintro e w4 ⟨A4, c4, rfl, hc4, hi4, hb4⟩; have hx4 := chain hbel hb4)
        | (go_at_call 12; with_reducible (refine Calls.mono (HA.out _ hx4) ?_); rintro e w5 ⟨rfl, hb5⟩; have hx5 := chain hx4 hb5; have hi5 := (hi4.below hb5).more hb5.size; obtain ⟨bq, oq, rfl, hbq, hcq⟩ := hi5.at_ (by rw [HLE.out]; omega); have hz5 := hcq 0 (by rw [HLE.out]; omega); rw [HIA.out 0 (Nat.zero_le _), hG0, Nat.add_zero] at hz5))
      have HI5 := Lib.hid hi5
      have HX5 := Lib.hid hx5
      have HU5 : Hid (Ints w5 w5.heap.size .i64 A1 U) := ((((HUI.out.below hb4).more hb4.size).below hb5).more hb5.size)
      have HCQ : Hid (∀ (W : World) (i : Nat), Below w5.heap.size w5 W → i ≤ l.length → W.cell? ⟨bq, oq + i, none⟩ = some (.int .i64 (G i))) := fun W i hb hi => by
        rw [← HIA.out i hi]
        exact (hb.cell (p := ⟨bq, oq + i, none⟩) hbq).trans (hcq i (by rw [HLE.out]; omega))
      have hb0w : Below w5.heap.size w5 w5 := Below.refl _ _
      clear hi4 hi5 hi1 hb4 hb5 hx4 hx5 hbel hz5 hcq hbq
      go_wp2
      go_loopw [10] (fun i wi => ∃ j : Nat, j ≤ l.length ∧ i = .int .i64 j ∧ Hid (Below w5.heap.size w5 wi)) (fun i _ => l.length - (intOf i).toNat)
      case atStart => exact ⟨0, Nat.zero_le _, rfl, hb0w⟩
      case round =>
        obtain ⟨j, hj, rfl, hBJ⟩ := hrel
        by_cases hj2 : j < l.length
        · obtain ⟨b1, o1, eA, hb1l, hc1l⟩ := (HU5.out.below hBJ.out) j (by rw [HLU.out]; exact hj2)
          subst eA
          have q0 := HCQ.out wr j hBJ.out (by omega)
          have q1 := HCQ.out wr (j + 1) hBJ.out (by omega)
          have hst := HST.out j hj2
          have g0 := HSB.out j (by omega)
          have g1 := HSB.out (j + 1) (by omega)
          have j1 : (j : Int) < ((l.length : Nat) : Int) := by omega
          have j0 : (0 : Int) ≤ (j : Int) := by omega
          have j2 : (j : Int) < 300 := by have h2 := hm300.out; omega
          have j3 : (j : Int) + 1 < ((l.length : Nat) : Int) + 1 := by omega
          have j4 : (j : Int) + 1 < ((l.length + 1 : Nat) : Int) := by omega
          have j5 : (j : Int) < ((l.length + 1 : Nat) : Int) := by omega
          have j6 : (j : Int) < ((l.length : Nat) : Int) + 1 := by omega
          have j7 : (0 : Int) ≤ (j : Int) + 1 := by omega
          have j8 : (j : Int) + 1 < 301 := by omega
          have j9 : (j : Int) < 301 := by omega
          have HAJ := Lib.hid (fun (W : World) (hb : Below w5.heap.size w5 W) (c9 : l.length + 1 ≤ c4) => HAT.out W (some ⟨bq, oq, none⟩) c4 (j : Int) (HX5.out.trans (hb.mono HX5.out.size)) ((HI5.out.below hb).more hb.size) c9 ⟨j0, by omega⟩)
          have haj := HAN.out j (by omega)
          rw [haj] at HAJ
          obtain ⟨X, hX⟩ : ∃ X, X = G (j + 1) := ⟨_, rfl⟩
          obtain ⟨Y, hY⟩ : ∃ X, X = G j := ⟨_, rfl⟩
          obtain ⟨Z, hZ⟩ : ∃ X, X = U.getD j 0 := ⟨_, rfl⟩
          rw [← hX] at q1 hst g1
          rw [← hY] at q0 hst g0 HAJ
          rw [← hZ] at hst hc1l
          obtain ⟨P, hP⟩ : ∃ P, P = (T : Int) * Z := ⟨_, rfl⟩
          rw [← hP] at hst
          have w1 : IntKind.i64.wrap ((j : Int) + 1) = (j : Int) + 1 := by rw [IntKind.wrap_i64]; omega
          have w2 : IntKind.i64.wrap (X - Y) = P := by rw [IntKind.wrap_i64, hst]; omega
          have w3 : IntKind.i64.wrap ((T : Int) * Z) = P := by rw [IntKind.wrap_i64, ← hP]; omega
          have w4' : IntKind.i64.wrap (T : Int) = (T : Int) := by rw [IntKind.wrap_i64]; omega
          have HSS : Hid (∀ W : World, Below wr.heap.size wr W → (W.cell? ⟨bq, oq + (j + 1), none⟩ = some (.int .i64 X) ∧ W.cell? ⟨bq, oq + j, none⟩ = some (.int .i64 Y) ∧ W.cell? ⟨b1, o1 + j, none⟩ = some (.int .i64 Z))) := fun W hb => by
            have hq : bq < wr.heap.size := by
              have h1 := (HI5.out.at_ (by rw [HLE.out]; omega)).choose_spec.choose_spec
              obtain ⟨e9, h9, _⟩ := h1
              injection e9 with e9
              injection e9 with e10 _
              have := hBJ.out.size
              omega
            exact ⟨(hb.cell (p := ⟨bq, oq + (j + 1), none⟩) hq).trans q1, (hb.cell (p := ⟨bq, oq + j, none⟩) hq).trans q0, (hb.cell (p := ⟨b1, o1 + j, none⟩) (by have := hBJ.out.size; simp only []; omega)).trans hc1l⟩
          have HSG0 : ∀ W : World, Below w5.heap.size w5 W → W.cell? ⟨bq, oq + (j + 1), none⟩ = some (.int .i64 X) ∧ W.cell? ⟨bq, oq + j, none⟩ = some (.int .i64 Y) ∧ W.cell? ⟨b1, o1 + j, none⟩ = some (.int .i64 Z) := fun W hb =>
            ⟨by rw [hX]; exact HCQ.out W (j + 1) hb (by omega), by rw [hY]; exact HCQ.out W j hb (by omega), (hb.cell (p := ⟨b1, o1 + j, none⟩) hb1l).trans ((hBJ.out.cell (p := ⟨b1, o1 + j, none⟩) hb1l).symm.trans hc1l)⟩
          have hbx := hBJ.out
          clear hX hY hZ hP hst g0 g1 haj q0 q1 hc1l
          have HBJ := Lib.hid hbx
          have HSG : Hid (∀ W : World, Below w5.heap.size w5 W → W.cell? ⟨bq, oq + (j + 1), none⟩ = some (.int .i64 X) ∧ W.cell? ⟨bq, oq + j, none⟩ = some (.int .i64 Y) ∧ W.cell? ⟨b1, o1 + j, none⟩ = some (.int .i64 Z)) := HSG0
          clear hbx HSS HCQ HST HSB HAN HIA HSG0
          go_wp2
          go_region_held3 (fun W => W.cell? ⟨bq, oq + (j + 1), none⟩ = some (.int .i64 X) ∧ W.cell? ⟨bq, oq + j, none⟩ = some (.int .i64 Y) ∧ W.cell? ⟨b1, o1 + j, none⟩ = some (.int .i64 Z))
            (first
              | exact HSG.out _ HBJ.out.drew
              | exact HSG.out _ hbz)
            (first
              | (go_at_call 22; with_reducible (refine Calls.mono (HAJ.out _ HBJ.out.drew hc4) ?_); rintro e wz ⟨rfl, hbz0⟩; have hbz := HBJ.out.drew.trans (hbz0.mono HBJ.out.drew.size)))
          go_wp2
          go_roundw
          case rel => first | exact ⟨j + 1, by omega, by go_num, hbz⟩ | ((repeat apply Exists.intro); exact ⟨⟨j + 1, by omega, by go_num, hbz⟩, rfl⟩)
          case measure => simp [intOf]; omega
        · have hj8 : j = l.length := by omega
          subst hj8
          have HAL := Lib.hid (fun (W : World) (hb : Below w5.heap.size w5 W) (c9 : l.length + 1 ≤ c4) => HAT.out W (some ⟨bq, oq, none⟩) c4 (((l.length : Nat) : Int) + 1 + 5) (HX5.out.trans (hb.mono HX5.out.size)) ((HI5.out.below hb).more hb.size) c9 ⟨by omega, by have := hm300.out; omega⟩)
          have hane := HANE.out
          rw [hane] at HAL
          have gm := HSB.out l.length (Nat.le_refl _)
          obtain ⟨V, hV⟩ : ∃ V, V = G l.length := ⟨_, rfl⟩
          rw [← hV] at HAL gm hSE
          have v0 : (0 : Int) ≤ V := gm.1
          have v1 : V ≤ 4503599627370496 := gm.2
          have HBJ := Lib.hid (HX5.out.trans (hBJ.out.mono HX5.out.size))
          have HBK := hBJ
          have m3 := hm300.out
          clear hV gm hane HCQ HST HSB HAN HANE HIA hBJ
          go_wp2_with (go_at_call 22; with_reducible (refine Calls.mono (HAL.out _ HBK.out hc4) ?_); rintro e wz ⟨rfl, hbz⟩; have hbf := HBJ.out.trans (hbz.mono HBJ.out.size))
          go_ret
          exact ⟨rfl, hbf⟩

set_option maxHeartbeats 1600000 in
set_option maxRecDepth 20000 in
theorem curveGoes_gt (b0 o0 N c : Nat) (l : List Nat) (T : Nat) (w : World) (HS : CurveSpec w) (h : Ints w w.heap.size .u16 (some ⟨b0, o0, none⟩) (up l)) (hlt : ∀ b ∈ l, b < 65536) (hT : T < 65536) (hl : l.length = 300) (hN : 300 < N) (hc : N ≤ c) :
    Calls Try.prog 9 #[.slice (some ⟨b0, o0, none⟩) N c, .int .u16 (T : Int)] w fun e w' => e = .returned (.bool true) ∧ Below w.heap.size w w' := by
  obtain ⟨i0, hif, hz0, hz1, hz2⟩ := info_parts Try.infoI64c
  have HA := Lib.hid (curveAwake HS)
  have hN2 : (300 : Int) < (N : Int) := by omega
  have hc2 : (300 : Int) ≤ (c : Int) := by omega
  go_enter Try.func9, Try.ntmps9
  go_wp2
  go_loopw [5, 6, 7] (fun v s i wr => ∃ k : Nat, k ≤ 300 ∧ i = .int .i64 k ∧ s = .int .i64 (sumK (up l) k) ∧ (∃ A c, v = .slice A k c) ∧ Hid (wr.ownsRow w.heap.size 3 1 v k ((up (l.take k)).map (Value.int .i64)) ∧ Below w.heap.size w wr)) (fun _ _ i _ => 300 - (intOf i).toNat)
  case atStart => exact ⟨0, Nat.zero_le _, rfl, rfl, ⟨_, _, rfl⟩, World.ownsRow_made (base := w.heap.size) (e := 3) (size := 1) w #[] 0 (Nat.le_refl _) (Nat.zero_le _) rfl, (Below.refl _ _).alloc (Nat.le_refl _) _⟩
  case round =>
    obtain ⟨k, hk, rfl, rfl, ⟨A1, c1, rfl⟩, hS⟩ := hrel
    by_cases hlt3 : k < 300
    · have k1 : (k : Int) < (N : Int) := by omega
      have k2 : (k : Int) < 300 := by omega
      have k0 : (0 : Int) ≤ (k : Int) := by omega
      obtain ⟨hown, hbel⟩ := hS.out
      have hlt4 : k < l.length := by rw [hl]; exact hlt3
      have k3 : (k : Int) < (c : Int) := by omega
      obtain ⟨b1, off, e9, hbl, hc9⟩ := (h.below hbel) k (by rw [up_len]; exact hlt4)
      injection e9 with e9
      injection e9 with e10 e11
      subst e10 e11
      rw [up_getD] at hc9
      have ht1 := take_snocC (fun x : Nat => Value.int .i64 (x : Int)) l hlt4
      have e1 : ∀ j, (up (l.take j)).map (Value.int .i64) = (l.take j).map fun x : Nat => Value.int .i64 (x : Int) := fun j => by unfold up; rw [List.map_map]; rfl
      have hx2 : l.getD k 0 < 65536 := by rw [List.getD_eq_getElem?_getD, List.getElem?_eq_getElem hlt4]; exact hlt _ (List.getElem_mem hlt4)
      have hsum := sumK_succ (up l) (k := k) (by rw [up_len]; exact hlt4)
      rw [up_getD] at hsum
      have hsb := sumK_bounds (l := up l) (fun z hz => by have := up_i64 hlt z hz; omega) k (by rw [up_len]; omega)
      rw [e1] at hown
      obtain ⟨x, hx⟩ : ∃ x, x = l.getD k 0 := ⟨_, rfl⟩
      rw [← hx] at hc9 ht1 hx2 hsum
      obtain ⟨P1, hP1⟩ : ∃ P, P = (l.take k).map fun x : Nat => Value.int .i64 (x : Int) := ⟨_, rfl⟩
      rw [← hP1] at hown ht1
      have HT1 := Lib.hid ((e1 (k + 1)).trans ht1)
      have x0 : (0 : Int) ≤ (x : Int) := by omega
      have x1 : (x : Int) < 65536 := by omega
      obtain ⟨S, hSe⟩ : ∃ S, S = sumK (up l) k := ⟨_, rfl⟩
      rw [← hSe] at hsum hsb ⊢
      have s0 : (0 : Int) ≤ S := hsb.1
      have s1 : S ≤ 4294967296 := by omega
      have HSU := Lib.hid hsum
      clear hSe
      clear hx ht1 e1 hP1 hS hx2 hsum hsb hlt4
      go_wp2_with (at_builtin; refine wpList_append_own_at _ rfl _ _ 22 rfl w.heap.size 3 i0 (.int .i64 0) 1 8 Try.underlying22 hif hz0 hz1 hz2 rfl (by decide) _ _ _ rfl (hown.alloc _) ⟨wr.heap.size, 0, none⟩ 1 1 [.int .i64 (x : Int)] rfl rfl (cell_one_new _ _ _) ?d1 ?d2 ?d3 ?d4 ?_)
      case d1 => first | rfl | (intro u hu; simp at hu; subst hu; rfl)
      case d2 => unfold maxLen; omega
      case d3 => omega
      case d4 => have := hbel.size; simp; omega
      intro v3 w3 hown3 hg3 _ _
      have hb3 : Below w.heap.size w w3 := (hbel.alloc hbel.size _).grown hg3 (by have := hbel.size; simp; omega) fun q hq => (hown.lt q hq).1
      have hc3 := (hb3.cell (p := ⟨b0, o0 + k, none⟩) hbl).trans ((hbel.cell (p := ⟨b0, o0 + k, none⟩) hbl).symm.trans hc9)
      obtain ⟨A3, c3, rfl⟩ := own_slice hown3
      rw [← HT1.out] at hown3
      have R := Lib.hid (And.intro hown3 hb3)
      clear hown hbel hg3 hc9 hown3 hb3
      go_wp2
      go_roundw
      case rel => first | exact ⟨k + 1, by omega, by go_num, by rw [HSU.out], ⟨A3, c3, rfl⟩, R.out⟩ | ((repeat apply Exists.intro); exact ⟨⟨k + 1, by omega, by go_num, by rw [HSU.out], ⟨A3, c3, rfl⟩, R.out⟩, rfl⟩)
      case measure => simp [intOf]; omega
    · have hk8 : k = 300 := by omega
      subst hk8
      obtain ⟨hown, hbel⟩ := hS.out
      clear hS
      have hLl : (up l).length = 300 := by rw [up_len]; exact hl
      have hlt9 : l.take 300 = l := List.take_of_length_le (by omega)
      rw [hlt9] at hown
      have hub := up_i64 hlt
      have hbad : ofBad (up l) (T : Int) = false := ofBad_good (by omega) (by omega) (by omega) (fun z hz => by have := hub z hz; omega)
      have h64 : ∀ z ∈ up l, -9223372036854775808 ≤ z ∧ z ≤ 9223372036854775807 := fun z hz => by have := hub z hz; omega
      have hc1 := own_le hown
      have hi1 : Ints wr wr.heap.size .i64 A1 (up l) := Ints.of_own (n := 300) (c := c1) (by rw [hLl]; exact hown)
      have eR : ofR (up l) (T : Int) = (0, ofL (up l) (T : Int)) := by unfold ofR; rw [hbad]; rfl
      have hlen := ofL_len (up l) (T : Int)
      rw [hLl] at hlen
      have h64b : ∀ z ∈ ofL (up l) (T : Int), -9223372036854775808 ≤ z ∧ z ≤ 9223372036854775807 := fun z hz => by
        unfold ofL at hz
        obtain ⟨i, hi, rfl⟩ := List.mem_map.1 hz
        have := ofL_i64 hbad (i := i) (by have := List.mem_range.1 hi; omega)
        omega
      have HO := HS.makes A1 c1 (up l) (T : Int)
      rw [eR] at HO
      simp only [hlen] at HO
      rw [hLl] at HO
      have HO' := Lib.hid (fun (W : World) (hb : Below w.heap.size w W) (hi : Ints W W.heap.size .i64 A1 (up l)) => HO W hb hi h64 hc1 (by omega) ⟨by omega, by omega⟩)
      have hat : ∀ i : Nat, i ≤ 300 → (ofL (up l) (T : Int)).getD i 0 = sumK (up l) i * (T : Int) := fun i hi => ofL_at _ _ (by rw [hLl]; exact hi)
      have HAT : Hid (∀ (W : World) (A2 : Option Addr) (c2 : Nat) (z : Int), Below w.heap.size w W → Ints W W.heap.size .i64 A2 (ofL (up l) (T : Int)) → 300 + 1 ≤ c2 → 0 ≤ z ∧ z ≤ 4096 →
          Calls Try.prog 22 #[.slice A2 (300 + 1) c2, .int .i64 z] W fun e w' => e = .returned (.int .i64 (atN (ofL (up l) (T : Int)) z)) ∧ Below W.heap.size W w') := fun W A2 c2 z hb hi hc hz => by
        have h9 := HS.at_ A2 c2 (ofL (up l) (T : Int)) z W hb hi h64b (by rw [hlen]; exact hc) (by rw [hlen]; omega) ⟨by omega, by omega⟩
        rw [hlen] at h9
        exact h9
      have hAN : ∀ i : Nat, i ≤ 300 → atN (ofL (up l) (T : Int)) (i : Int) = sumK (up l) i * (T : Int) := fun i hi => by
        unfold atN
        rw [hlen, if_neg (by omega), if_neg (by omega), Int.toNat_natCast, hat i hi]
      have hANE : atN (ofL (up l) (T : Int)) ((300 : Nat) + 1 + 5) = sumK (up l) 300 * (T : Int) := by
        unfold atN
        rw [hlen, if_neg (by omega), if_pos (by omega), Nat.add_sub_cancel, hat _ (Nat.le_refl _)]
      have hST : ∀ i : Nat, i < 300 → sumK (up l) (i + 1) * (T : Int) - sumK (up l) i * (T : Int) = (T : Int) * (up l).getD i 0 := fun i hi => by
        rw [sumK_succ (up l) (by rw [hLl]; exact hi), Int.add_mul, Int.mul_comm ((up l).getD i 0)]
        omega
      have hSB : ∀ i : Nat, i ≤ 300 → 0 ≤ sumK (up l) i * (T : Int) ∧ sumK (up l) i * (T : Int) ≤ 4503599627370496 := fun i hi => ofL_i64 hbad (by rw [hLl]; exact hi)
      obtain ⟨L, hL⟩ : ∃ L, L = ofL (up l) (T : Int) := ⟨_, rfl⟩
      obtain ⟨U, hU⟩ : ∃ L, L = up l := ⟨_, rfl⟩
      simp only [← hL] at HO' HAT hlen hat hAN hANE
      simp only [← hU] at HO' hat hAN hANE hST hSB hi1 hLl
      rw [← hU]
      obtain ⟨G, hG⟩ : ∃ G : Nat → Int, G = fun i => sumK U i * (T : Int) := ⟨_, rfl⟩
      have hGG : ∀ i, sumK U i * (T : Int) = G i := fun i => by rw [hG]
      have hG0 : G 0 = 0 := by rw [hG]; simp [sumK]
      simp only [hGG] at hat hAN hANE hST hSB
      have hSE := hGG 300
      have HAN := Lib.hid hAN
      have HANE := Lib.hid hANE
      have HST := Lib.hid hST
      have HSB := Lib.hid hSB
      have HIA := Lib.hid hat
      have HLE := Lib.hid hlen
      have HLU := Lib.hid hLl
      have HUI := Lib.hid hi1
      have hm300 : Hid (300 ≤ 300) := by refine Lib.hid ?_; omega
      clear HS HO h64 h64b eR hbad hub hlt9 hown hLl hlen hat hAN hANE hST hSB hL hU hG hGG hc1 hlt
      obtain ⟨S, hSs⟩ : ∃ S, S = sumK U 300 := ⟨_, rfl⟩
      rw [← hSs] at hSE ⊢
      clear hSs
      go_wp2_with (first
        | (go_at_call 10; with_reducible (refine Calls.mono (HO'.out _ hbel hi1) ?_); rintro e w4 ⟨A4, c4, rfl, hc4, hi4, hb4⟩; have hx4 := chain hbel hb4)
        | (go_at_call 12; with_reducible (refine Calls.mono (HA.out _ hx4) ?_); rintro e w5 ⟨rfl, hb5⟩; have hx5 := chain hx4 hb5; have hi5 := (hi4.below hb5).more hb5.size; obtain ⟨bq, oq, rfl, hbq, hcq⟩ := hi5.at_ (by rw [HLE.out]; omega); have hz5 := hcq 0 (by rw [HLE.out]; omega); rw [HIA.out 0 (Nat.zero_le _), hG0, Nat.add_zero] at hz5))
      have HI5 := Lib.hid hi5
      have HX5 := Lib.hid hx5
      have HU5 : Hid (Ints w5 w5.heap.size .i64 A1 U) := ((((HUI.out.below hb4).more hb4.size).below hb5).more hb5.size)
      have HCQ : Hid (∀ (W : World) (i : Nat), Below w5.heap.size w5 W → i ≤ 300 → W.cell? ⟨bq, oq + i, none⟩ = some (.int .i64 (G i))) := fun W i hb hi => by
        rw [← HIA.out i hi]
        exact (hb.cell (p := ⟨bq, oq + i, none⟩) hbq).trans (hcq i (by rw [HLE.out]; omega))
      have hb0w : Below w5.heap.size w5 w5 := Below.refl _ _
      clear hi4 hi5 hi1 hb4 hb5 hx4 hx5 hbel hz5 hcq hbq
      go_wp2
      go_loopw [10] (fun i wi => ∃ j : Nat, j ≤ 300 ∧ i = .int .i64 j ∧ Hid (Below w5.heap.size w5 wi)) (fun i _ => 300 - (intOf i).toNat)
      case atStart => exact ⟨0, Nat.zero_le _, rfl, hb0w⟩
      case round =>
        obtain ⟨j, hj, rfl, hBJ⟩ := hrel
        by_cases hj2 : j < 300
        · obtain ⟨b1, o1, eA, hb1l, hc1l⟩ := (HU5.out.below hBJ.out) j (by rw [HLU.out]; exact hj2)
          subst eA
          have q0 := HCQ.out wr j hBJ.out (by omega)
          have q1 := HCQ.out wr (j + 1) hBJ.out (by omega)
          have hst := HST.out j hj2
          have g0 := HSB.out j (by omega)
          have g1 := HSB.out (j + 1) (by omega)
          have j1 : (j : Int) < ((300 : Nat) : Int) := by omega
          have j0 : (0 : Int) ≤ (j : Int) := by omega
          have j2 : (j : Int) < 300 := by have h2 := hm300.out; omega
          have j3 : (j : Int) + 1 < ((300 : Nat) : Int) + 1 := by omega
          have j4 : (j : Int) + 1 < ((300 + 1 : Nat) : Int) := by omega
          have j5 : (j : Int) < ((300 + 1 : Nat) : Int) := by omega
          have j6 : (j : Int) < ((300 : Nat) : Int) + 1 := by omega
          have j7 : (0 : Int) ≤ (j : Int) + 1 := by omega
          have j8 : (j : Int) + 1 < 301 := by omega
          have j9 : (j : Int) < 301 := by omega
          have HAJ := Lib.hid (fun (W : World) (hb : Below w5.heap.size w5 W) (c9 : 300 + 1 ≤ c4) => HAT.out W (some ⟨bq, oq, none⟩) c4 (j : Int) (HX5.out.trans (hb.mono HX5.out.size)) ((HI5.out.below hb).more hb.size) c9 ⟨j0, by omega⟩)
          have haj := HAN.out j (by omega)
          rw [haj] at HAJ
          obtain ⟨X, hX⟩ : ∃ X, X = G (j + 1) := ⟨_, rfl⟩
          obtain ⟨Y, hY⟩ : ∃ X, X = G j := ⟨_, rfl⟩
          obtain ⟨Z, hZ⟩ : ∃ X, X = U.getD j 0 := ⟨_, rfl⟩
          rw [← hX] at q1 hst g1
          rw [← hY] at q0 hst g0 HAJ
          rw [← hZ] at hst hc1l
          obtain ⟨P, hP⟩ : ∃ P, P = (T : Int) * Z := ⟨_, rfl⟩
          rw [← hP] at hst
          have w1 : IntKind.i64.wrap ((j : Int) + 1) = (j : Int) + 1 := by rw [IntKind.wrap_i64]; omega
          have w2 : IntKind.i64.wrap (X - Y) = P := by rw [IntKind.wrap_i64, hst]; omega
          have w3 : IntKind.i64.wrap ((T : Int) * Z) = P := by rw [IntKind.wrap_i64, ← hP]; omega
          have w4' : IntKind.i64.wrap (T : Int) = (T : Int) := by rw [IntKind.wrap_i64]; omega
          have HSS : Hid (∀ W : World, Below wr.heap.size wr W → (W.cell? ⟨bq, oq + (j + 1), none⟩ = some (.int .i64 X) ∧ W.cell? ⟨bq, oq + j, none⟩ = some (.int .i64 Y) ∧ W.cell? ⟨b1, o1 + j, none⟩ = some (.int .i64 Z))) := fun W hb => by
            have hq : bq < wr.heap.size := by
              have h1 := (HI5.out.at_ (by rw [HLE.out]; omega)).choose_spec.choose_spec
              obtain ⟨e9, h9, _⟩ := h1
              injection e9 with e9
              injection e9 with e10 _
              have := hBJ.out.size
              omega
            exact ⟨(hb.cell (p := ⟨bq, oq + (j + 1), none⟩) hq).trans q1, (hb.cell (p := ⟨bq, oq + j, none⟩) hq).trans q0, (hb.cell (p := ⟨b1, o1 + j, none⟩) (by have := hBJ.out.size; simp only []; omega)).trans hc1l⟩
          have HSG0 : ∀ W : World, Below w5.heap.size w5 W → W.cell? ⟨bq, oq + (j + 1), none⟩ = some (.int .i64 X) ∧ W.cell? ⟨bq, oq + j, none⟩ = some (.int .i64 Y) ∧ W.cell? ⟨b1, o1 + j, none⟩ = some (.int .i64 Z) := fun W hb =>
            ⟨by rw [hX]; exact HCQ.out W (j + 1) hb (by omega), by rw [hY]; exact HCQ.out W j hb (by omega), (hb.cell (p := ⟨b1, o1 + j, none⟩) hb1l).trans ((hBJ.out.cell (p := ⟨b1, o1 + j, none⟩) hb1l).symm.trans hc1l)⟩
          have hbx := hBJ.out
          clear hX hY hZ hP hst g0 g1 haj q0 q1 hc1l
          have HBJ := Lib.hid hbx
          have HSG : Hid (∀ W : World, Below w5.heap.size w5 W → W.cell? ⟨bq, oq + (j + 1), none⟩ = some (.int .i64 X) ∧ W.cell? ⟨bq, oq + j, none⟩ = some (.int .i64 Y) ∧ W.cell? ⟨b1, o1 + j, none⟩ = some (.int .i64 Z)) := HSG0
          clear hbx HSS HCQ HST HSB HAN HIA HSG0
          go_wp2
          go_region_held3 (fun W => W.cell? ⟨bq, oq + (j + 1), none⟩ = some (.int .i64 X) ∧ W.cell? ⟨bq, oq + j, none⟩ = some (.int .i64 Y) ∧ W.cell? ⟨b1, o1 + j, none⟩ = some (.int .i64 Z))
            (first
              | exact HSG.out _ HBJ.out.drew
              | exact HSG.out _ hbz)
            (first
              | (go_at_call 22; with_reducible (refine Calls.mono (HAJ.out _ HBJ.out.drew hc4) ?_); rintro e wz ⟨rfl, hbz0⟩; have hbz := HBJ.out.drew.trans (hbz0.mono HBJ.out.drew.size)))
          go_wp2
          go_roundw
          case rel => first | exact ⟨j + 1, by omega, by go_num, hbz⟩ | ((repeat apply Exists.intro); exact ⟨⟨j + 1, by omega, by go_num, hbz⟩, rfl⟩)
          case measure => simp [intOf]; omega
        · have hj8 : j = 300 := by omega
          subst hj8
          have HAL := Lib.hid (fun (W : World) (hb : Below w5.heap.size w5 W) (c9 : 300 + 1 ≤ c4) => HAT.out W (some ⟨bq, oq, none⟩) c4 306 (HX5.out.trans (hb.mono HX5.out.size)) ((HI5.out.below hb).more hb.size) c9 ⟨by omega, by have := hm300.out; omega⟩)
          have hane := HANE.out
          rw [show (((300 : Nat) : Int) + 1 + 5) = 306 from rfl] at hane
          rw [hane] at HAL
          have gm := HSB.out 300 (Nat.le_refl _)
          obtain ⟨V, hV⟩ : ∃ V, V = G 300 := ⟨_, rfl⟩
          rw [← hV] at HAL gm hSE
          have v0 : (0 : Int) ≤ V := gm.1
          have v1 : V ≤ 4503599627370496 := gm.2
          have HBJ := Lib.hid (HX5.out.trans (hBJ.out.mono HX5.out.size))
          have HBK := hBJ
          have m3 := hm300.out
          clear hV gm hane HCQ HST HSB HAN HANE HIA hBJ
          go_wp2_with (go_at_call 22; with_reducible (refine Calls.mono (HAL.out _ HBK.out hc4) ?_); rintro e wz ⟨rfl, hbz⟩; have hbf := HBJ.out.trans (hbz.mono HBJ.out.size))
          go_ret
          exact ⟨rfl, hbf⟩

/-- CurveGoes. -/
theorem curveGoes_go (A : Option Addr) (c : Nat) (l : List Nat) (T : Nat) (w : World) (HS : CurveSpec w) (h : Ints w w.heap.size .u16 A (up l)) (hlt : ∀ b ∈ l, b < 65536) (hT : T < 65536) (hc : l.length ≤ c) :
    Calls Try.prog 9 #[.slice A l.length c, .int .u16 (T : Int)] w fun e w' => e = .returned (.bool true) ∧ Below w.heap.size w w' := by
  by_cases hN : l.length ≤ 300
  · exact curveGoes_le A c l T w HS h hlt hT hN
  · obtain ⟨b0, o0, rfl, _⟩ := h.at_ (by rw [up_len]; omega)
    have h2 : Ints w w.heap.size .u16 (some ⟨b0, o0, none⟩) (up (l.take 300)) := by
      have := h.take 300
      rwa [show (up l).take 300 = up (l.take 300) by simp [up]] at this
    exact curveGoes_gt b0 o0 l.length c (l.take 300) T w HS h2 (fun b hb => hlt b (List.mem_of_mem_take hb)) hT (by rw [List.length_take]; omega) (by omega) hc

end Go.Proofs.Ytoedapeookkodaa
