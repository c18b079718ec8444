/-
  SampleNames.
-/
import Derived.Test.YtphejkcdddkfnaaSampleRef
import Derived.Test.YtphejkcdddkfnaaSampleDist
import Derived.Test.YtphejkcdddkfnaaSide
namespace Go.Proofs.Ytphejkcdddkfnaa
open Go.RowKit

theorem small_zero (d M : Int) (hM : 765 < M) (h0 : -765 ≤ d) (h1 : d ≤ 765) (h : d % M = 0) : d = 0 := by
  by_cases hd : d < 0
  · have h2 : (-d) % M = 0 := by
      obtain ⟨q, hq⟩ := Int.dvd_of_emod_eq_zero h
      exact Int.emod_eq_zero_of_dvd ⟨-q, by rw [hq, Int.mul_neg]⟩
    rw [Int.emod_eq_of_lt (by omega) (by omega)] at h2
    omega
  · rw [Int.emod_eq_of_lt (by omega) (by omega)] at h
    exact h
theorem name_one (a x y M : Int) (hM : 765 < M) (c : Int) (hx : 0 ≤ x ∧ x ≤ 255) (hy : 0 ≤ y ∧ y ≤ 255) (h : (a - 3 * x + c) % M - c = (a - 3 * y + c) % M - c) : x = y := by
  have h1 : (a - 3 * x + c) % M = (a - 3 * y + c) % M := by omega
  have h2 := Int.emod_eq_emod_iff_emod_sub_eq_zero.1 h1
  have h3 : (a - 3 * x + c) - (a - 3 * y + c) = 3 * (y - x) := by omega
  rw [h3] at h2
  have := small_zero (3 * (y - x)) M hM (by omega) (by omega) h2
  omega
/-- Another name. -/
def nameF (a x : Int) : Int := IntKind.i64.wrap (a - 3 * x)
theorem nameF_one (a : Int) {x y : Int} (hx : 0 ≤ x ∧ x ≤ 255) (hy : 0 ≤ y ∧ y ≤ 255) (h : nameF a x = nameF a y) : x = y := by
  unfold nameF at h
  rw [IntKind.wrap_i64, IntKind.wrap_i64] at h
  exact name_one a x y _ (by decide) _ hx hy h
theorem nameF_i64 (a x : Int) : -9223372036854775808 ≤ nameF a x ∧ nameF a x ≤ 9223372036854775807 := by
  unfold nameF
  rw [IntKind.wrap_i64]
  generalize a - 3 * x + 9223372036854775808 = n
  omega
theorem take_snocM {α : Type} (f : Nat → α) (l : List Nat) {k : Nat} (h : k < l.length) : (l.take (k + 1)).map f = (l.take k).map f ++ [f (l.getD k 0)] := by
  have : l.take (k + 1) = l.take k ++ [l.getD k 0] := by rw [List.take_add_one, List.getElem?_eq_getElem h, List.getD_eq_getElem?_getD, List.getElem?_eq_getElem h]; rfl
  rw [this, List.map_append]; rfl
theorem bytes_i64 {l : List Nat} (hl : ∀ b ∈ l, b < 256) : I64s (up l) := fun z hz => by
  unfold up at hz
  obtain ⟨x, hx, rfl⟩ := List.mem_map.1 hz
  have := hl x hx
  omega

set_option maxHeartbeats 1600000 in
set_option maxRecDepth 20000 in
theorem sampleNames_le (A : Option Addr) (c : Nat) (l : List Nat) (a n : Int) (w : World) (HS : SampleSpec w) (hn : 0 ≤ n ∧ n ≤ 65535) (h : Ints w w.heap.size .u8 A (up l)) (hlt : ∀ b ∈ l, b < 256) (hN : l.length ≤ 1000) :
    Calls Try.prog 6 #[.slice A l.length c, .int .i64 a, .int .u16 n] w fun e w' => e = .returned (.bool true) ∧ Below w.heap.size w w' := by
  obtain ⟨i0, hif, hz0, hz1, hz2⟩ := info_parts Try.infoI64s
  have HA := Lib.hid (sampleAwake HS)
  have hN2 : (l.length : Int) ≤ 1000 := by omega
  go_enter Try.func6, Try.ntmps6
  go_wp2
  go_loopw [7, 8, 9] (fun v u i wr => ∃ k : Nat, k ≤ l.length ∧ i = .int .i64 k ∧ (∃ A c, v = .slice A k c) ∧ (∃ A c, u = .slice A k c) ∧ Hid (wr.ownsRow w.heap.size 3 1 v k ((up (l.take k)).map (Value.int .i64)) ∧
      wr.ownsRow w.heap.size 3 1 u k (((l.take k).map fun x : Nat => nameF a (x : Int)).map (Value.int .i64)) ∧ Apart v u ∧ Below w.heap.size w wr)) (fun _ _ i _ => l.length - (intOf i).toNat)
  case atStart =>
    refine ⟨0, Nat.zero_le _, rfl, ⟨_, _, rfl⟩, ⟨_, _, rfl⟩, ?_⟩
    have h1 := (World.ownsRow_made (base := w.heap.size) (e := 3) (size := 1) w #[] 0 (Nat.le_refl _) (Nat.zero_le _) rfl).alloc (.cells #[] 3)
    have h2 := World.ownsRow_made (base := w.heap.size) (e := 3) (size := 1) (w.alloc (.cells #[] 3)) #[] 0 (by simp) (Nat.zero_le _) rfl
    rw [World.size_alloc] at h2
    exact ⟨h1, h2, fun q hq hq2 => by simp [Value.ownBlock] at hq hq2; omega, ((Below.refl _ _).alloc (Nat.le_refl _) _).alloc (by simp) _⟩
  case round =>
    obtain ⟨k, hk, rfl, ⟨A1, c1, rfl⟩, ⟨A2, c2, rfl⟩, hS⟩ := hrel
    by_cases hlt3 : k < l.length
    · have k1 : (k : Int) < (l.length : Int) := by omega
      have k2 : (k : Int) < 1000 := by omega
      have k0 : (0 : Int) ≤ (k : Int) := by omega
      obtain ⟨hown, hown2, hap, hbel⟩ := hS.out
      obtain ⟨b1, off, rfl, hbl, hc9⟩ := (h.below hbel) k (by rw [up_len]; exact hlt3)
      rw [up_getD] at hc9
      have ht1 := take_snocM (fun x : Nat => Value.int .i64 (x : Int)) l hlt3
      have ht2 := take_snocM (fun x : Nat => Value.int .i64 (nameF a (x : Int))) l hlt3
      have e1 : ∀ j, (up (l.take j)).map (Value.int .i64) = (l.take j).map fun x : Nat => Value.int .i64 (x : Int) := fun j => by unfold up; rw [List.map_map]; rfl
      have e2 : ∀ j, ((l.take j).map fun x : Nat => nameF a (x : Int)).map (Value.int .i64) = (l.take j).map fun x : Nat => Value.int .i64 (nameF a (x : Int)) := fun j => by rw [List.map_map]; rfl
      have hx2 : l.getD k 0 < 256 := by rw [List.getD_eq_getElem?_getD, List.getElem?_eq_getElem hlt3]; exact hlt _ (List.getElem_mem hlt3)
      rw [e1] at hown
      rw [e2] at hown2
      obtain ⟨x, hx⟩ : ∃ x, x = l.getD k 0 := ⟨_, rfl⟩
      rw [← hx] at hc9 ht1 ht2 hx2
      have hx3 : IntKind.i64.wrap (3 * (x : Int)) = 3 * (x : Int) := by rw [IntKind.wrap_i64]; omega
      have hy : IntKind.i64.wrap (a - 3 * (x : Int)) = nameF a (x : Int) := rfl
      obtain ⟨y, hyy⟩ : ∃ y, y = nameF a (x : Int) := ⟨_, rfl⟩
      rw [← hyy] at hy ht2
      obtain ⟨P1, hP1⟩ : ∃ P, P = (l.take k).map fun x : Nat => Value.int .i64 (x : Int) := ⟨_, rfl⟩
      obtain ⟨P2, hP2⟩ : ∃ P, P = (l.take k).map fun x : Nat => Value.int .i64 (nameF a (x : Int)) := ⟨_, rfl⟩
      rw [← hP1] at hown ht1
      rw [← hP2] at hown2 ht2
      have HT1 := Lib.hid ((e1 (k + 1)).trans ht1)
      have HT2 := Lib.hid ((e2 (k + 1)).trans ht2)
      have x0 : (0 : Int) ≤ (x : Int) := by omega
      have x1 : (x : Int) < 256 := by omega
      clear hx hyy ht1 ht2 e1 e2 hP1 hP2 hS hx2
      go_wp2_with (at_builtin; refine wpList_append_own_at _ rfl _ _ 25 rfl w.heap.size 3 i0 (.int .i64 0) 1 8 Try.underlying25 hif hz0 hz1 hz2 rfl (by decide) _ _ _ rfl (hown.alloc _) ⟨wr.heap.size, 0, none⟩ 1 1 [.int .i64 x] rfl rfl (cell_one_new _ _ _) ?d1 ?d2 ?d3 ?d4 ?_)
      case d1 => first | rfl | (intro u hu; simp at hu; subst hu; rfl)
      case d2 => unfold maxLen; omega
      case d3 => omega
      case d4 => have := hbel.size; simp; omega
      intro v3 w3 hown3 hg3 _ hv3
      have hb3 : Below w.heap.size w w3 := (hbel.alloc hbel.size _).grown hg3 (by have := hbel.size; simp; omega) fun q hq => (hown.lt q hq).1
      have ho2 := own_kept (hown2.alloc (.cells #[.int .i64 (x : Int)] 3)) hg3 (fun q hq => hap q hq)
      have hap3 : Apart v3 (.slice A2 k c2) := hap.grown (N := wr.heap.size + 1) (fun q hq => by have := (hown2.lt q hq).2; omega) hv3
      have hc3 := (hb3.cell (p := ⟨b1, off + k, none⟩) hbl).trans ((hbel.cell (p := ⟨b1, off + k, none⟩) hbl).symm.trans hc9)
      obtain ⟨A3, c3, rfl⟩ := own_slice hown3
      clear hown hown2 hap hbel hg3 hc9 hv3
      go_wp2_with (at_builtin; refine wpList_append_own_at _ rfl _ _ 25 rfl w.heap.size 3 i0 (.int .i64 0) 1 8 Try.underlying25 hif hz0 hz1 hz2 rfl (by decide) _ _ _ rfl (ho2.alloc _) ⟨w3.heap.size, 0, none⟩ 1 1 [.int .i64 y] rfl rfl (cell_one_new _ _ _) ?d1 ?d2 ?d3 ?d4 ?_)
      case d1 => first | rfl | (intro u hu; simp at hu; subst hu; rfl)
      case d2 => unfold maxLen; omega
      case d3 => omega
      case d4 => have := hb3.size; simp; omega
      intro v4 w4 hown4 hg4 _ hv4
      have R : Hid (w4.ownsRow w.heap.size 3 1 (.slice A3 (k + 1) c3) (k + 1) ((up (l.take (k + 1))).map (Value.int .i64)) ∧ w4.ownsRow w.heap.size 3 1 v4 (k + 1) (((l.take (k + 1)).map fun x : Nat => nameF a (x : Int)).map (Value.int .i64)) ∧ Apart (.slice A3 (k + 1) c3) v4 ∧ Below w.heap.size w w4) := by
        refine ⟨?_, ?_, ?_, (hb3.alloc hb3.size _).grown hg4 (by have := hb3.size; simp; omega) fun q hq => (ho2.lt q hq).1⟩
        · rw [HT1.out]
          exact own_kept (hown3.alloc (.cells #[.int .i64 y] 3)) hg4 (fun q hq => hap3.symm q hq)
        · rw [HT2.out]
          exact hown4
        · exact (hap3.symm.grown (N := w3.heap.size + 1) (fun q hq => by have := (hown3.lt q hq).2; omega) hv4).symm
      obtain ⟨A4, c4, rfl⟩ := own_slice R.out.2.1
      clear hown3 ho2 hap3 hb3 hown4 hg4 hv4 hc3 hx3 hy
      go_wp2
      go_roundw
      case rel => first | exact ⟨k + 1, by omega, by go_num, ⟨A3, c3, rfl⟩, ⟨A4, c4, rfl⟩, R.out⟩ | ((repeat apply Exists.intro); exact ⟨⟨k + 1, by omega, by go_num, ⟨A3, c3, rfl⟩, ⟨A4, c4, rfl⟩, R.out⟩, rfl⟩)
      case measure => simp [intOf]; omega
    · have hk8 : k = l.length := by omega
      subst hk8
      have hm9 : l.length ≤ 1000 := hN
      obtain ⟨hown, hown2, _, hbel⟩ := hS.out
      clear hS
      have hLl : (up (l.take l.length)).length = l.length := by rw [up_len, List.length_take]; omega
      have hLB : ((l.take l.length).map fun x : Nat => nameF a (x : Int)) = (up (l.take l.length)).map (nameF a) := by unfold up; rw [List.map_map]; rfl
      have hb8 : ∀ b ∈ l.take l.length, b < 256 := fun b hb => hlt b (List.mem_of_mem_take hb)
      have hdn : distL ((up (l.take l.length)).map (nameF a)) = distL (up (l.take l.length)) := distL_map (nameF a) _ (fun p hp q hq e => by
        unfold up at hp hq
        obtain ⟨x, hx, rfl⟩ := List.mem_map.1 hp
        obtain ⟨y, hy, rfl⟩ := List.mem_map.1 hq
        have h1 := hb8 x hx
        have h2 := hb8 y hy
        exact nameF_one a ⟨by omega, by omega⟩ ⟨by omega, by omega⟩ e)
      have h64 : I64s (up (l.take l.length)) := bytes_i64 hb8
      have h64b : I64s ((up (l.take l.length)).map (nameF a)) := fun z hz => by obtain ⟨x, _, rfl⟩ := List.mem_map.1 hz; exact nameF_i64 a x
      have hc1 := own_le hown
      have hc2 := own_le hown2
      rw [hLB] at hown2
      have hi1 : Ints wr wr.heap.size .i64 A1 (up (l.take l.length)) := Ints.of_own (n := l.length) (c := c1) (by rw [hLl]; exact hown)
      have hi2 : Ints wr wr.heap.size .i64 A2 ((up (l.take l.length)).map (nameF a)) := Ints.of_own (n := l.length) (c := c2) (by rw [List.length_map, hLl]; exact hown2)
      obtain ⟨L, hL⟩ : ∃ L, L = up (l.take l.length) := ⟨_, rfl⟩
      rw [← hL] at hLl hdn h64 h64b hi1 hi2
      clear hL hLB hb8 hown hown2
      obtain ⟨kk, hkk, hkm⟩ : ∃ kk : Nat, kk ≤ l.length ∧ Int.tmod n ((l.length : Nat) + 1 : Int) = (kk : Int) := by
        refine ⟨(Int.tmod n ((l.length : Nat) + 1 : Int)).toNat, ?_, ?_⟩
        · have h1 := Int.tmod_lt_of_pos n (show (0 : Int) < ((l.length : Nat) + 1 : Int) by omega)
          omega
        · have h1 := Int.tmod_nonneg ((l.length : Nat) + 1 : Int) hn.1
          omega
      have hdl : (distL L).length = l.length := by rw [distL_len, hLl]
      have H1 := HS.dist A1 c1 L
      have H2 := HS.dist A2 c2 (L.map (nameF a))
      have H3 := HS.dist A1 c1 (L.take kk)
      rw [distR_le (by rw [hLl]; omega), hdl, hLl] at H1
      rw [distR_le (by rw [List.length_map, hLl]; omega), hdn, hdl, List.length_map, hLl] at H2
      have htl : (L.take kk).length = kk := by rw [List.length_take, hLl]; omega
      have hdt : distL (L.take kk) = (distL L).take kk := distL_take L kk (by rw [hLl]; exact hkk)
      have htd : ((distL L).take kk).length = kk := by rw [List.length_take, hdl]; omega
      rw [distR_le (by rw [htl]; omega), hdt, htd, htl] at H3
      have K1 := Lib.hid (fun (W : World) (hb : Below w.heap.size w W) (h : Ints W W.heap.size .i64 A1 L) => H1 W hb h h64 hc1 (by omega))
      have K2 := Lib.hid (fun (W : World) (hb : Below w.heap.size w W) (h : Ints W W.heap.size .i64 A2 (L.map (nameF a))) => H2 W hb h h64b hc2 (by omega))
      have K3 := Lib.hid (fun (W : World) (hb : Below w.heap.size w W) (h : Ints W W.heap.size .i64 A1 L) => H3 W hb (h.take kk) (fun z hz => h64 z (List.mem_of_mem_take hz)) (by omega) (by omega))
      have HSI := Lib.hid (fun (W : World) (A0 A1 : Option Addr) (c0 c1 : Nat) (h0 : Ints W W.heap.size .i64 A0 (distL L)) (h1 : Ints W W.heap.size .i64 A1 (distL L)) => sameInts_any A0 A1 c0 c1 (distL L) W h0 h1 (by rw [hdl]; omega))
      have HSJ := Lib.hid (fun (W : World) (A0 A1 : Option Addr) (c0 c1 : Nat) (h0 : Ints W W.heap.size .i64 A0 ((distL L).take kk)) (h1 : Ints W W.heap.size .i64 A1 (distL L)) => sameInts_any A0 A1 c0 c1 ((distL L).take kk) W h0 (h1.take kk) (by rw [htd]; omega))
      rw [hdl] at HSI
      rw [htd] at HSJ
      have hkm2 : Int.tmod n ((l.length : Int) + 1) = (kk : Int) := hkm
      have g0 : (0 : Int) ≤ (kk : Int) := by omega
      have g1 : (kk : Int) ≤ (c1 : Int) := by omega
      have g2 : ((l.length : Nat) : Int) + 1 ≠ 0 := by omega
      clear H1 H2 H3 hdn h64 h64b hdl htl hdt htd hkm hLl HS hlt
      go_wp2_with (first
        | (go_at_call 14; with_reducible (refine Calls.mono (HSJ.out _ _ _ _ _ hi9 hi8) ?_); rintro e w9 ⟨rfl, m9, rfl⟩)
        | (go_at_call 14; with_reducible (refine Calls.mono (HSI.out _ _ _ _ _ hi8 hi7) ?_); rintro e w8 ⟨rfl, m8, rfl⟩; have hbd := below_drewN (Below.refl w7.heap.size w7) m8; have hi9 := (hi6.below hbd).more hbd.size; replace hi8 := (hi8.below hbd).more hbd.size; have hbz := below_drewN hby m8; clear hbd)
        | (go_at_call 10; with_reducible (refine Calls.mono (HA.out _ hbx) ?_); rintro e w7 ⟨rfl, hb7⟩; have hi8 := (hi4.below hb7).more hb7.size; have hi7 := (hi5.below hb7).more hb7.size; replace hi6 := (hi6.below hb7).more hb7.size; have hby := chain hbx hb7)
        | (go_at_call 13; with_reducible (refine Calls.mono (K3.out _ hbx5 hi1c) ?_); rintro e w6 ⟨A6, c6, rfl, hc6, hi6, hb6⟩; have hbx := chain hbx5 hb6; replace hi4 := (hi4.below hb6).more hb6.size; replace hi5 := (hi5.below hb6).more hb6.size)
        | (go_at_call 13; with_reducible (refine Calls.mono (K2.out _ hbx4 hi2b) ?_); rintro e w5 ⟨A5, c5, rfl, hc5, hi5, hb5⟩; have hbx5 := chain hbx4 hb5; replace hi4 := (hi4.below hb5).more hb5.size; have hi1c := (hi1b.below hb5).more hb5.size)
        | (go_at_call 13; with_reducible (refine Calls.mono (K1.out _ hbel hi1) ?_); rintro e w4 ⟨A4, c4, rfl, hc4, hi4, hb4⟩; have hbx4 := chain hbel hb4; have hi1b := (hi1.below hb4).more hb4.size; have hi2b := (hi2.below hb4).more hb4.size))
      go_ret
      first | exact ⟨rfl, below_drewN hbz m9⟩ | exact ⟨rfl, below_drewN hby _⟩

set_option maxHeartbeats 1600000 in
set_option maxRecDepth 20000 in
theorem sampleNames_gt (b0 o0 N c : Nat) (l : List Nat) (a n : Int) (w : World) (HS : SampleSpec w) (hn : 0 ≤ n ∧ n ≤ 65535) (h : Ints w w.heap.size .u8 (some ⟨b0, o0, none⟩) (up l)) (hlt : ∀ b ∈ l, b < 256) (hl : l.length = 1000) (hN : 1000 < N) (hc : N ≤ c) :
    Calls Try.prog 6 #[.slice (some ⟨b0, o0, none⟩) N c, .int .i64 a, .int .u16 n] w fun e w' => e = .returned (.bool true) ∧ Below w.heap.size w w' := by
  obtain ⟨i0, hif, hz0, hz1, hz2⟩ := info_parts Try.infoI64s
  have HA := Lib.hid (sampleAwake HS)
  have hN2 : (1000 : Int) < (N : Int) := by omega
  have hc2 : (1000 : Int) ≤ (c : Int) := by omega
  go_enter Try.func6, Try.ntmps6
  go_wp2
  go_loopw [7, 8, 9] (fun v u i wr => ∃ k : Nat, k ≤ 1000 ∧ i = .int .i64 k ∧ (∃ A c, v = .slice A k c) ∧ (∃ A c, u = .slice A k c) ∧ Hid (wr.ownsRow w.heap.size 3 1 v k ((up (l.take k)).map (Value.int .i64)) ∧
      wr.ownsRow w.heap.size 3 1 u k (((l.take k).map fun x : Nat => nameF a (x : Int)).map (Value.int .i64)) ∧ Apart v u ∧ Below w.heap.size w wr)) (fun _ _ i _ => 1000 - (intOf i).toNat)
  case atStart =>
    refine ⟨0, Nat.zero_le _, rfl, ⟨_, _, rfl⟩, ⟨_, _, rfl⟩, ?_⟩
    have h1 := (World.ownsRow_made (base := w.heap.size) (e := 3) (size := 1) w #[] 0 (Nat.le_refl _) (Nat.zero_le _) rfl).alloc (.cells #[] 3)
    have h2 := World.ownsRow_made (base := w.heap.size) (e := 3) (size := 1) (w.alloc (.cells #[] 3)) #[] 0 (by simp) (Nat.zero_le _) rfl
    rw [World.size_alloc] at h2
    exact ⟨h1, h2, fun q hq hq2 => by simp [Value.ownBlock] at hq hq2; omega, ((Below.refl _ _).alloc (Nat.le_refl _) _).alloc (by simp) _⟩
  case round =>
    obtain ⟨k, hk, rfl, ⟨A1, c1, rfl⟩, ⟨A2, c2, rfl⟩, hS⟩ := hrel
    by_cases hlt3 : k < 1000
    · have k1 : (k : Int) < (N : Int) := by omega
      have k2 : (k : Int) < 1000 := by omega
      have k0 : (0 : Int) ≤ (k : Int) := by omega
      obtain ⟨hown, hown2, hap, hbel⟩ := hS.out
      have hlt4 : k < l.length := by rw [hl]; exact hlt3
      have k3 : (k : Int) < (c : Int) := by omega
      obtain ⟨b1, off, e9, hbl, hc9⟩ := (h.below hbel) k (by rw [up_len]; exact hlt4)
      injection e9 with e9
      injection e9 with e10 e11
      subst e10 e11
      rw [up_getD] at hc9
      have ht1 := take_snocM (fun x : Nat => Value.int .i64 (x : Int)) l hlt4
      have ht2 := take_snocM (fun x : Nat => Value.int .i64 (nameF a (x : Int))) l hlt4
      have e1 : ∀ j, (up (l.take j)).map (Value.int .i64) = (l.take j).map fun x : Nat => Value.int .i64 (x : Int) := fun j => by unfold up; rw [List.map_map]; rfl
      have e2 : ∀ j, ((l.take j).map fun x : Nat => nameF a (x : Int)).map (Value.int .i64) = (l.take j).map fun x : Nat => Value.int .i64 (nameF a (x : Int)) := fun j => by rw [List.map_map]; rfl
      have hx2 : l.getD k 0 < 256 := by rw [List.getD_eq_getElem?_getD, List.getElem?_eq_getElem hlt4]; exact hlt _ (List.getElem_mem hlt4)
      rw [e1] at hown
      rw [e2] at hown2
      obtain ⟨x, hx⟩ : ∃ x, x = l.getD k 0 := ⟨_, rfl⟩
      rw [← hx] at hc9 ht1 ht2 hx2
      have hx3 : IntKind.i64.wrap (3 * (x : Int)) = 3 * (x : Int) := by rw [IntKind.wrap_i64]; omega
      have hy : IntKind.i64.wrap (a - 3 * (x : Int)) = nameF a (x : Int) := rfl
      obtain ⟨y, hyy⟩ : ∃ y, y = nameF a (x : Int) := ⟨_, rfl⟩
      rw [← hyy] at hy ht2
      obtain ⟨P1, hP1⟩ : ∃ P, P = (l.take k).map fun x : Nat => Value.int .i64 (x : Int) := ⟨_, rfl⟩
      obtain ⟨P2, hP2⟩ : ∃ P, P = (l.take k).map fun x : Nat => Value.int .i64 (nameF a (x : Int)) := ⟨_, rfl⟩
      rw [← hP1] at hown ht1
      rw [← hP2] at hown2 ht2
      have HT1 := Lib.hid ((e1 (k + 1)).trans ht1)
      have HT2 := Lib.hid ((e2 (k + 1)).trans ht2)
      have x0 : (0 : Int) ≤ (x : Int) := by omega
      have x1 : (x : Int) < 256 := by omega
      clear hx hyy ht1 ht2 e1 e2 hP1 hP2 hS hx2 hlt4
      go_wp2_with (at_builtin; refine wpList_append_own_at _ rfl _ _ 25 rfl w.heap.size 3 i0 (.int .i64 0) 1 8 Try.underlying25 hif hz0 hz1 hz2 rfl (by decide) _ _ _ rfl (hown.alloc _) ⟨wr.heap.size, 0, none⟩ 1 1 [.int .i64 x] rfl rfl (cell_one_new _ _ _) ?d1 ?d2 ?d3 ?d4 ?_)
      case d1 => first | rfl | (intro u hu; simp at hu; subst hu; rfl)
      case d2 => unfold maxLen; omega
      case d3 => omega
      case d4 => have := hbel.size; simp; omega
      intro v3 w3 hown3 hg3 _ hv3
      have hb3 : Below w.heap.size w w3 := (hbel.alloc hbel.size _).grown hg3 (by have := hbel.size; simp; omega) fun q hq => (hown.lt q hq).1
      have ho2 := own_kept (hown2.alloc (.cells #[.int .i64 (x : Int)] 3)) hg3 (fun q hq => hap q hq)
      have hap3 : Apart v3 (.slice A2 k c2) := hap.grown (N := wr.heap.size + 1) (fun q hq => by have := (hown2.lt q hq).2; omega) hv3
      have hc3 := (hb3.cell (p := ⟨b0, o0 + k, none⟩) hbl).trans ((hbel.cell (p := ⟨b0, o0 + k, none⟩) hbl).symm.trans hc9)
      obtain ⟨A3, c3, rfl⟩ := own_slice hown3
      clear hown hown2 hap hbel hg3 hc9 hv3
      go_wp2_with (at_builtin; refine wpList_append_own_at _ rfl _ _ 25 rfl w.heap.size 3 i0 (.int .i64 0) 1 8 Try.underlying25 hif hz0 hz1 hz2 rfl (by decide) _ _ _ rfl (ho2.alloc _) ⟨w3.heap.size, 0, none⟩ 1 1 [.int .i64 y] rfl rfl (cell_one_new _ _ _) ?d1 ?d2 ?d3 ?d4 ?_)
      case d1 => first | rfl | (intro u hu; simp at hu; subst hu; rfl)
      case d2 => unfold maxLen; omega
      case d3 => omega
      case d4 => have := hb3.size; simp; omega
      intro v4 w4 hown4 hg4 _ hv4
      have R : Hid (w4.ownsRow w.heap.size 3 1 (.slice A3 (k + 1) c3) (k + 1) ((up (l.take (k + 1))).map (Value.int .i64)) ∧ w4.ownsRow w.heap.size 3 1 v4 (k + 1) (((l.take (k + 1)).map fun x : Nat => nameF a (x : Int)).map (Value.int .i64)) ∧ Apart (.slice A3 (k + 1) c3) v4 ∧ Below w.heap.size w w4) := by
        refine ⟨?_, ?_, ?_, (hb3.alloc hb3.size _).grown hg4 (by have := hb3.size; simp; omega) fun q hq => (ho2.lt q hq).1⟩
        · rw [HT1.out]
          exact own_kept (hown3.alloc (.cells #[.int .i64 y] 3)) hg4 (fun q hq => hap3.symm q hq)
        · rw [HT2.out]
          exact hown4
        · exact (hap3.symm.grown (N := w3.heap.size + 1) (fun q hq => by have := (hown3.lt q hq).2; omega) hv4).symm
      obtain ⟨A4, c4, rfl⟩ := own_slice R.out.2.1
      clear hown3 ho2 hap3 hb3 hown4 hg4 hv4 hc3 hx3 hy
      go_wp2
      go_roundw
      case rel => first | exact ⟨k + 1, by omega, by go_num, ⟨A3, c3, rfl⟩, ⟨A4, c4, rfl⟩, R.out⟩ | ((repeat apply Exists.intro); exact ⟨⟨k + 1, by omega, by go_num, ⟨A3, c3, rfl⟩, ⟨A4, c4, rfl⟩, R.out⟩, rfl⟩)
      case measure => simp [intOf]; omega
    · have hk8 : k = 1000 := by omega
      subst hk8
      obtain ⟨hown, hown2, _, hbel⟩ := hS.out
      clear hS
      have hLl : (up (l.take 1000)).length = 1000 := by rw [up_len, List.length_take]; omega
      have hLB : ((l.take 1000).map fun x : Nat => nameF a (x : Int)) = (up (l.take 1000)).map (nameF a) := by unfold up; rw [List.map_map]; rfl
      have hb8 : ∀ b ∈ l.take 1000, b < 256 := fun b hb => hlt b (List.mem_of_mem_take hb)
      have hdn : distL ((up (l.take 1000)).map (nameF a)) = distL (up (l.take 1000)) := distL_map (nameF a) _ (fun p hp q hq e => by
        unfold up at hp hq
        obtain ⟨x, hx, rfl⟩ := List.mem_map.1 hp
        obtain ⟨y, hy, rfl⟩ := List.mem_map.1 hq
        have h1 := hb8 x hx
        have h2 := hb8 y hy
        exact nameF_one a ⟨by omega, by omega⟩ ⟨by omega, by omega⟩ e)
      have h64 : I64s (up (l.take 1000)) := bytes_i64 hb8
      have h64b : I64s ((up (l.take 1000)).map (nameF a)) := fun z hz => by obtain ⟨x, _, rfl⟩ := List.mem_map.1 hz; exact nameF_i64 a x
      have hc1 := own_le hown
      have hc2 := own_le hown2
      rw [hLB] at hown2
      have hi1 : Ints wr wr.heap.size .i64 A1 (up (l.take 1000)) := Ints.of_own (n := 1000) (c := c1) (by rw [hLl]; exact hown)
      have hi2 : Ints wr wr.heap.size .i64 A2 ((up (l.take 1000)).map (nameF a)) := Ints.of_own (n := 1000) (c := c2) (by rw [List.length_map, hLl]; exact hown2)
      obtain ⟨L, hL⟩ : ∃ L, L = up (l.take 1000) := ⟨_, rfl⟩
      rw [← hL] at hLl hdn h64 h64b hi1 hi2
      clear hL hLB hb8 hown hown2
      obtain ⟨kk, hkk, hkm⟩ : ∃ kk : Nat, kk ≤ 1000 ∧ Int.tmod n ((1000 : Nat) + 1 : Int) = (kk : Int) := by
        refine ⟨(Int.tmod n ((1000 : Nat) + 1 : Int)).toNat, ?_, ?_⟩
        · have h1 := Int.tmod_lt_of_pos n (show (0 : Int) < ((1000 : Nat) + 1 : Int) by omega)
          omega
        · have h1 := Int.tmod_nonneg ((1000 : Nat) + 1 : Int) hn.1
          omega
      have hdl : (distL L).length = 1000 := by rw [distL_len, hLl]
      have H1 := HS.dist A1 c1 L
      have H2 := HS.dist A2 c2 (L.map (nameF a))
      have H3 := HS.dist A1 c1 (L.take kk)
      rw [distR_le (by rw [hLl]; omega), hdl, hLl] at H1
      rw [distR_le (by rw [List.length_map, hLl]; omega), hdn, hdl, List.length_map, hLl] at H2
      have htl : (L.take kk).length = kk := by rw [List.length_take, hLl]; omega
      have hdt : distL (L.take kk) = (distL L).take kk := distL_take L kk (by rw [hLl]; exact hkk)
      have htd : ((distL L).take kk).length = kk := by rw [List.length_take, hdl]; omega
      rw [distR_le (by rw [htl]; omega), hdt, htd, htl] at H3
      have K1 := Lib.hid (fun (W : World) (hb : Below w.heap.size w W) (h : Ints W W.heap.size .i64 A1 L) => H1 W hb h h64 hc1 (by omega))
      have K2 := Lib.hid (fun (W : World) (hb : Below w.heap.size w W) (h : Ints W W.heap.size .i64 A2 (L.map (nameF a))) => H2 W hb h h64b hc2 (by omega))
      have K3 := Lib.hid (fun (W : World) (hb : Below w.heap.size w W) (h : Ints W W.heap.size .i64 A1 L) => H3 W hb (h.take kk) (fun z hz => h64 z (List.mem_of_mem_take hz)) (by omega) (by omega))
      have HSI := Lib.hid (fun (W : World) (A0 A1 : Option Addr) (c0 c1 : Nat) (h0 : Ints W W.heap.size .i64 A0 (distL L)) (h1 : Ints W W.heap.size .i64 A1 (distL L)) => sameInts_any A0 A1 c0 c1 (distL L) W h0 h1 (by rw [hdl]; omega))
      have HSJ := Lib.hid (fun (W : World) (A0 A1 : Option Addr) (c0 c1 : Nat) (h0 : Ints W W.heap.size .i64 A0 ((distL L).take kk)) (h1 : Ints W W.heap.size .i64 A1 (distL L)) => sameInts_any A0 A1 c0 c1 ((distL L).take kk) W h0 (h1.take kk) (by rw [htd]; omega))
      rw [hdl] at HSI
      rw [htd] at HSJ
      have hkm2 : Int.tmod n ((1000 : Int) + 1) = (kk : Int) := hkm
      have hkm3 : n % 1001 = (kk : Int) := by rw [← hkm]; exact (Int.tmod_eq_emod_of_nonneg hn.1).symm
      have g0 : (0 : Int) ≤ (kk : Int) := by omega
      have g1 : (kk : Int) ≤ (c1 : Int) := by omega
      have g2 : ((1000 : Nat) : Int) + 1 ≠ 0 := by omega
      clear H1 H2 H3 hdn h64 h64b hdl htl hdt htd hkm hLl HS hlt
      go_wp2_with (first
        | (go_at_call 14; with_reducible (refine Calls.mono (HSJ.out _ _ _ _ _ hi9 hi8) ?_); rintro e w9 ⟨rfl, m9, rfl⟩)
        | (go_at_call 14; with_reducible (refine Calls.mono (HSI.out _ _ _ _ _ hi8 hi7) ?_); rintro e w8 ⟨rfl, m8, rfl⟩; have hbd := below_drewN (Below.refl w7.heap.size w7) m8; have hi9 := (hi6.below hbd).more hbd.size; replace hi8 := (hi8.below hbd).more hbd.size; have hbz := below_drewN hby m8; clear hbd)
        | (go_at_call 10; with_reducible (refine Calls.mono (HA.out _ hbx) ?_); rintro e w7 ⟨rfl, hb7⟩; have hi8 := (hi4.below hb7).more hb7.size; have hi7 := (hi5.below hb7).more hb7.size; replace hi6 := (hi6.below hb7).more hb7.size; have hby := chain hbx hb7)
        | (go_at_call 13; with_reducible (refine Calls.mono (K3.out _ hbx5 hi1c) ?_); rintro e w6 ⟨A6, c6, rfl, hc6, hi6, hb6⟩; have hbx := chain hbx5 hb6; replace hi4 := (hi4.below hb6).more hb6.size; replace hi5 := (hi5.below hb6).more hb6.size)
        | (go_at_call 13; with_reducible (refine Calls.mono (K2.out _ hbx4 hi2b) ?_); rintro e w5 ⟨A5, c5, rfl, hc5, hi5, hb5⟩; have hbx5 := chain hbx4 hb5; replace hi4 := (hi4.below hb5).more hb5.size; have hi1c := (hi1b.below hb5).more hb5.size)
        | (go_at_call 13; with_reducible (refine Calls.mono (K1.out _ hbel hi1) ?_); rintro e w4 ⟨A4, c4, rfl, hc4, hi4, hb4⟩; have hbx4 := chain hbel hb4; have hi1b := (hi1.below hb4).more hb4.size; have hi2b := (hi2.below hb4).more hb4.size))
      go_ret
      first | exact ⟨rfl, below_drewN hbz m9⟩ | exact ⟨rfl, below_drewN hby _⟩

/-- SampleNames. -/
theorem sampleNames_go (A : Option Addr) (c : Nat) (l : List Nat) (a n : Int) (w : World) (HS : SampleSpec w) (hn : 0 ≤ n ∧ n ≤ 65535) (h : Ints w w.heap.size .u8 A (up l)) (hlt : ∀ b ∈ l, b < 256) (hc : l.length ≤ c) :
    Calls Try.prog 6 #[.slice A l.length c, .int .i64 a, .int .u16 n] w fun e w' => e = .returned (.bool true) ∧ Below w.heap.size w w' := by
  by_cases hN : l.length ≤ 1000
  · exact sampleNames_le A c l a n w HS hn h hlt hN
  · obtain ⟨b0, o0, rfl, _⟩ := h.at_ (by rw [up_len]; omega)
    have h2 : Ints w w.heap.size .u8 (some ⟨b0, o0, none⟩) (up (l.take 1000)) := by
      have := h.take 1000
      rwa [show (up l).take 1000 = up (l.take 1000) by simp [up]] at this
    exact sampleNames_gt b0 o0 l.length c (l.take 1000) a n w HS hn h2 (fun b hb => hlt b (List.mem_of_mem_take hb)) (by rw [List.length_take]; omega) (by omega) hc

end Go.Proofs.Ytphejkcdddkfnaa
