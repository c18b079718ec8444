/-
  WeighScales, from what is asked of the layer's calls.
-/
import Derived.Test.YtcbimgdgodeppaaSide
import Derived.Test.YtcbimgdgodeppaaWeighSpec
import Derived.Laws.FloatArith
namespace Go.Proofs.Ytcbimgdgodeppaa
open Go.RowKit

theorem up_toNat32 {zs : List Int} (h : ∀ z ∈ zs, 0 ≤ z ∧ z ≤ 4294967295) : up (zs.map Int.toNat) = zs ∧ ∀ b ∈ zs.map Int.toNat, b < 4294967296 := by
  constructor
  · unfold up
    rw [List.map_map]
    conv => rhs; rw [← List.map_id zs]
    exact List.map_congr_left fun z hz => by have := h z hz; simp; omega
  · intro b hb
    obtain ⟨z, hz, rfl⟩ := List.mem_map.1 hb
    have := h z hz; omega
theorem float_nat (x : Nat) (hx : x < 4294967296) : floatOfInt .f64 (x : Int) = natBits x := by
  have h := write_nat hx
  rw [← h]
  rfl
theorem take_snocF {α : Type} (f : Nat → α) (l : List Nat) {k : Nat} (h : k < l.length) : (l.take (k + 1)).map f = (l.take k).map f ++ [f (l.getD k 0)] := by
  rw [take_snocN l h, List.map_append]; rfl

set_option maxHeartbeats 800000 in
set_option maxRecDepth 20000 in
/-- WeighScales. -/
theorem weighScales_le (total : Int) (A : Option Addr) (c : Nat) (l : List Nat) (w : World) (HS : WeighSpec w) (ht : -9223372036854775808 ≤ total ∧ total ≤ 9223372036854775807) (h : Ints w w.heap.size .u32 A (up l)) (hlt : ∀ b ∈ l, b < 4294967296) (hn : l.length ≤ 200) :
    Calls Try.prog 6 #[.int .i64 total, .slice A l.length c] w fun e w' => e = .returned (.bool true) ∧ Below w.heap.size w w' := by
  obtain ⟨i0, hif, hz0, hz1, hz2⟩ := info_parts Try.infoF64w
  have HA := Lib.hid (weighAwake HS)
  have hn' : (l.length : Int) ≤ 200 := by omega
  go_enter Try.func6, Try.ntmps6
  go_wp2
  go_loopw [5, 6, 7] (fun v u i wr => ∃ k : Nat, k ≤ l.length ∧ i = .int .i64 k ∧ (∃ A c, v = .slice A k c) ∧ (∃ A c, u = .slice A k c) ∧ Hid (wr.ownsRow w.heap.size 35 1 v k (((l.take k).map natBits).map (Value.float .f64)) ∧
      wr.ownsRow w.heap.size 35 1 u k (((l.take k).map fun n => twiceB (natBits n)).map (Value.float .f64)) ∧ Apart v u ∧ Below w.heap.size w wr)) (fun _ _ i _ => l.length - (intOf i).toNat)
  case atStart =>
    refine ⟨0, Nat.zero_le _, rfl, ⟨_, _, rfl⟩, ⟨_, _, rfl⟩, ?_⟩
    have h1 := (World.ownsRow_made (base := w.heap.size) (e := 35) (size := 1) w #[] 0 (Nat.le_refl _) (Nat.zero_le _) rfl).alloc (.cells #[] 35)
    have h2 := World.ownsRow_made (base := w.heap.size) (e := 35) (size := 1) (w.alloc (.cells #[] 35)) #[] 0 (by simp) (Nat.zero_le _) rfl
    rw [World.size_alloc] at h2
    exact ⟨h1, h2, fun q hq hq2 => by simp [Value.ownBlock] at hq hq2; omega, ((Below.refl _ _).alloc (Nat.le_refl _) _).alloc (by simp) _⟩
  case round =>
    obtain ⟨k, hk, rfl, ⟨A1, c1, rfl⟩, ⟨A2, c2, rfl⟩, hS⟩ := hrel
    by_cases hlt3 : k < l.length
    · have k1 : (k : Int) < (l.length : Int) := by omega
      have k0 : (0 : Int) ≤ (k : Int) := by omega
      obtain ⟨hown, hown2, hap, hbel⟩ := hS.out
      obtain ⟨b1, off, rfl, hbl, hc⟩ := (h.below hbel) k (by rw [up_len]; exact hlt3)
      rw [up_getD] at hc
      have ht1 := take_snocF natBits l hlt3
      have ht2 := take_snocF (fun n => twiceB (natBits n)) l hlt3
      obtain ⟨x, hx⟩ : ∃ x, x = l.getD k 0 := ⟨_, rfl⟩
      have hx2 : x < 4294967296 := by rw [hx, List.getD_eq_getElem?_getD, List.getElem?_eq_getElem hlt3]; exact hlt _ (List.getElem_mem hlt3)
      rw [← hx] at hc ht1 ht2
      have hfx := float_nat x hx2
      have hmx := mul_two hx2
      have hfm := fun W : World => run_float_arith (P := Try.prog) W .mul 35 .f64 4611686018427387904 (natBits x) (twiceB (natBits x)) hmx
      have ht3 : ((l.take (k + 1)).map natBits).map (Value.float .f64) = ((l.take k).map natBits).map (Value.float .f64) ++ [Value.float .f64 (natBits x)] := by rw [ht1, List.map_append]; rfl
      have ht4 : ((l.take (k + 1)).map fun n => twiceB (natBits n)).map (Value.float .f64) = ((l.take k).map fun n => twiceB (natBits n)).map (Value.float .f64) ++ [Value.float .f64 (twiceB (natBits x))] := by rw [ht2, List.map_append]; rfl
      obtain ⟨P1, hP1⟩ : ∃ P, P = ((l.take k).map natBits).map (Value.float .f64) := ⟨_, rfl⟩
      obtain ⟨P2, hP2⟩ : ∃ P, P = ((l.take k).map fun n => twiceB (natBits n)).map (Value.float .f64) := ⟨_, rfl⟩
      rw [← hP1] at hown ht3
      rw [← hP2] at hown2 ht4
      have HT1 := Lib.hid ht3
      have HT2 := Lib.hid ht4
      clear hx ht1 ht2 ht3 ht4 hP1 hP2 hS
      obtain ⟨y, hy⟩ : ∃ y, y = natBits x := ⟨_, rfl⟩
      obtain ⟨z, hz⟩ : ∃ z, z = twiceB (natBits x) := ⟨_, rfl⟩
      simp only [← hz] at hfm HT2
      simp only [← hy] at hfx hfm HT1
      clear hmx
      clear hy hz
      go_wp2_with (at_builtin; refine wpList_append_own_at _ rfl _ _ 23 rfl w.heap.size 35 i0 (.float .f64 0) 1 8 Try.underlying23 hif hz0 hz1 hz2 rfl (by decide) _ _ _ rfl (hown.alloc _) ⟨wr.heap.size, 0, none⟩ 1 1 [.float .f64 y] rfl rfl (cell_one_new _ _ _) ?d1 ?d2 ?d3 ?d4 ?_)
      case d1 => first | rfl | (intro u hu; simp at hu; subst hu; rfl)
      case d2 => unfold maxLen; omega
      case d3 => omega
      case d4 => have := hbel.size; simp; omega
      intro v3 w3 hown3 hg3 _ hv3
      have hb3 : Below w.heap.size w w3 := (hbel.alloc hbel.size _).grown hg3 (by have := hbel.size; simp; omega) fun q hq => (hown.lt q hq).1
      have ho2 := own_kept (hown2.alloc (.cells #[.float .f64 y] 35)) hg3 (fun q hq => hap q hq)
      have hap3 : Apart v3 (.slice A2 k c2) := hap.grown (N := wr.heap.size + 1) (fun q hq => by have := (hown2.lt q hq).2; omega) hv3
      have hc3 := (hb3.cell (p := ⟨b1, off + k, none⟩) hbl).trans ((hbel.cell (p := ⟨b1, off + k, none⟩) hbl).symm.trans hc)
      obtain ⟨A3, c3, rfl⟩ := own_slice hown3
      clear hown hown2 hap hbel hg3 hc hv3
      go_wp2_with (at_builtin; refine wpList_append_own_at _ rfl _ _ 23 rfl w.heap.size 35 i0 (.float .f64 0) 1 8 Try.underlying23 hif hz0 hz1 hz2 rfl (by decide) _ _ _ rfl (ho2.alloc _) ⟨w3.heap.size, 0, none⟩ 1 1 [.float .f64 z] rfl rfl (cell_one_new _ _ _) ?d1 ?d2 ?d3 ?d4 ?_)
      case d1 => first | rfl | (intro u hu; simp at hu; subst hu; rfl)
      case d2 => unfold maxLen; omega
      case d3 => omega
      case d4 => have := hb3.size; simp; omega
      intro v4 w4 hown4 hg4 _ hv4
      have R : Hid (w4.ownsRow w.heap.size 35 1 (.slice A3 (k + 1) c3) (k + 1) (((l.take (k + 1)).map natBits).map (Value.float .f64)) ∧ w4.ownsRow w.heap.size 35 1 v4 (k + 1) (((l.take (k + 1)).map fun n => twiceB (natBits n)).map (Value.float .f64)) ∧ Apart (.slice A3 (k + 1) c3) v4 ∧ Below w.heap.size w w4) := by
        refine ⟨?_, ?_, ?_, (hb3.alloc hb3.size _).grown hg4 (by have := hb3.size; simp; omega) fun q hq => (ho2.lt q hq).1⟩
        · rw [HT1.out]
          exact own_kept (hown3.alloc (.cells #[.float .f64 z] 35)) hg4 (fun q hq => hap3.symm q hq)
        · rw [HT2.out]
          exact hown4
        · exact (hap3.symm.grown (N := w3.heap.size + 1) (fun q hq => by have := (hown3.lt q hq).2; omega) hv4).symm
      obtain ⟨A4, c4, rfl⟩ := own_slice R.out.2.1
      clear hown3 ho2 hap3 hb3 hown4 hg4 hv4 hc3 hfm hfx
      go_wp2
      go_roundw
      case rel => first | exact ⟨k + 1, by omega, by go_num, ⟨A3, c3, rfl⟩, ⟨A4, c4, rfl⟩, R.out⟩ | ((repeat apply Exists.intro); exact ⟨⟨k + 1, by omega, by go_num, ⟨A3, c3, rfl⟩, ⟨A4, c4, rfl⟩, R.out⟩, rfl⟩)
      case measure => simp [intOf]; omega
    · have hk8 : k = l.length := by omega
      subst hk8
      obtain ⟨hown, hown2, _, hbel⟩ := hS.out
      rw [List.take_length] at hown hown2
      have hf1 := flts_of_own hown
      have hf2 := flts_of_own hown2
      have hc1 := own_le hown
      have hc2 := own_le hown2
      have hl1 : (l.map natBits).length = l.length := List.length_map _
      have hl2 : (l.map fun n => twiceB (natBits n)).length = l.length := List.length_map _
      have hb1 : ∀ b ∈ l.map natBits, b < 18446744073709551616 := fun b hb => by obtain ⟨n, hn, rfl⟩ := List.mem_map.1 hb; have := nat_fin (hlt n hn); omega
      have hb2 : ∀ b ∈ l.map (fun n => twiceB (natBits n)), b < 18446744073709551616 := fun b hb => by obtain ⟨n, hn, rfl⟩ := List.mem_map.1 hb; have := nat_fin (hlt n hn); unfold twiceB; split <;> omega
      have HU1 := Lib.hid (fun (W : World) (hw : Below w.heap.size w W) (hf : Flts W W.heap.size A1 (l.map natBits)) => HS.share total A1 c1 _ W hw ht hf hb1 (by omega) (by omega))
      have HU2 := Lib.hid (fun (W : World) (hw : Below w.heap.size w W) (hf : Flts W W.heap.size A2 (l.map fun n => twiceB (natBits n))) => HS.share total A2 c2 _ W hw ht hf hb2 (by omega) (by omega))
      have hsr : shareR total (l.map fun n => twiceB (natBits n)) = shareR total (l.map natBits) := by
        unfold shareR
        rw [units_twice hlt, hl1, hl2]
      rw [hsr] at HU2
      have hsl : (shareR total (l.map natBits)).2.length ≤ 200 := by
        unfold shareR
        split
        · decide
        · split
          · decide
          · show (shareN total (unitsN (l.map natBits))).length ≤ 200
            rw [shareN_len, unitsN_len, hl1]; exact hn
      have HSI := Lib.hid (fun (W : World) (A0 A1 : Option Addr) (c0 c1 : Nat) (h0 : Ints W W.heap.size .i64 A0 (shareR total (l.map natBits)).2) (h1 : Ints W W.heap.size .i64 A1 (shareR total (l.map natBits)).2) => sameInts_any A0 A1 c0 c1 _ W h0 h1 (by omega))
      obtain ⟨E, hE⟩ : ∃ E, E = (shareR total (l.map natBits)).1 := ⟨_, rfl⟩
      obtain ⟨L, hL⟩ : ∃ E, E = (shareR total (l.map natBits)).2 := ⟨_, rfl⟩
      simp only [← hE, ← hL, hl1] at HU1
      simp only [← hE, ← hL, hl2] at HU2
      simp only [← hL] at HSI
      obtain ⟨F2, hF2⟩ : ∃ F2 : World → Prop, F2 = fun W => Flts W W.heap.size A2 (l.map fun n => twiceB (natBits n)) := ⟨_, rfl⟩
      have HF := Lib.hid (And.intro hf1 hf2)
      clear hown hown2 hf1 hf2 hb1 hb2 hsr hsl hE hL hl1 hl2 hF2 hS HS ht
      go_wp2_with (first
        | (go_at_call 11; with_reducible (refine Calls.mono (HA.out _ hbx) ?_); rintro e w5 ⟨rfl, hb5⟩; have hi3c := ((hi3.below hb4).more hb4.size).below hb5 |>.more hb5.size; have hi4c := (hi4.below hb5).more hb5.size; replace hbx := chain hbx hb5)
        | (go_at_call 12; with_reducible (refine Calls.mono (HSI.out _ _ _ _ _ hi3c hi4c) ?_); rintro e w6 ⟨rfl, m, rfl⟩)
        | (go_at_call 15; with_reducible (refine Calls.mono (HU2.out _ hbx hf3) ?_); rintro e w4 ⟨A4, c4, rfl, hc4, hi4, hb4⟩; replace hbx := chain hbx hb4)
        | (go_at_call 15; with_reducible (refine Calls.mono (HU1.out _ hbel HF.out.1) ?_); rintro e w3 ⟨A3, c3, rfl, hc3, hi3, hb3⟩; have hf3 := (HF.out.2.below hb3).more hb3.size; have hbx := chain hbel hb3))
      go_ret
      exact ⟨rfl, below_drewN hbx m⟩

set_option maxHeartbeats 800000 in
set_option maxRecDepth 20000 in
/-- The same, of more than 200: the first 200. -/
theorem weighScales_gt (total : Int) (b0 o0 N : Nat) (c : Nat) (l : List Nat) (w : World) (HS : WeighSpec w) (ht : -9223372036854775808 ≤ total ∧ total ≤ 9223372036854775807) (h : Ints w w.heap.size .u32 (some ⟨b0, o0, none⟩) (up l)) (hlt : ∀ b ∈ l, b < 4294967296) (hl : l.length = 200) (hN : 200 < N) (hc : N ≤ c) :
    Calls Try.prog 6 #[.int .i64 total, .slice (some ⟨b0, o0, none⟩) N c] w fun e w' => e = .returned (.bool true) ∧ Below w.heap.size w w' := by
  obtain ⟨i0, hif, hz0, hz1, hz2⟩ := info_parts Try.infoF64w
  have HA := Lib.hid (weighAwake HS)
  have hn' : (200 : Int) < (N : Int) := by omega
  have hn2 : (200 : Int) ≤ (c : Int) := by omega
  have HLL := Lib.hid hl
  clear hl hN
  go_enter Try.func6, Try.ntmps6
  go_wp2
  go_loopw [5, 6, 7] (fun v u i wr => ∃ k : Nat, k ≤ 200 ∧ i = .int .i64 k ∧ (∃ A c, v = .slice A k c) ∧ (∃ A c, u = .slice A k c) ∧ Hid (wr.ownsRow w.heap.size 35 1 v k (((l.take k).map natBits).map (Value.float .f64)) ∧
      wr.ownsRow w.heap.size 35 1 u k (((l.take k).map fun n => twiceB (natBits n)).map (Value.float .f64)) ∧ Apart v u ∧ Below w.heap.size w wr)) (fun _ _ i _ => 200 - (intOf i).toNat)
  case atStart =>
    refine ⟨0, Nat.zero_le _, rfl, ⟨_, _, rfl⟩, ⟨_, _, rfl⟩, ?_⟩
    have h1 := (World.ownsRow_made (base := w.heap.size) (e := 35) (size := 1) w #[] 0 (Nat.le_refl _) (Nat.zero_le _) rfl).alloc (.cells #[] 35)
    have h2 := World.ownsRow_made (base := w.heap.size) (e := 35) (size := 1) (w.alloc (.cells #[] 35)) #[] 0 (by simp) (Nat.zero_le _) rfl
    rw [World.size_alloc] at h2
    exact ⟨h1, h2, fun q hq hq2 => by simp [Value.ownBlock] at hq hq2; omega, ((Below.refl _ _).alloc (Nat.le_refl _) _).alloc (by simp) _⟩
  case round =>
    obtain ⟨k, hk, rfl, ⟨A1, c1, rfl⟩, ⟨A2, c2, rfl⟩, hS⟩ := hrel
    by_cases hlt9 : k < 200
    · have k1 : (k : Int) < 200 := by omega
      have hlt3 : k < l.length := by rw [HLL.out]; exact hlt9
      have k2 : (k : Int) < (c : Int) := by omega
      have k0 : (0 : Int) ≤ (k : Int) := by omega
      obtain ⟨hown, hown2, hap, hbel⟩ := hS.out
      obtain ⟨b1, off, e9, hbl, hc⟩ := (h.below hbel) k (by rw [up_len]; exact hlt3)
      injection e9 with e9
      injection e9 with e10 e11
      subst e10 e11
      rw [up_getD] at hc
      have ht1 := take_snocF natBits l hlt3
      have ht2 := take_snocF (fun n => twiceB (natBits n)) l hlt3
      obtain ⟨x, hx⟩ : ∃ x, x = l.getD k 0 := ⟨_, rfl⟩
      have hx2 : x < 4294967296 := by rw [hx, List.getD_eq_getElem?_getD, List.getElem?_eq_getElem hlt3]; exact hlt _ (List.getElem_mem hlt3)
      rw [← hx] at hc ht1 ht2
      have hfx := float_nat x hx2
      have hmx := mul_two hx2
      have hfm := fun W : World => run_float_arith (P := Try.prog) W .mul 35 .f64 4611686018427387904 (natBits x) (twiceB (natBits x)) hmx
      have ht3 : ((l.take (k + 1)).map natBits).map (Value.float .f64) = ((l.take k).map natBits).map (Value.float .f64) ++ [Value.float .f64 (natBits x)] := by rw [ht1, List.map_append]; rfl
      have ht4 : ((l.take (k + 1)).map fun n => twiceB (natBits n)).map (Value.float .f64) = ((l.take k).map fun n => twiceB (natBits n)).map (Value.float .f64) ++ [Value.float .f64 (twiceB (natBits x))] := by rw [ht2, List.map_append]; rfl
      obtain ⟨P1, hP1⟩ : ∃ P, P = ((l.take k).map natBits).map (Value.float .f64) := ⟨_, rfl⟩
      obtain ⟨P2, hP2⟩ : ∃ P, P = ((l.take k).map fun n => twiceB (natBits n)).map (Value.float .f64) := ⟨_, rfl⟩
      rw [← hP1] at hown ht3
      rw [← hP2] at hown2 ht4
      have HT1 := Lib.hid ht3
      have HT2 := Lib.hid ht4
      clear hlt3 hx ht1 ht2 ht3 ht4 hP1 hP2 hS
      obtain ⟨y, hy⟩ : ∃ y, y = natBits x := ⟨_, rfl⟩
      obtain ⟨z, hz⟩ : ∃ z, z = twiceB (natBits x) := ⟨_, rfl⟩
      simp only [← hz] at hfm HT2
      simp only [← hy] at hfx hfm HT1
      clear hmx
      clear hy hz
      go_wp2_with (at_builtin; refine wpList_append_own_at _ rfl _ _ 23 rfl w.heap.size 35 i0 (.float .f64 0) 1 8 Try.underlying23 hif hz0 hz1 hz2 rfl (by decide) _ _ _ rfl (hown.alloc _) ⟨wr.heap.size, 0, none⟩ 1 1 [.float .f64 y] rfl rfl (cell_one_new _ _ _) ?d1 ?d2 ?d3 ?d4 ?_)
      case d1 => first | rfl | (intro u hu; simp at hu; subst hu; rfl)
      case d2 => unfold maxLen; omega
      case d3 => omega
      case d4 => have := hbel.size; simp; omega
      intro v3 w3 hown3 hg3 _ hv3
      have hb3 : Below w.heap.size w w3 := (hbel.alloc hbel.size _).grown hg3 (by have := hbel.size; simp; omega) fun q hq => (hown.lt q hq).1
      have ho2 := own_kept (hown2.alloc (.cells #[.float .f64 y] 35)) hg3 (fun q hq => hap q hq)
      have hap3 : Apart v3 (.slice A2 k c2) := hap.grown (N := wr.heap.size + 1) (fun q hq => by have := (hown2.lt q hq).2; omega) hv3
      have hc3 := (hb3.cell (p := ⟨b0, o0 + k, none⟩) hbl).trans ((hbel.cell (p := ⟨b0, o0 + k, none⟩) hbl).symm.trans hc)
      obtain ⟨A3, c3, rfl⟩ := own_slice hown3
      clear hown hown2 hap hbel hg3 hc hv3
      go_wp2_with (at_builtin; refine wpList_append_own_at _ rfl _ _ 23 rfl w.heap.size 35 i0 (.float .f64 0) 1 8 Try.underlying23 hif hz0 hz1 hz2 rfl (by decide) _ _ _ rfl (ho2.alloc _) ⟨w3.heap.size, 0, none⟩ 1 1 [.float .f64 z] rfl rfl (cell_one_new _ _ _) ?d1 ?d2 ?d3 ?d4 ?_)
      case d1 => first | rfl | (intro u hu; simp at hu; subst hu; rfl)
      case d2 => unfold maxLen; omega
      case d3 => omega
      case d4 => have := hb3.size; simp; omega
      intro v4 w4 hown4 hg4 _ hv4
      have R : Hid (w4.ownsRow w.heap.size 35 1 (.slice A3 (k + 1) c3) (k + 1) (((l.take (k + 1)).map natBits).map (Value.float .f64)) ∧ w4.ownsRow w.heap.size 35 1 v4 (k + 1) (((l.take (k + 1)).map fun n => twiceB (natBits n)).map (Value.float .f64)) ∧ Apart (.slice A3 (k + 1) c3) v4 ∧ Below w.heap.size w w4) := by
        refine ⟨?_, ?_, ?_, (hb3.alloc hb3.size _).grown hg4 (by have := hb3.size; simp; omega) fun q hq => (ho2.lt q hq).1⟩
        · rw [HT1.out]
          exact own_kept (hown3.alloc (.cells #[.float .f64 z] 35)) hg4 (fun q hq => hap3.symm q hq)
        · rw [HT2.out]
          exact hown4
        · exact (hap3.symm.grown (N := w3.heap.size + 1) (fun q hq => by have := (hown3.lt q hq).2; omega) hv4).symm
      obtain ⟨A4, c4, rfl⟩ := own_slice R.out.2.1
      clear hown3 ho2 hap3 hb3 hown4 hg4 hv4 hc3 hfm hfx
      go_wp2
      go_roundw
      case rel => first | exact ⟨k + 1, by omega, by go_num, ⟨A3, c3, rfl⟩, ⟨A4, c4, rfl⟩, R.out⟩ | ((repeat apply Exists.intro); exact ⟨⟨k + 1, by omega, by go_num, ⟨A3, c3, rfl⟩, ⟨A4, c4, rfl⟩, R.out⟩, rfl⟩)
      case measure => simp [intOf]; omega
    · have hk8 : k = 200 := by omega
      subst hk8
      obtain ⟨hown, hown2, _, hbel⟩ := hS.out
      rw [List.take_of_length_le (by have := HLL.out; omega)] at hown hown2
      have hll := HLL.out
      have hf1 := flts_of_own hown
      have hf2 := flts_of_own hown2
      have hc1 := own_le hown
      have hc2 := own_le hown2
      have hl1 : (l.map natBits).length = 200 := by rw [List.length_map]; exact hll
      have hl2 : (l.map fun n => twiceB (natBits n)).length = 200 := by rw [List.length_map]; exact hll
      have hb1 : ∀ b ∈ l.map natBits, b < 18446744073709551616 := fun b hb => by obtain ⟨n, hn, rfl⟩ := List.mem_map.1 hb; have := nat_fin (hlt n hn); omega
      have hb2 : ∀ b ∈ l.map (fun n => twiceB (natBits n)), b < 18446744073709551616 := fun b hb => by obtain ⟨n, hn, rfl⟩ := List.mem_map.1 hb; have := nat_fin (hlt n hn); unfold twiceB; split <;> omega
      have HU1 := Lib.hid (fun (W : World) (hw : Below w.heap.size w W) (hf : Flts W W.heap.size A1 (l.map natBits)) => HS.share total A1 c1 _ W hw ht hf hb1 (by omega) (by omega))
      have HU2 := Lib.hid (fun (W : World) (hw : Below w.heap.size w W) (hf : Flts W W.heap.size A2 (l.map fun n => twiceB (natBits n))) => HS.share total A2 c2 _ W hw ht hf hb2 (by omega) (by omega))
      have hsr : shareR total (l.map fun n => twiceB (natBits n)) = shareR total (l.map natBits) := by
        unfold shareR
        rw [units_twice hlt, hl1, hl2]
      rw [hsr] at HU2
      have hsl : (shareR total (l.map natBits)).2.length ≤ 200 := by
        unfold shareR
        split
        · decide
        · split
          · decide
          · show (shareN total (unitsN (l.map natBits))).length ≤ 200
            rw [shareN_len, unitsN_len, hl1]; decide
      have HSI := Lib.hid (fun (W : World) (A0 A1 : Option Addr) (c0 c1 : Nat) (h0 : Ints W W.heap.size .i64 A0 (shareR total (l.map natBits)).2) (h1 : Ints W W.heap.size .i64 A1 (shareR total (l.map natBits)).2) => sameInts_any A0 A1 c0 c1 _ W h0 h1 (by omega))
      obtain ⟨E, hE⟩ : ∃ E, E = (shareR total (l.map natBits)).1 := ⟨_, rfl⟩
      obtain ⟨L, hL⟩ : ∃ E, E = (shareR total (l.map natBits)).2 := ⟨_, rfl⟩
      simp only [← hE, ← hL, hl1] at HU1
      simp only [← hE, ← hL, hl2] at HU2
      simp only [← hL] at HSI
      obtain ⟨F2, hF2⟩ : ∃ F2 : World → Prop, F2 = fun W => Flts W W.heap.size A2 (l.map fun n => twiceB (natBits n)) := ⟨_, rfl⟩
      have HF := Lib.hid (And.intro hf1 hf2)
      clear hown hown2 hf1 hf2 hb1 hb2 hsr hsl hE hL hl1 hl2 hll hF2 hS HS ht
      go_wp2_with (first
        | (go_at_call 11; with_reducible (refine Calls.mono (HA.out _ hbx) ?_); rintro e w5 ⟨rfl, hb5⟩; have hi3c := ((hi3.below hb4).more hb4.size).below hb5 |>.more hb5.size; have hi4c := (hi4.below hb5).more hb5.size; replace hbx := chain hbx hb5)
        | (go_at_call 12; with_reducible (refine Calls.mono (HSI.out _ _ _ _ _ hi3c hi4c) ?_); rintro e w6 ⟨rfl, m, rfl⟩)
        | (go_at_call 15; with_reducible (refine Calls.mono (HU2.out _ hbx hf3) ?_); rintro e w4 ⟨A4, c4, rfl, hc4, hi4, hb4⟩; replace hbx := chain hbx hb4)
        | (go_at_call 15; with_reducible (refine Calls.mono (HU1.out _ hbel HF.out.1) ?_); rintro e w3 ⟨A3, c3, rfl, hc3, hi3, hb3⟩; have hf3 := (HF.out.2.below hb3).more hb3.size; have hbx := chain hbel hb3))
      go_ret
      exact ⟨rfl, below_drewN hbx m⟩

/-- WeighScales. -/
theorem weighScales_go (total : Int) (A : Option Addr) (c : Nat) (l : List Nat) (w : World) (HS : WeighSpec w) (ht : -9223372036854775808 ≤ total ∧ total ≤ 9223372036854775807) (h : Ints w w.heap.size .u32 A (up l)) (hlt : ∀ b ∈ l, b < 4294967296) (hc : l.length ≤ c) :
    Calls Try.prog 6 #[.int .i64 total, .slice A l.length c] w fun e w' => e = .returned (.bool true) ∧ Below w.heap.size w w' := by
  by_cases hn : l.length ≤ 200
  · exact weighScales_le total A c l w HS ht h hlt hn
  · obtain ⟨b0, o0, rfl, _⟩ := h.at_ (by rw [up_len]; omega)
    have h2 : Ints w w.heap.size .u32 (some ⟨b0, o0, none⟩) (up (l.take 200)) := by
      have := h.take 200
      rwa [show (up l).take 200 = up (l.take 200) by simp [up]] at this
    exact weighScales_gt total b0 o0 l.length c (l.take 200) w HS ht h2 (fun b hb => hlt b (List.mem_of_mem_take hb)) (by rw [List.length_take]; omega) (by omega) hc

end Go.Proofs.Ytcbimgdgodeppaa
