/-
  The document's own shares, whatever is asked (stowageref08); the document's own look whether numbers are the same; numbers by their bits.
-/
import Derived.Test.YtcbimgdgodeppaaSame
import Derived.Test.YtcbimgdgodeppaaWeighRefS
namespace Go.Proofs.Ytcbimgdgodeppaa
open Go.RowKit

set_option maxHeartbeats 1600000 in
set_option maxRecDepth 20000 in
/-- 'Share', where nothing weighs. -/
theorem refShare_zero (total : Int) (A : Option Addr) (c : Nat) (bs : List Nat) (w : World) (ht : 0 ≤ total ∧ total ≤ 1048576) (h : Flts w w.heap.size A bs) (hlt : ∀ b ∈ bs, b < 18446744073709551616) (hn : 0 < bs.length ∧ bs.length ≤ 4096) (ha : allN (unitsN bs) = 0) :
    Calls Try.prog 16 #[.int .i64 total, .slice A bs.length c] w fun e w' => e = .returned (.tuple #[.slice none 0 0, .int .i64 4]) ∧ Below w.heap.size w w' := by
  have HU := Lib.hid (fun (W : World) (hb : Below w.heap.size w W) => refUnits_any A c bs W ((h.below hb).more hb.size) hlt (by omega))
  have hul := unitsN_len bs
  have hult := units_lt bs
  obtain ⟨n, hne⟩ : ∃ n, n = bs.length := ⟨_, rfl⟩
  obtain ⟨us, hus⟩ : ∃ us, us = unitsN bs := ⟨_, rfl⟩
  simp only [← hne, ← hus] at HU hul hult hn ha ⊢
  obtain ⟨n1, n2⟩ := hn
  obtain ⟨t1, t2⟩ := ht
  have HSB := Lib.hid (fun k hk => sumF_bound hult k hk)
  have HUB := Lib.hid (fun k => getD_lt_of hult k)
  have HSS : Hid (∀ k, sumF (fun i => ((us.getD i 0 : Nat) : Int)) (k + 1) = sumF (fun i => ((us.getD i 0 : Nat) : Int)) k + ((us.getD k 0 : Nat) : Int)) := fun _ => rfl
  have HALL : Hid (sumF (fun i => ((us.getD i 0 : Nat) : Int)) n = allN us) := by unfold Hid; rw [← hul]; rfl
  have HSF0 : Hid (sumF (fun i => ((us.getD i 0 : Nat) : Int)) 0 = 0) := rfl
  obtain ⟨SF, hSF⟩ : ∃ SF, SF = sumF (fun i => ((us.getD i 0 : Nat) : Int)) := ⟨_, rfl⟩
  simp only [← hSF] at HSB HSS HALL HSF0
  have hni : (n : Int) ≤ 4096 := by omega
  have hn0 : ¬ (n : Int) = 0 := by omega
  have hn9 : ¬ (4096 : Int) < (n : Int) := by omega
  have ht8 : ¬ total < 0 := by omega
  have ht9 : ¬ (1048576 : Int) < total := by omega
  have HLEN := Lib.hid hul
  have HA := Lib.hid ha
  clear h hlt hult hne hus hSF hul ha
  go_enter Try.func16, Try.ntmps16
  go_wp2_with (go_at_call 14; with_reducible (refine Calls.mono (HU.out _ (Below.refl _ _)) ?_); rintro e w1 ⟨A1, c1, rfl, hc1, hi1, hb1⟩)
  clear HU
  go_loop [7, 8] (fun a i => ∃ k : Nat, k ≤ n ∧ i = .int .i64 k ∧ a = .int .i64 (SF k)) (fun _ i => n - (intOf i).toNat)
  case atStart => exact ⟨0, Nat.zero_le _, rfl, by rw [HSF0.out]⟩
  case round =>
    obtain ⟨k, hk, rfl, rfl⟩ := hrel
    by_cases hlt : k < n
    · obtain ⟨b1, off, hA, _, hc⟩ := hi1 k (by rw [up_len, HLEN.out]; exact hlt)
      rw [up_getD] at hc
      obtain ⟨s1, s2⟩ := HSB.out k (by rw [HLEN.out]; omega)
      have hub := HUB.out k
      have hss := HSS.out k
      obtain ⟨u, hu⟩ : ∃ u, u = us.getD k 0 := ⟨_, rfl⟩
      rw [← hu] at hc hub hss
      obtain ⟨S, hS⟩ : ∃ S, S = SF k := ⟨_, rfl⟩
      rw [← hS] at s1 s2 hss ⊢
      have HS2 := Lib.hid hss
      have k1 : (k : Int) < (n : Int) := by omega
      have k0 : (0 : Int) ≤ (k : Int) := by omega
      have s3 : S ≤ 17592186044416 := by omega
      have u1 : (u : Int) < 4294967296 := by omega
      subst hA
      clear hu hS hss s2 hi1
      go_wp2
      go_round
      case rel => exact ⟨k + 1, by omega, by go_num, by rw [HS2.out]⟩
      case measure => simp [intOf]; omega
    · have hk' : n = k := by omega
      subst hk'
      rw [HALL.out, HA.out]
      have HB1 := Lib.hid hb1
      clear hb1 hi1
      go_wp2
      go_ret2
      exact ⟨rfl, HB1.out⟩

set_option maxHeartbeats 1600000 in
set_option maxRecDepth 20000 in
theorem refShare_arg (total : Int) (A : Option Addr) (n c : Nat) (w : World) (h : total < 0 ∨ total > 1048576 ∨ n = 0 ∨ n > 4096) :
    Calls Try.prog 16 #[.int .i64 total, .slice A n c] w fun e w' => e = .returned (.tuple #[.slice none 0 0, .int .i64 1]) ∧ Below w.heap.size w w' := by
  by_cases h0 : total < 0
  · clear h
    go_enter Try.func16, Try.ntmps16
    go_wp2
    go_ret2
    exact ⟨rfl, Below.refl _ _⟩
  · by_cases h1 : (1048576 : Int) < total
    · clear h
      go_enter Try.func16, Try.ntmps16
      go_wp2
      go_ret2
      exact ⟨rfl, Below.refl _ _⟩
    · by_cases h2 : (n : Int) = 0
      · clear h
        go_enter Try.func16, Try.ntmps16
        go_wp2
        go_ret2
        exact ⟨rfl, Below.refl _ _⟩
      · have h3 : (4096 : Int) < (n : Int) := by omega
        clear h
        go_enter Try.func16, Try.ntmps16
        go_wp2
        go_ret2
        exact ⟨rfl, Below.refl _ _⟩

/-- 'Share', whatever is asked. -/
theorem refShare_any (total : Int) (A : Option Addr) (c : Nat) (bs : List Nat) (w : World) (h : Flts w w.heap.size A bs) (hlt : ∀ b ∈ bs, b < 18446744073709551616) :
    Calls Try.prog 16 #[.int .i64 total, .slice A bs.length c] w fun e w' => ∃ A' c', e = .returned (.tuple #[.slice A' (shareR total bs).2.length c', .int .i64 (shareR total bs).1]) ∧ Ints w' w'.heap.size .i64 A' (shareR total bs).2 ∧ Below w.heap.size w w' := by
  by_cases he : total < 0 ∨ total > 1048576 ∨ bs.length = 0 ∨ bs.length > 4096
  · refine (refShare_arg total A bs.length c w he).mono fun e w' ⟨q1, q2⟩ => ⟨none, 0, ?_, ?_, q2⟩
    · rw [q1, shareR, if_pos he]; rfl
    · rw [shareR, if_pos he]; exact ints_none _ _ _
  · have ht : 0 ≤ total ∧ total ≤ 1048576 := by omega
    have hn : 0 < bs.length ∧ bs.length ≤ 4096 := by omega
    by_cases ha : allN (unitsN bs) = 0
    · refine (refShare_zero total A c bs w ht h hlt hn ha).mono fun e w' ⟨q1, q2⟩ => ⟨none, 0, ?_, ?_, q2⟩
      · rw [q1, shareR, if_neg he, if_pos ha]; rfl
      · rw [shareR, if_neg he, if_pos ha]; exact ints_none _ _ _
    · have ha' : 0 < allN (unitsN bs) := by have := allN_nonneg (unitsN bs); omega
      have hl : (shareN total (unitsN bs)).length = bs.length := by rw [shareN_len, unitsN_len]
      refine (refShare_go total A c bs w ht h hlt hn ha').mono fun e w' ⟨A', c', q1, _, q3, q4⟩ => ⟨A', c', ?_, ?_, q4⟩
      · rw [q1, shareR, if_neg he, if_neg ha]; simp only [hl]
      · rw [shareR, if_neg he, if_neg ha]; exact q3

/-- A slice of numbers of one's own. -/
theorem flts_of_own {w : World} {base n c : Nat} {A : Option Addr} {bs : List Nat} (h : w.ownsRow base 35 1 (.slice A n c) n (bs.map (Value.float .f64))) : Flts w w.heap.size A bs := fun i hi => by
  have hl := h.1
  rw [List.length_map] at hl
  obtain ⟨g, cap, hv, _, hg⟩ := h.form (by omega)
  injection hv with e1 _ e3
  subst e1 e3
  refine ⟨g, 0, rfl, hg, ?_⟩
  rw [Nat.zero_add, h.cellAt i (by omega), List.getElem?_map, List.getElem?_eq_getElem hi]
  simp [List.getD_eq_getElem?_getD, hi]
theorem Try.infoF64w : (Try.prog.info? 35).map (fun i => (i.zero, i.size, i.bytes)) = some (some (.float .f64 0), 1, 8) := by kernel_rfl

set_option maxHeartbeats 800000 in
set_option maxRecDepth 20000 in
/-- 'floats': a row of the call's own. -/
theorem floats_own (A : Option Addr) (c : Nat) (bs : List Nat) (w : World) (h : Ints w w.heap.size .u64 A (up bs)) :
    Calls Try.prog 10 #[.slice A bs.length c] w fun e w' => ∃ A' c', e = .returned (.slice A' (bs.take 200).length c') ∧ (bs.take 200).length ≤ c' ∧ w'.ownsRow w.heap.size 35 1 (.slice A' (bs.take 200).length c') (bs.take 200).length ((bs.take 200).map (Value.float .f64)) ∧ Below w.heap.size w w' := by
  obtain ⟨i0, hi, hz0, hz1, hz2⟩ := info_parts Try.infoF64w
  have HI := Lib.hid h
  have HCB := Lib.hid callFrom
  clear h
  go_enter Try.func10, Try.ntmps10
  go_wp2
  go_loopw [3, 4] (fun v i wr => ∃ k : Nat, k ≤ bs.length ∧ k ≤ 200 ∧ i = .int .i64 k ∧ (∃ A c, v = .slice A k c) ∧ wr.ownsRow w.heap.size 35 1 v k ((bs.take k).map (Value.float .f64)) ∧ Below w.heap.size w wr) (fun _ i _ => 200 - (intOf i).toNat)
  case atStart => exact ⟨0, Nat.zero_le _, Nat.zero_le _, rfl, ⟨_, _, rfl⟩, World.ownsRow_made w #[] 0 (Nat.le_refl _) (Nat.zero_le _) rfl, (Below.refl _ _).alloc (Nat.le_refl _) _⟩
  case round =>
    obtain ⟨k, hk, hk2, rfl, ⟨A1, c1, rfl⟩, hown, hbel⟩ := hrel
    by_cases hlt : k < bs.length
    · have k1 : (k : Int) < (bs.length : Int) := by omega
      have k0 : (0 : Int) ≤ (k : Int) := by omega
      by_cases hlt2 : k < 200
      · have k2 : (k : Int) < 200 := by omega
        obtain ⟨b1, off, rfl, _, hc⟩ := (HI.out.below hbel) k (by rw [up_len]; exact hlt)
        rw [up_getD] at hc
        have ht := take_snocN bs hlt
        obtain ⟨x, hx⟩ : ∃ x, x = bs.getD k 0 := ⟨_, rfl⟩
        rw [← hx] at hc ht
        have hcb := HCB.out x
        have HT := Lib.hid ht
        clear hx ht
        go_wp2_with (at_builtin; refine wpList_append_own_at _ rfl _ _ 23 rfl w.heap.size 35 i0 (.float .f64 0) 1 8 Try.underlying23 hi hz0 hz1 hz2 rfl (by decide) _ _ _ rfl (hown.alloc _) ⟨wr.heap.size, 0, none⟩ 1 1 [.float .f64 x] rfl rfl (cell_one_new _ _ _) ?d1 ?d2 ?d3 ?d4 ?_)
        case d1 => intro u hu; simp at hu; subst hu; rfl
        case d2 => unfold maxLen; omega
        case d3 => omega
        case d4 => have := hbel.size; simp; omega
        intro v3 w3 hown3 hg3 _ _
        have R : w3.ownsRow w.heap.size 35 1 v3 (k + 1) ((bs.take (k + 1)).map (Value.float .f64)) ∧ Below w.heap.size w w3 := by
          refine ⟨?_, (hbel.alloc hbel.size _).grown hg3 (by have := hbel.size; simp; omega) fun q hq => (hown.lt q hq).1⟩
          rw [HT.out, List.map_append, List.map_take]
          exact hown3
        obtain ⟨A3, q3, hv3⟩ := own_slice R.1
        subst hv3
        clear hown3 hg3 hown hbel
        go_wp2
        go_roundw
        case rel => first | exact ⟨k + 1, by omega, by omega, by go_num, ⟨A3, q3, rfl⟩, R.1, R.2⟩ | ((repeat apply Exists.intro); exact ⟨⟨k + 1, by omega, by omega, by go_num, ⟨A3, q3, rfl⟩, R.1, R.2⟩, rfl⟩)
        case measure => simp [intOf]; omega
      · have hk8 : k = 200 := by omega
        subst hk8
        have hl : (bs.take 200).length = 200 := by rw [List.length_take]; omega
        have HL := Lib.hid hl
        have HO := Lib.hid (And.intro (own_le hown) hown)
        have HB := Lib.hid hbel
        clear hown hbel hl
        go_wp2
        go_ret
        exact ⟨A1, c1, by rw [HL.out]; rfl, by rw [HL.out]; exact HO.out.1, by rw [HL.out]; exact HO.out.2, HB.out⟩
    · have hk8 : k = bs.length := by omega
      subst hk8
      have hl : (bs.take 200) = bs := List.take_of_length_le hk2
      rw [List.take_length] at hown
      rw [← hl] at hown
      have HL := Lib.hid hl
      have HO := Lib.hid (And.intro (own_le hown) hown)
      have HB := Lib.hid hbel
      clear hown hbel hl
      go_wp2
      go_ret
      refine ⟨A1, c1, by rw [HL.out]; rfl, ?_, ?_, HB.out⟩
      · exact HO.out.1
      · exact HO.out.2

theorem floats_any (A : Option Addr) (c : Nat) (bs : List Nat) (w : World) (h : Ints w w.heap.size .u64 A (up bs)) :
    Calls Try.prog 10 #[.slice A bs.length c] w fun e w' => ∃ A' c', e = .returned (.slice A' (bs.take 200).length c') ∧ (bs.take 200).length ≤ c' ∧ Flts w' w'.heap.size A' (bs.take 200) ∧ Below w.heap.size w w' :=
  (floats_own A c bs w h).mono fun _ _ ⟨A', c', h1, h2, h3, h4⟩ => ⟨A', c', h1, h2, flts_of_own h3, h4⟩

end Go.Proofs.Ytcbimgdgodeppaa
