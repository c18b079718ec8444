/-
  weigh's Units, and all that is asked of the layer.
-/
import Derived.Test.YtcbimgdgodeppaaWeighC5
import Derived.Test.YtcbimgdgodeppaaWeighC3
import Derived.Test.YtcbimgdgodeppaaWeighSpec
namespace Go.Proofs.Ytcbimgdgodeppaa
open Go.RowKit Ieee

theorem max_run (g x : Nat) (hg : g ≤ infBits) (hx : x ≤ infBits) (w : World) : (Builtin.max_ #[35, 35] 35 #[.float .f64 g, .float .f64 x]).run Try.prog w = .ok (.float .f64 (max g x)) w := by
  have ho : FloatKind.f64.format.order g x = some (compare g x) := ord_nat hg hx
  rcases Nat.lt_trichotomy g x with h | h | h
  · rw [Nat.compare_eq_lt.2 h] at ho
    rw [Nat.max_eq_right (Nat.le_of_lt h)]
    simp [Builtin.max_, Builtin.max2, ho]
  · subst h
    rw [Nat.compare_eq_eq.2 rfl] at ho
    rw [Nat.max_self]
    simp [Builtin.max_, Builtin.max2, ho]
  · rw [Nat.compare_eq_gt.2 h] at ho
    rw [Nat.max_eq_left (Nat.le_of_lt h)]
    simp [Builtin.max_, Builtin.max2, ho]

set_option maxHeartbeats 1600000 in
set_option maxRecDepth 20000 in
theorem greatest_any (A : Option Addr) (c : Nat) (bs : List Nat) (w : World) (h : Flts w w.heap.size A bs) (hlt : ∀ b ∈ bs, b < 18446744073709551616) (hn : bs.length ≤ 100000) :
    Calls Try.prog 22 #[.slice A bs.length c] w fun e w' => e = .returned (.float .f64 (grN bs)) ∧ w' = w := by
  have HF := Lib.hid h
  have HX := Lib.hid (fun i (hi : i < bs.length) => hlt (bs.getD i 0) (by rw [List.getD_eq_getElem?_getD, List.getElem?_eq_getElem hi]; exact List.getElem_mem hi))
  have HB := Lib.hid (fun k => (grN_spec (bs.take k)).1)
  have HG : Hid (∀ k, k < bs.length → grN (bs.take (k + 1)) = if posN (bs.getD k 0) then max (grN (bs.take k)) (bs.getD k 0) else grN (bs.take k)) := fun k hk => by rw [take_snocN bs hk, grN_snoc]
  have HT : Hid (grN (bs.take bs.length) = grN bs) := by unfold Hid; rw [List.take_length]
  obtain ⟨G, hG⟩ : ∃ G : Nat → Nat, G = fun k => grN (bs.take k) := ⟨_, rfl⟩
  have hGk : ∀ k, grN (bs.take k) = G k := fun k => by rw [hG]
  simp only [hGk] at HB HG HT
  have H0 : Hid (G 0 = 0) := by unfold Hid; rw [hG]; rfl
  rw [← HT.out]
  obtain ⟨N, hN⟩ : ∃ N, N = bs.length := ⟨_, rfl⟩
  have HN := Lib.hid hN
  rw [← hN] at HX HG hn ⊢
  clear h hlt hG hGk hN HT
  go_enter Try.func22, Try.ntmps22
  go_wp2
  go_loop [3, 8] (fun v i => ∃ k : Nat, k ≤ N ∧ i = .int .i64 k ∧ v = .float .f64 (G k)) (fun _ i => N - (intOf i).toNat)
  case atStart => exact ⟨0, Nat.zero_le _, rfl, by rw [H0.out]⟩
  case round =>
    obtain ⟨k, hk, rfl, rfl⟩ := hrel
    by_cases hlt : k < N
    · obtain ⟨b1, off, rfl, _, hc⟩ := HF.out k (by have := HN.out; omega)
      have hxl := HX.out k hlt
      have hgk := HG.out k hlt
      have hgb := HB.out k
      obtain ⟨x, hx⟩ : ∃ x, x = bs.getD k 0 := ⟨_, rfl⟩
      rw [← hx] at hc hxl hgk
      have k1 : (k : Int) < (N : Int) := by omega
      have k0 : (0 : Int) ≤ (k : Int) := by omega
      have HW := Lib.hid (fun W => nothing_any x W hxl)
      by_cases hp : posN x = true
      · have hxb := (pos_bounds hp).2
        rw [if_pos hp] at hgk
        rw [hp] at HW
        have hmx := fun W => max_run (G k) x hgb hxb W
        rw [← hgk] at hmx
        have HGK := Lib.hid (show G (k + 1) = G (k + 1) from rfl)
        obtain ⟨g, hg⟩ : ∃ g, g = G k := ⟨_, rfl⟩
        obtain ⟨g', hg'⟩ : ∃ g, g = G (k + 1) := ⟨_, rfl⟩
        have HGG : Hid (g' = G (k + 1)) := hg'
        rw [← hg, ← hg'] at hmx
        rw [← hg]
        clear hx hxl hgk hgb hp hxb hg hg'
        go_wp2_with (first
          | (go_at_call 33; with_reducible (refine Calls.mono (HW.out _) ?_); rintro e w' ⟨rfl, rfl⟩))
        go_round
        case rel => exact ⟨k + 1, by omega, by go_num, by rw [← HGG.out]⟩
        case measure => simp [intOf]; omega
      · rw [if_neg hp] at hgk
        rw [Bool.not_eq_true] at hp
        rw [hp] at HW
        have HGK := Lib.hid hgk
        clear hx hxl hgk hgb hp
        go_wp2_with (first
          | (go_at_call 33; with_reducible (refine Calls.mono (HW.out _) ?_); rintro e w' ⟨rfl, rfl⟩))
        go_round
        case rel => exact ⟨k + 1, by omega, by go_num, by rw [HGK.out]⟩
        case measure => simp [intOf]; omega
    · have hkN : k = N := by omega
      subst hkN
      have k1 : ¬ (k : Int) < (k : Int) := by omega
      go_wp2
      go_ret
      exact ⟨rfl, rfl⟩

/-- A weight's unit beside the greatest one is its unit among all. -/
theorem unitG_is (bs : List Nat) {b : Nat} (hb : b ∈ bs) : unitG b (grN bs) = unitN (anyInf bs) ((mostN bs).getD 0) b := by
  obtain ⟨i1, i2, i3⟩ := grN_spec bs
  have ha := grN_inf bs
  unfold unitG unitN
  by_cases hp : posN b = true
  · have hle := i2 b hb hp
    have hp0 := pos_bounds hp
    rw [if_pos hp, if_pos hp]
    by_cases hg : grN bs = infBits
    · rw [if_pos hg, ha, if_pos (beq_iff_eq.2 hg)]
      by_cases hbi : b = infBits
      · rw [if_pos hbi, if_pos (by unfold infN; exact beq_iff_eq.2 hbi)]
      · rw [if_neg hbi, if_neg (by unfold infN; rw [beq_iff_eq]; exact hbi)]
    · rw [if_neg hg, ha, if_neg (by rw [beq_iff_eq]; exact hg), grN_most (by omega) (by omega)]
  · have hi : infN b = false := by
      cases h : infN b with
      | false => rfl
      | true =>
        have h1 : b = infBits := by simpa [infN] using h
        rw [h1] at hp
        exact absurd (by decide) hp
    rw [if_neg hp, if_neg hp, hi]
    cases anyInf bs <;> rfl

set_option maxHeartbeats 1600000 in
set_option maxRecDepth 20000 in
theorem units_any (A : Option Addr) (c : Nat) (bs : List Nat) (w : World) (h : Flts w w.heap.size A bs) (hlt : ∀ b ∈ bs, b < 18446744073709551616) (hn : bs.length ≤ 100000) :
    Calls Try.prog 13 #[.slice A bs.length c] w fun e w' => e = .returned (.slice (some ⟨w.heap.size, 0, none⟩) bs.length bs.length) ∧ Rw w.heap.size (up (unitsN bs)) w' ∧ Below w.heap.size w w' := by
  have HGR := Lib.hid ((greatest_any A c bs w h hlt hn).mono (R' := fun e w' => e = .returned (.float .f64 (grN bs)) ∧ w = w') fun e w' ⟨p1, p2⟩ => ⟨p1, p2.symm⟩)
  obtain ⟨i1, i2, i3⟩ := grN_spec bs
  have HX : Hid (∀ k, k < bs.length → ∀ W, Calls Try.prog 23 #[.float .f64 (bs.getD k 0), .float .f64 (grN bs)] W fun e w' => e = .returned (.int .i64 ((up (unitsN bs)).getD k 0)) ∧ w' = W) := fun k hk W => by
    have hm : bs.getD k 0 ∈ bs := by rw [List.getD_eq_getElem?_getD, List.getElem?_eq_getElem hk]; exact List.getElem_mem hk
    have h1 := unit_any (bs.getD k 0) (grN bs) W (hlt _ hm) i1 (fun hp => i2 _ hm hp)
    rw [unitG_is bs hm, ← unitsN_at bs hk, ← up_at (by rw [unitsN_len]; exact hk)] at h1
    exact h1
  have HF : Hid (∀ W, Below w.heap.size w W → ∀ k, k < bs.length → ∃ b o, A = some ⟨b, o, none⟩ ∧ W.cell? ⟨b, o + k, none⟩ = some (.float .f64 (bs.getD k 0))) := fun W hb k hk => by
    obtain ⟨b, o, e, _, hc⟩ := (h.below hb) k hk
    exact ⟨b, o, e, hc⟩
  have hQl : (up (unitsN bs)).length = bs.length := by simp [up, unitsN_len]
  obtain ⟨Q, hQ⟩ : ∃ Q, Q = up (unitsN bs) := ⟨_, rfl⟩
  rw [← hQ] at HX hQl ⊢
  obtain ⟨G, hG⟩ : ∃ G, G = grN bs := ⟨_, rfl⟩
  rw [← hG] at HX HGR
  obtain ⟨N, hN⟩ : ∃ N, N = bs.length := ⟨_, rfl⟩
  rw [← hN] at HGR HX HF hQl hn ⊢
  have hmk := make_ints N hn
  obtain ⟨Z, hZ⟩ : ∃ Z, Z = CJ (List.replicate N 0) := ⟨_, rfl⟩
  rw [← hZ] at hmk
  have H0 : Hid (Rw w.heap.size (fillL Q 0) (w.alloc (.cells Z 3)) ∧ Below w.heap.size w (w.alloc (.cells Z 3))) := by
    refine ⟨?_, (Below.refl _ _).alloc (Nat.le_refl _) _⟩
    show _ = _
    rw [fillL_zero, hQl, ← hZ]; exact heap_alloc_new w _
  have HNX : Hid (∀ k, k < N → (fillL Q k).set k (Q.getD k 0) = fillL Q (k + 1)) := fun k hk => fillL_next (by omega)
  have HLN : Hid (∀ k, k ≤ N → (fillL Q k).length = N) := fun k hk => by rw [fillL_len Q (by omega), hQl]
  have HAL : Hid (fillL Q N = Q) := by unfold Hid; rw [← hQl, fillL_all]
  clear h hlt i1 i2 i3 hQ hG hN hZ hQl
  go_enter Try.func13, Try.ntmps13
  go_wp2_with (go_at_call 22; with_reducible (refine Calls.mono HGR.out ?_); rintro e w' ⟨rfl, rfl⟩)
  clear hmk HGR
  go_loopw [14] (fun v wr => ∃ k : Nat, k ≤ N ∧ v = .int .i64 k ∧ Hid (Rw w.heap.size (fillL Q k) wr ∧ Below w.heap.size w wr)) (fun v _ => N - (intOf v).toNat)
  case atStart => exact ⟨0, Nat.zero_le _, rfl, H0⟩
  case round =>
    clear H0
    obtain ⟨k, hk, rfl, HI⟩ := hrel
    by_cases hlt : k < N
    · obtain ⟨r1, hb⟩ := HI.out
      obtain ⟨b, o, rfl, hc⟩ := HF.out wr hb k hlt
      have HU := Lib.hid (HX.out k hlt)
      have c1 := r1.cell (i := k) (by rw [HLN.out k hk]; exact hlt)
      have f1 := r1.thaw k
      have s1 := r1.set k (Q.getD k 0)
      rw [HNX.out k hlt] at s1
      obtain ⟨x, hx⟩ : ∃ x, x = bs.getD k 0 := ⟨_, rfl⟩
      obtain ⟨y, hy⟩ : ∃ y, y = Q.getD k 0 := ⟨_, rfl⟩
      rw [← hx] at hc HU
      rw [← hy] at HU s1
      have R : Hid (Rw w.heap.size (fillL Q (k + 1)) (wr.setCell ⟨w.heap.size, k, none⟩ (.int .i64 y)) ∧ Below w.heap.size w (wr.setCell ⟨w.heap.size, k, none⟩ (.int .i64 y))) := ⟨s1, hb.setCell (p := ⟨w.heap.size, k, none⟩) (Nat.le_refl _) _⟩
      have k1 : (k : Int) < (N : Int) := by omega
      have k0 : (0 : Int) ≤ (k : Int) := by omega
      clear HI r1 hb hx hy s1 HX HF
      go_wp2_with (go_at_call 23; with_reducible (refine Calls.mono (HU.out _) ?_); rintro e w' ⟨rfl, rfl⟩)
      go_roundw
      case rel => exact ⟨k + 1, by omega, by go_num, R⟩
      case measure => simp [intOf]; omega
    · have hkN : k = N := by omega
      subst hkN
      have k1 : ¬ (k : Int) < (k : Int) := by omega
      have R := HI.out
      rw [HAL.out] at R
      replace R := Lib.hid R
      clear HI
      go_wp2
      go_ret
      exact ⟨rfl, R.out⟩

theorem weigh_spec (w : World) : WeighSpec w := by
  refine ⟨fun A c bs W hW hf hlt hc hn => (units_any A c bs W hf hlt hn).mono fun e w' ⟨p1, p2, p3⟩ => ⟨_, _, p1, Nat.le_refl _, p2.ints, p3⟩, fun total A c bs W hW ht hf hlt hc hn => ?_⟩
  unfold shareR
  by_cases hbad : total < 0 ∨ total > 1048576 ∨ bs.length = 0 ∨ bs.length > 4096
  · rw [if_pos hbad]
    exact (share_arg total A bs.length c W hbad).mono fun e w' ⟨p1, p2⟩ => ⟨none, 0, p1, Nat.le_refl _, fun i hi => absurd hi (Nat.not_lt_zero i), by rw [p2]; exact Below.refl _ _⟩
  · rw [if_neg hbad]
    have hU := (units_any A c bs W hf hlt hn).mono (R' := fun e w' => ∃ A' c', e = .returned (.slice A' bs.length c') ∧ Ints w' w'.heap.size .i64 A' (up (unitsN bs)) ∧ Below W.heap.size W w') fun e w' ⟨p1, p2, p3⟩ => ⟨_, _, p1, p2.ints, p3⟩
    refine (share_go total A bs.length c (unitsN bs) W (by omega) (by omega) (by omega) (by omega) (unitsN_len bs) (unitsN_lt bs) hU).mono fun e w' hq => ?_
    rcases hq with ⟨hz, p1, p2⟩ | ⟨hz, g, p1, p2, p3⟩
    · rw [if_pos hz]
      exact ⟨none, 0, p1, Nat.le_refl _, fun i hi => absurd hi (Nat.not_lt_zero i), p2⟩
    · rw [if_neg hz]
      have hl : (shareN total (unitsN bs)).length = bs.length := by rw [shareN_len, unitsN_len]
      exact ⟨some ⟨g, 0, none⟩, bs.length, by rw [p1]; simp only [hl], by simp only [hl]; exact Nat.le_refl _, p2, p3⟩

end Go.Proofs.Ytcbimgdgodeppaa
