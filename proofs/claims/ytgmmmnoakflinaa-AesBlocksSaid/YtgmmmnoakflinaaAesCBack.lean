/-
  The program's deciphering of a block.
-/
import Derived.Test.YtgmmmnoakflinaaAesCBlk
namespace Go.Proofs.Ytgmmmnoakflinaa
open Go.RowKit

set_option maxHeartbeats 800000 in
/-- 'Back', refused. -/
theorem back_nil (A : Option Addr) (n c : Nat) (w : World) : Calls Try.prog 13 #[.pointer none, .slice A n c] w fun e w' => e = .returned (.tuple #[.slice none 0 0, .int .i64 11]) ∧ w = w' := by
  have HF := Lib.hid (refuse_nil A n c)
  go_enter Try.func13, Try.ntmps13
  go_wp2_with (go_at_call 18; with_reducible (refine Calls.mono (HF.out _) ?_); rintro e w' ⟨rfl, rfl⟩)
  go_ret2
  exact ⟨rfl, rfl⟩

set_option maxHeartbeats 6400000 in
set_option maxRecDepth 20000 in
/-- 'Back'. -/
theorem back_any (a : Addr) (key : List Nat) (A : Option Addr) (c : Nat) (b : List Nat) (w : World) (hC : Ciph w a key) (hr : Ints w w.heap.size .u8 A (up b)) (hb : ∀ x ∈ b, x < 256) (hl : b.length = 16) (hc : 16 ≤ c) :
    Calls Try.prog 13 #[.pointer (some a), .slice A 16 c] w fun e w' => ∃ g, e = .returned (.tuple #[.slice (some ⟨g, 0, none⟩) 16 16, .int .i64 0]) ∧ w'.heap[g]? = some (.cells (BA (decN key b)) 5 (0, 0)) ∧ Below w.heap.size w w' := by
  obtain ⟨hkl, hk, g, t, fr, rfl, hg⟩ := hC
  have hgl := lt_row hg
  have hu := Try.underlying42
  have hz := (zero_of_info (P := Try.prog) (t := 42) (v := .agg (BA (zeros 16))) (n := 16) (by kernel_rfl)).1
  obtain ⟨Z, hZ⟩ : ∃ Z, Z = zeros 16 := ⟨_, rfl⟩
  have hzl : Z.length = 16 := by rw [hZ]; rfl
  rw [← hZ] at hz
  have hi16 : (Try.prog.info? 42).map (·.size) = some 16 := by kernel_rfl
  have HI16 := Lib.hid hi16
  have HCI : Hid (∀ W, Below w.heap.size w W → W.heap[g]? = some (.cells (BA (ciph key 11)) t fr)) := fun W hb => (hb.block g hgl).trans hg
  have HKR : Hid (∀ W r, Below w.heap.size w W → r < 11 → W.rangeAt g (512 + 16 * r) (vals (rk key r))) := fun W r hb hr => by
    have := range_BA (HCI.out W hb) (o := 512 + 16 * r) (n := 16) (by rw [ciph_len]; omega)
    rwa [ciph_key key hr (Nat.le_refl _)] at this
  have HKO := Lib.hid (fun r => rk_ok hk r)
  have HOB : Hid (Ok16 b) := ⟨hl, hb⟩
  have hBO := fun (W : World) (h : Below w.heap.size w W) => blockOf_any A c b W ((hr.below h).more h.size) ⟨hl, hb⟩ hc
  have HBO := Lib.hid hBO
  have HBX : Hid (∀ (l : List Nat) (W : World), Ok16 l → Below w.heap.size w W → Calls Try.prog 20 #[.agg (BA l), .pointer (some ⟨g, 256, none⟩)] W fun e w' => e = .returned (.agg (BA (replL ibox l))) ∧ Below W.heap.size W w') := fun l W hl h =>
    repl_any l ibox g 256 W hl box_lt_i (lt_row (HCI.out W h)) fun i hi => by rw [BA_cell (HCI.out W h) (i := 256 + i) (by rw [ciph_len]; omega), ciph_ibox key 11 hi]
  have HTN : Hid (∀ (l : List Nat) (W : World), Ok16 l → Calls Try.prog 21 #[.agg (BA l), .int .i64 3] W fun e w' => e = .returned (.agg (BA (turnL l 3))) ∧ Below W.heap.size W w') := fun l W hl => turn_any l 3 W hl (by decide)
  have HMX : Hid (∀ (l : List Nat) (W : World), Ok16 l → Calls Try.prog 22 #[.agg (BA l), .int .i64 3] W fun e w' => e = .returned (.agg (BA (mixT l 3))) ∧ Below W.heap.size W w') := fun l W hl => mix_any l 3 W hl (by decide)
  have HPL := Lib.hid (fun (l k : List Nat) (W : World) (hl : Ok16 l) (hk : Ok16 k) => plus_any l k W hl hk)
  have HBY := Lib.hid (fun (l : List Nat) (W : World) (hl : Ok16 l) => bytes_any l W hl)
  have HDO := Lib.hid (fun n => decTo_ok (key := key) HOB.out n)
  have HDN := Lib.hid (decN_ok hk HOB.out)
  have HE0 : Hid (replL ibox (turnL (plusL b (rk key 10)) 3) = decTo key b 1) := undo_last
  have HEN : Hid (∀ m, m < 9 → replL ibox (turnL (mixT (plusL (decTo key b (10 - (m + 1))) (rk key (m + 1))) 3) 3) = decTo key b (10 - m)) := fun m hm => by
    rw [undo_code hk (HDO.out _) (by omega), show 10 - m = (10 - (m + 1)) + 1 by omega, decTo, show 10 - (10 - (m + 1)) = m + 1 by omega]
  have HEL : Hid (plusL (decTo key b 10) (rk key 0) = decN key b) := plus_rk key _ 0
  have HF := Lib.hid (refuse_ok ⟨g, 0, none⟩ A c)
  have hP0 := fun W => HPL.out b (rk key 10) W HOB.out (HKO.out 10)
  have hT0 := fun W => HTN.out (plusL b (rk key 10)) W (plusL_ok HOB.out (HKO.out 10))
  have hR0 := fun W (h : Below w.heap.size w W) => HBX.out (turnL (plusL b (rk key 10)) 3) W (turnL_ok (plusL_ok HOB.out (HKO.out 10)) 3) h
  rw [HE0.out] at hR0
  have hl0 := (HDO.out 1).len
  have hkl0 := (HKO.out 10).len
  have HSS : Hid (∀ W', Below w.heap.size w W' → W'.rangeAt g 672 (vals (rk key 10)) ∧ Below w.heap.size w W') := fun W' h => ⟨HKR.out W' 10 h (by decide), h⟩
  have HS2 : Hid (∀ (W' : World) (gb : Nat), w.heap.size ≤ gb → W'.rangeAt g 672 (vals (rk key 10)) ∧ Below w.heap.size w W' → (W'.setCells gb 0 (vals (decTo key b 1))).rangeAt g 672 (vals (rk key 10)) ∧ Below w.heap.size w (W'.setCells gb 0 (vals (decTo key b 1)))) := fun W' gb hgb h =>
    ⟨World.rangeAt_setCells_apart h.1 _ _ _ (Or.inl (by omega)), below_setCs h.2 hgb _ _⟩
  have HPZ : Hid (putL Z 0 (decTo key b 1) = decTo key b 1) := putL_full hzl hl0
  obtain ⟨l0, hl0e⟩ : ∃ l, l = decTo key b 1 := ⟨_, rfl⟩
  obtain ⟨k0, hk0e⟩ : ∃ k, k = rk key 10 := ⟨_, rfl⟩
  simp only [← hl0e, ← hk0e] at hP0 hT0 hR0 HSS HS2 HPZ hl0 hkl0
  obtain ⟨m1, hm1⟩ : ∃ m, m = plusL b k0 := ⟨_, rfl⟩
  simp only [← hm1] at hP0 hT0 hR0
  obtain ⟨m2, hm2⟩ : ∃ m, m = turnL m1 3 := ⟨_, rfl⟩
  simp only [← hm2] at hT0 hR0
  have hi0 : (Try.prog.info? 42).map (·.size) = some l0.length := by rw [hl0]; exact hi16
  have hi_k0 : (Try.prog.info? 42).map (·.size) = some k0.length := by rw [hkl0]; exact hi16
  have HP0 := Lib.hid hP0
  have HT0 := Lib.hid hT0
  have HR0 := Lib.hid hR0
  have HL0 := Lib.hid hl0e
  have hbx : Below w.heap.size w w.drew := (Below.refl _ _).drew
  have hb0 : Below w.heap.size w w := Below.refl _ _
  clear hP0 hT0 hR0 hBO hZ hg hr hb hl hc hk hkl hl0e hk0e hi16 hkl0 hm1 hm2
  go_enter Try.func13, Try.ntmps13
  go_wp2_with (go_at_call 18; with_reducible (refine Calls.mono (HF.out _) ?_); rintro e w' ⟨rfl, rfl⟩)
  go_cut [7] (fun v wq => ∃ gb, v = .pointer (some ⟨gb, 0, none⟩) ∧ w.heap.size ≤ gb ∧ wq.heap[gb]? = some (.cells (BA l0) 42 (0, 0)) ∧ Below w.heap.size w wq)
  case first =>
    refine wp_region_held_drew (S := (fun W' => W'.rangeAt g 672 (vals k0) ∧ Below w.heap.size w W')) (by kernel_rfl) (HSS.out _ hbx) (fun hHeld => ?_)
    refine wpAnyH_take (i := 0) (oi := _) (v := ?_) rfl (by kernel_rfl) (by kernel_rfl) (by kernel_rfl) (fun _ _ _ h => h) (Or.inl ⟨by rfl, ?_⟩) (by assumption) ?_
    rotate_left 1
    · intro w hSw; clear hSw; first | (go_simp; done) | (go_simp; with_reducible rfl)
    change wpAnyH _ _ _ _ _ _ _ (Act.put _ (some 15) _) _
    (try simp only [Act.put, List.setIfInBounds_toArray, List.set_cons_zero, List.set_cons_succ])
    refine wpAnyH_take (i := 2) (oi := _) (v := ?_) rfl (by kernel_rfl) (by kernel_rfl) (by kernel_rfl) (fun _ _ _ h => h) (Or.inl ⟨by rfl, ?_⟩) (by assumption) ?_
    rotate_left 1
    · intro w hSw; clear hSw; first | (go_simp; done) | (go_simp; with_reducible rfl)
    change wpAnyH _ _ _ _ _ _ _ (Act.put _ (some 17) _) _
    (try simp only [Act.put, List.setIfInBounds_toArray, List.set_cons_zero, List.set_cons_succ])
    refine wpAnyH_take (i := 3) (oi := _) (v := ?_) rfl (by kernel_rfl) (by kernel_rfl) (by kernel_rfl) (fun _ _ _ h => h) (Or.inl ⟨by rfl, ?_⟩) (by assumption) ?_
    rotate_left 1
    · intro w hSw; clear hSw; first | (go_simp; done) | (go_simp; with_reducible rfl)
    change wpAnyH _ _ _ _ _ _ _ (Act.put _ (some 18) _) _
    (try simp only [Act.put, List.setIfInBounds_toArray, List.set_cons_zero, List.set_cons_succ])
    refine wpAnyH_take (i := 4) (oi := _) (v := ?_) rfl (by kernel_rfl) (by kernel_rfl) (by kernel_rfl) (fun _ _ _ h => h) (Or.inl ⟨by rfl, ?_⟩) (by assumption) ?_
    rotate_left 1
    · intro w hSw; clear hSw; first | (go_simp; done) | (go_simp; with_reducible rfl)
    change wpAnyH _ _ _ _ _ _ _ (Act.put _ (some 19) _) _
    (try simp only [Act.put, List.setIfInBounds_toArray, List.set_cons_zero, List.set_cons_succ])
    refine wpAnyH_take (i := 5) (oi := _) (v := ?_) rfl (by kernel_rfl) (by kernel_rfl) (by kernel_rfl) (fun _ _ _ h => h) (Or.inl ⟨by rfl, ?_⟩) (by assumption) ?_
    rotate_left 1
    · intro w hSw; clear hSw; first | (go_simp; done) | (go_simp; with_reducible rfl)
    change wpAnyH _ _ _ _ _ _ _ (Act.put _ (some 20) _) _
    (try simp only [Act.put, List.setIfInBounds_toArray, List.set_cons_zero, List.set_cons_succ])
    refine wpAnyH_take (i := 6) (oi := _) rfl (by kernel_rfl) (by kernel_rfl) (by kernel_rfl) (fun _ _ _ h => h) (yields_load_BA (by rfl) 42 _ rfl g 672 rfl k0 _ (fun _ h => h.1) hu rfl hi_k0) (by assumption) ?_
    change wpAnyH _ _ _ _ _ _ _ (Act.put _ (some 21) _) _
    (try simp only [Act.put, List.setIfInBounds_toArray, List.set_cons_zero, List.set_cons_succ])
    refine wpAnyH_take (i := 9) (oi := _) (v := ?_) rfl (by kernel_rfl) (by kernel_rfl) (by kernel_rfl) (fun _ _ _ h => h) (Or.inl ⟨by rfl, ?_⟩) (by assumption) ?_
    rotate_left 1
    · intro w hSw; clear hSw; first | (go_simp; done) | (go_simp; with_reducible rfl)
    change wpAnyH _ _ _ _ _ _ _ (Act.put _ (some 24) _) _
    (try simp only [Act.put, List.setIfInBounds_toArray, List.set_cons_zero, List.set_cons_succ])
    refine wpAnyH_take (i := 10) (oi := _) (v := ?_) rfl (by kernel_rfl) (by kernel_rfl) (by kernel_rfl) (fun _ _ _ h => h) (Or.inl ⟨by rfl, ?_⟩) (by assumption) ?_
    rotate_left 1
    · intro w hSw; clear hSw; first | (go_simp; done) | (go_simp; with_reducible rfl)
    change wpAnyH _ _ _ _ _ _ _ (Act.put _ (some 25) _) _
    (try simp only [Act.put, List.setIfInBounds_toArray, List.set_cons_zero, List.set_cons_succ])
    refine wpAnyH_take (i := 11) (oi := _) (v := ?_) rfl (by kernel_rfl) (by kernel_rfl) (by kernel_rfl) (fun _ _ _ h => h) (Or.inl ⟨by rfl, ?_⟩) (by assumption) ?_
    rotate_left 1
    · intro w hSw; clear hSw; first | (go_simp; done) | (go_simp; with_reducible rfl)
    change wpAnyH _ _ _ _ _ _ _ (Act.put _ (some 26) _) _
    (try simp only [Act.put, List.setIfInBounds_toArray, List.set_cons_zero, List.set_cons_succ])
    refine wpAnyH_take (i := 12) (oi := _) (v := ?_) rfl (by kernel_rfl) (by kernel_rfl) (by kernel_rfl) (fun _ _ _ h => h) (Or.inl ⟨by rfl, ?_⟩) (by assumption) ?_
    rotate_left 1
    · intro w hSw; clear hSw; first | (go_simp; done) | (go_simp; with_reducible rfl)
    change wpAnyH _ _ _ _ _ _ _ (Act.put _ (some 27) _) _
    (try simp only [Act.put, List.setIfInBounds_toArray, List.set_cons_zero, List.set_cons_succ])
    refine wpAnyH_ready (rs := [1, 14]) (by kernel_rfl) (by simp) ?_
    refine AllReadyH.cons (o := _) rfl (fun K hK => ?_) (AllReadyH.cons (o := _) rfl (fun K hK => ?_) (AllReadyH.nil))
    · go_simp
      (go_at_call 15; with_reducible (refine Calls.mono (HBO.out _ hbx) ?_); rintro e v1 ⟨rfl, hb_v1⟩; replace hbx := chain hbx hb_v1)
      refine hK.out _ _ (HSS.out _ hbx) (fun hHeld1 => ?_)
      (try simp only [Act.put, List.setIfInBounds_toArray, List.set_cons_zero, List.set_cons_succ])
      clear hK K
      refine wpAnyH_ready (rs := [7, 14]) (by kernel_rfl) (by simp) ?_
      refine AllReadyH.cons (o := _) rfl (fun K hK => ?_) (AllReadyH.cons (o := _) rfl (fun K hK => ?_) (AllReadyH.nil))
      · go_simp
        (go_at_call 19; with_reducible (refine Calls.mono (HP0.out _) ?_); rintro e v2 ⟨rfl, hb_v2⟩; replace hbx := chain hbx hb_v2)
        refine hK.out _ _ (HSS.out _ hbx) (fun hHeld7 => ?_)
        (try simp only [Act.put, List.setIfInBounds_toArray, List.set_cons_zero, List.set_cons_succ])
        clear hK K
        refine wpAnyH_ready (rs := [8, 14]) (by kernel_rfl) (by simp) ?_
        refine AllReadyH.cons (o := _) rfl (fun K hK => ?_) (AllReadyH.cons (o := _) rfl (fun K hK => ?_) (AllReadyH.nil))
        · go_simp
          (go_at_call 21; with_reducible (refine Calls.mono (HT0.out _) ?_); rintro e v3 ⟨rfl, hb_v3⟩; replace hbx := chain hbx hb_v3)
          refine hK.out _ _ (HSS.out _ hbx) (fun hHeld8 => ?_)
          (try simp only [Act.put, List.setIfInBounds_toArray, List.set_cons_zero, List.set_cons_succ])
          clear hK K
          refine wpAnyH_ready (rs := [13, 14]) (by kernel_rfl) (by simp) ?_
          refine AllReadyH.cons (o := _) rfl (fun K hK => ?_) (AllReadyH.cons (o := _) rfl (fun K hK => ?_) (AllReadyH.nil))
          · go_simp
            (go_at_call 20; with_reducible (refine Calls.mono (HR0.out _ hbx) ?_); rintro e v4 ⟨rfl, hb_v4⟩; replace hbx := chain hbx hb_v4)
            refine hK.out _ _ (HSS.out _ hbx) (fun hHeld13 => ?_)
            (try simp only [Act.put, List.setIfInBounds_toArray, List.set_cons_zero, List.set_cons_succ])
            clear hK K
            refine wpAnyH_ready (rs := [14]) (by kernel_rfl) (by simp) ?_
            refine AllReadyH.cons (o := _) rfl (fun K hK => ?_) AllReadyH.nil
            go_simp
            have hq := heap_alloc_new v4 (.cells (BA Z) 42); have hgb : w.heap.size ≤ v4.heap.size := hbx.size; replace hbx := hbx.alloc hbx.size (.cells (BA Z) 42)
            refine hK.out _ _ (HSS.out _ hbx) (fun hHeld14 => ?_)
            (try simp only [Act.put, List.setIfInBounds_toArray, List.set_cons_zero, List.set_cons_succ])
            clear hK K
            refine wpAnyH_ready (rs := [15]) (by kernel_rfl) (by simp) ?_
            refine AllReadyH.cons (o := _) rfl (fun K hK => ?_) AllReadyH.nil
            refine step_store_BA (by rfl) 42 _ _ rfl _ 0 l0 rfl rfl (by rw [hl0]; exact there_BA hq (by rw [hzl]; decide)) hi0 ?_
            refine hK.out _ _ (HS2.out _ _ hgb (HSS.out _ hbx)) (fun hHeld15 => ?_)
            clear hK K
            refine wpAnyH_done (by kernel_rfl) ?_ _
            have hp := put_BA hq 0 l0
            rw [HPZ.out] at hp
            have hp2 := below_setCs hbx hgb (vals l0) 0
            have RR := Lib.hid (And.intro hgb (And.intro hp hp2))
            clear hp hp2 hq hgb hbx
            go_wp2
            go_meet
            exact ⟨_, rfl, RR.out⟩
          · go_simp
            have hq := heap_alloc_new v3 (.cells (BA Z) 42); have hgb : w.heap.size ≤ v3.heap.size := hbx.size; replace hbx := hbx.alloc hbx.size (.cells (BA Z) 42)
            refine hK.out _ _ (HSS.out _ hbx) (fun hHeld14 => ?_)
            (try simp only [Act.put, List.setIfInBounds_toArray, List.set_cons_zero, List.set_cons_succ])
            clear hK K
            refine wpAnyH_ready (rs := [13]) (by kernel_rfl) (by simp) ?_
            refine AllReadyH.cons (o := _) rfl (fun K hK => ?_) AllReadyH.nil
            go_simp
            (go_at_call 20; with_reducible (refine Calls.mono (HR0.out _ hbx) ?_); rintro e v4 ⟨rfl, hb_v4⟩; replace hbx := chain hbx hb_v4; replace hq := (hb_v4.block _ (lt_row hq)).trans hq)
            refine hK.out _ _ (HSS.out _ hbx) (fun hHeld13 => ?_)
            (try simp only [Act.put, List.setIfInBounds_toArray, List.set_cons_zero, List.set_cons_succ])
            clear hK K
            refine wpAnyH_ready (rs := [15]) (by kernel_rfl) (by simp) ?_
            refine AllReadyH.cons (o := _) rfl (fun K hK => ?_) AllReadyH.nil
            refine step_store_BA (by rfl) 42 _ _ rfl _ 0 l0 rfl rfl (by rw [hl0]; exact there_BA hq (by rw [hzl]; decide)) hi0 ?_
            refine hK.out _ _ (HS2.out _ _ hgb (HSS.out _ hbx)) (fun hHeld15 => ?_)
            clear hK K
            refine wpAnyH_done (by kernel_rfl) ?_ _
            have hp := put_BA hq 0 l0
            rw [HPZ.out] at hp
            have hp2 := below_setCs hbx hgb (vals l0) 0
            have RR := Lib.hid (And.intro hgb (And.intro hp hp2))
            clear hp hp2 hq hgb hbx
            go_wp2
            go_meet
            exact ⟨_, rfl, RR.out⟩
        · go_simp
          have hq := heap_alloc_new v2 (.cells (BA Z) 42); have hgb : w.heap.size ≤ v2.heap.size := hbx.size; replace hbx := hbx.alloc hbx.size (.cells (BA Z) 42)
          refine hK.out _ _ (HSS.out _ hbx) (fun hHeld14 => ?_)
          (try simp only [Act.put, List.setIfInBounds_toArray, List.set_cons_zero, List.set_cons_succ])
          clear hK K
          refine wpAnyH_ready (rs := [8]) (by kernel_rfl) (by simp) ?_
          refine AllReadyH.cons (o := _) rfl (fun K hK => ?_) AllReadyH.nil
          go_simp
          (go_at_call 21; with_reducible (refine Calls.mono (HT0.out _) ?_); rintro e v3 ⟨rfl, hb_v3⟩; replace hbx := chain hbx hb_v3; replace hq := (hb_v3.block _ (lt_row hq)).trans hq)
          refine hK.out _ _ (HSS.out _ hbx) (fun hHeld8 => ?_)
          (try simp only [Act.put, List.setIfInBounds_toArray, List.set_cons_zero, List.set_cons_succ])
          clear hK K
          refine wpAnyH_ready (rs := [13]) (by kernel_rfl) (by simp) ?_
          refine AllReadyH.cons (o := _) rfl (fun K hK => ?_) AllReadyH.nil
          go_simp
          (go_at_call 20; with_reducible (refine Calls.mono (HR0.out _ hbx) ?_); rintro e v4 ⟨rfl, hb_v4⟩; replace hbx := chain hbx hb_v4; replace hq := (hb_v4.block _ (lt_row hq)).trans hq)
          refine hK.out _ _ (HSS.out _ hbx) (fun hHeld13 => ?_)
          (try simp only [Act.put, List.setIfInBounds_toArray, List.set_cons_zero, List.set_cons_succ])
          clear hK K
          refine wpAnyH_ready (rs := [15]) (by kernel_rfl) (by simp) ?_
          refine AllReadyH.cons (o := _) rfl (fun K hK => ?_) AllReadyH.nil
          refine step_store_BA (by rfl) 42 _ _ rfl _ 0 l0 rfl rfl (by rw [hl0]; exact there_BA hq (by rw [hzl]; decide)) hi0 ?_
          refine hK.out _ _ (HS2.out _ _ hgb (HSS.out _ hbx)) (fun hHeld15 => ?_)
          clear hK K
          refine wpAnyH_done (by kernel_rfl) ?_ _
          have hp := put_BA hq 0 l0
          rw [HPZ.out] at hp
          have hp2 := below_setCs hbx hgb (vals l0) 0
          have RR := Lib.hid (And.intro hgb (And.intro hp hp2))
          clear hp hp2 hq hgb hbx
          go_wp2
          go_meet
          exact ⟨_, rfl, RR.out⟩
      · go_simp
        have hq := heap_alloc_new v1 (.cells (BA Z) 42); have hgb : w.heap.size ≤ v1.heap.size := hbx.size; replace hbx := hbx.alloc hbx.size (.cells (BA Z) 42)
        refine hK.out _ _ (HSS.out _ hbx) (fun hHeld14 => ?_)
        (try simp only [Act.put, List.setIfInBounds_toArray, List.set_cons_zero, List.set_cons_succ])
        clear hK K
        refine wpAnyH_ready (rs := [7]) (by kernel_rfl) (by simp) ?_
        refine AllReadyH.cons (o := _) rfl (fun K hK => ?_) AllReadyH.nil
        go_simp
        (go_at_call 19; with_reducible (refine Calls.mono (HP0.out _) ?_); rintro e v2 ⟨rfl, hb_v2⟩; replace hbx := chain hbx hb_v2; replace hq := (hb_v2.block _ (lt_row hq)).trans hq)
        refine hK.out _ _ (HSS.out _ hbx) (fun hHeld7 => ?_)
        (try simp only [Act.put, List.setIfInBounds_toArray, List.set_cons_zero, List.set_cons_succ])
        clear hK K
        refine wpAnyH_ready (rs := [8]) (by kernel_rfl) (by simp) ?_
        refine AllReadyH.cons (o := _) rfl (fun K hK => ?_) AllReadyH.nil
        go_simp
        (go_at_call 21; with_reducible (refine Calls.mono (HT0.out _) ?_); rintro e v3 ⟨rfl, hb_v3⟩; replace hbx := chain hbx hb_v3; replace hq := (hb_v3.block _ (lt_row hq)).trans hq)
        refine hK.out _ _ (HSS.out _ hbx) (fun hHeld8 => ?_)
        (try simp only [Act.put, List.setIfInBounds_toArray, List.set_cons_zero, List.set_cons_succ])
        clear hK K
        refine wpAnyH_ready (rs := [13]) (by kernel_rfl) (by simp) ?_
        refine AllReadyH.cons (o := _) rfl (fun K hK => ?_) AllReadyH.nil
        go_simp
        (go_at_call 20; with_reducible (refine Calls.mono (HR0.out _ hbx) ?_); rintro e v4 ⟨rfl, hb_v4⟩; replace hbx := chain hbx hb_v4; replace hq := (hb_v4.block _ (lt_row hq)).trans hq)
        refine hK.out _ _ (HSS.out _ hbx) (fun hHeld13 => ?_)
        (try simp only [Act.put, List.setIfInBounds_toArray, List.set_cons_zero, List.set_cons_succ])
        clear hK K
        refine wpAnyH_ready (rs := [15]) (by kernel_rfl) (by simp) ?_
        refine AllReadyH.cons (o := _) rfl (fun K hK => ?_) AllReadyH.nil
        refine step_store_BA (by rfl) 42 _ _ rfl _ 0 l0 rfl rfl (by rw [hl0]; exact there_BA hq (by rw [hzl]; decide)) hi0 ?_
        refine hK.out _ _ (HS2.out _ _ hgb (HSS.out _ hbx)) (fun hHeld15 => ?_)
        clear hK K
        refine wpAnyH_done (by kernel_rfl) ?_ _
        have hp := put_BA hq 0 l0
        rw [HPZ.out] at hp
        have hp2 := below_setCs hbx hgb (vals l0) 0
        have RR := Lib.hid (And.intro hgb (And.intro hp hp2))
        clear hp hp2 hq hgb hbx
        go_wp2
        go_meet
        exact ⟨_, rfl, RR.out⟩
    · go_simp
      have hq : (w.alloc (.cells (BA Z) 42)).drew.heap[w.heap.size]? = some (.cells (BA Z) 42 (0, 0)) := heap_alloc_new w _; have hgb : w.heap.size ≤ w.heap.size := Nat.le_refl _; replace hbx : Below w.heap.size w (w.alloc (.cells (BA Z) 42)).drew := ((Below.refl _ _).alloc (Nat.le_refl _) _).drew
      refine hK.out _ _ (HSS.out _ hbx) (fun hHeld14 => ?_)
      (try simp only [Act.put, List.setIfInBounds_toArray, List.set_cons_zero, List.set_cons_succ])
      clear hK K
      refine wpAnyH_ready (rs := [1]) (by kernel_rfl) (by simp) ?_
      refine AllReadyH.cons (o := _) rfl (fun K hK => ?_) AllReadyH.nil
      go_simp
      (go_at_call 15; with_reducible (refine Calls.mono (HBO.out _ hbx) ?_); rintro e v1 ⟨rfl, hb_v1⟩; replace hbx := chain hbx hb_v1; replace hq := (hb_v1.block _ (lt_row hq)).trans hq)
      refine hK.out _ _ (HSS.out _ hbx) (fun hHeld1 => ?_)
      (try simp only [Act.put, List.setIfInBounds_toArray, List.set_cons_zero, List.set_cons_succ])
      clear hK K
      refine wpAnyH_ready (rs := [7]) (by kernel_rfl) (by simp) ?_
      refine AllReadyH.cons (o := _) rfl (fun K hK => ?_) AllReadyH.nil
      go_simp
      (go_at_call 19; with_reducible (refine Calls.mono (HP0.out _) ?_); rintro e v2 ⟨rfl, hb_v2⟩; replace hbx := chain hbx hb_v2; replace hq := (hb_v2.block _ (lt_row hq)).trans hq)
      refine hK.out _ _ (HSS.out _ hbx) (fun hHeld7 => ?_)
      (try simp only [Act.put, List.setIfInBounds_toArray, List.set_cons_zero, List.set_cons_succ])
      clear hK K
      refine wpAnyH_ready (rs := [8]) (by kernel_rfl) (by simp) ?_
      refine AllReadyH.cons (o := _) rfl (fun K hK => ?_) AllReadyH.nil
      go_simp
      (go_at_call 21; with_reducible (refine Calls.mono (HT0.out _) ?_); rintro e v3 ⟨rfl, hb_v3⟩; replace hbx := chain hbx hb_v3; replace hq := (hb_v3.block _ (lt_row hq)).trans hq)
      refine hK.out _ _ (HSS.out _ hbx) (fun hHeld8 => ?_)
      (try simp only [Act.put, List.setIfInBounds_toArray, List.set_cons_zero, List.set_cons_succ])
      clear hK K
      refine wpAnyH_ready (rs := [13]) (by kernel_rfl) (by simp) ?_
      refine AllReadyH.cons (o := _) rfl (fun K hK => ?_) AllReadyH.nil
      go_simp
      (go_at_call 20; with_reducible (refine Calls.mono (HR0.out _ hbx) ?_); rintro e v4 ⟨rfl, hb_v4⟩; replace hbx := chain hbx hb_v4; replace hq := (hb_v4.block _ (lt_row hq)).trans hq)
      refine hK.out _ _ (HSS.out _ hbx) (fun hHeld13 => ?_)
      (try simp only [Act.put, List.setIfInBounds_toArray, List.set_cons_zero, List.set_cons_succ])
      clear hK K
      refine wpAnyH_ready (rs := [15]) (by kernel_rfl) (by simp) ?_
      refine AllReadyH.cons (o := _) rfl (fun K hK => ?_) AllReadyH.nil
      refine step_store_BA (by rfl) 42 _ _ rfl _ 0 l0 rfl rfl (by rw [hl0]; exact there_BA hq (by rw [hzl]; decide)) hi0 ?_
      refine hK.out _ _ (HS2.out _ _ hgb (HSS.out _ hbx)) (fun hHeld15 => ?_)
      clear hK K
      refine wpAnyH_done (by kernel_rfl) ?_ _
      have hp := put_BA hq 0 l0
      rw [HPZ.out] at hp
      have hp2 := below_setCs hbx hgb (vals l0) 0
      have RR := Lib.hid (And.intro hgb (And.intro hp hp2))
      clear hp hp2 hq hgb hbx
      go_wp2
      go_meet
      exact ⟨_, rfl, RR.out⟩
  case rest =>
    clear hbx hb0 HP0 HT0 HR0 HSS HS2 HPZ hi0 hi_k0 hl0 HBO HF hz
    obtain ⟨gb, rfl, hgb, hq, hbw⟩ := hcut
    rw [HL0.out] at hq
    have R0 := Lib.hid (And.intro hq hbw)
    clear hq hbw HL0 HE0
    go_wp2
    go_loopw [8] (fun i wr => ∃ r : Nat, r ≤ 9 ∧ i = .int .i64 (r : Int) ∧ wr.heap[gb]? = some (.cells (BA (decTo key b (10 - r))) 42 (0, 0)) ∧ Below w.heap.size w wr) (fun i _ => (intOf i).toNat)
    case atStart => exact ⟨9, by omega, rfl, R0.out⟩
    case round =>
      clear R0
      obtain ⟨r, hr, rfl, r1, rb⟩ := hrel
      have hgbl := lt_row r1
      by_cases hlt : 0 < r
      · obtain ⟨m, rfl⟩ : ∃ m, r = m + 1 := ⟨r - 1, by omega⟩
        have hm9 : m < 9 := by omega
        have hP := fun (W : World) => HPL.out (decTo key b (10 - (m + 1))) (rk key (m + 1)) W (HDO.out _) (HKO.out _)
        have hM := fun (W : World) => HMX.out (plusL (decTo key b (10 - (m + 1))) (rk key (m + 1))) W (plusL_ok (HDO.out _) (HKO.out _))
        have hT := fun (W : World) => HTN.out (mixT (plusL (decTo key b (10 - (m + 1))) (rk key (m + 1))) 3) W (mixT_ok (plusL_ok (HDO.out _) (HKO.out _)) 3)
        have hR := fun (W : World) (h : Below wr.heap.size wr W) => HBX.out (turnL (mixT (plusL (decTo key b (10 - (m + 1))) (rk key (m + 1))) 3) 3) W (turnL_ok (mixT_ok (plusL_ok (HDO.out _) (HKO.out _)) 3) 3) (rb.trans (h.mono rb.size))
        rw [HEN.out m hm9] at hR
        have hrl := whole_BA r1
        have hkr := fun (W : World) (h : Below w.heap.size w W) => HKR.out W (m + 1) h (by omega)
        have hll := (HDO.out (10 - (m + 1))).len
        have hl4 := (HDO.out (10 - m)).len
        have hkl := (HKO.out (m + 1)).len
        obtain ⟨l4, h4⟩ : ∃ x, x = decTo key b (10 - m) := ⟨_, rfl⟩
        obtain ⟨l, h0⟩ : ∃ x, x = decTo key b (10 - (m + 1)) := ⟨_, rfl⟩
        obtain ⟨k, hk⟩ : ∃ x, x = rk key (m + 1) := ⟨_, rfl⟩
        simp only [← h4, ← h0, ← hk] at hR hT hM hP hrl hkr hll hl4 hkl r1
        obtain ⟨l1, h1⟩ : ∃ x, x = plusL l k := ⟨_, rfl⟩
        simp only [← h1] at hR hT hM hP
        obtain ⟨l2, h2⟩ : ∃ x, x = mixT l1 3 := ⟨_, rfl⟩
        simp only [← h2] at hR hT hM
        obtain ⟨l3, h3⟩ : ∃ x, x = turnL l2 3 := ⟨_, rfl⟩
        simp only [← h3] at hT hR
        have HR1 := Lib.hid hR
        have HT1 := Lib.hid hT
        have HM1 := Lib.hid hM
        have HP1 := Lib.hid hP
        obtain ⟨o, ho⟩ : ∃ o, o = 512 + 16 * (m + 1) := ⟨_, rfl⟩
        simp only [← ho] at hkr
        have hi_l : (Try.prog.info? 42).map (·.size) = some l.length := by rw [hll]; exact HI16.out
        have hi_l4 : (Try.prog.info? 42).map (·.size) = some l4.length := by rw [hl4]; exact HI16.out
        have hi_k : (Try.prog.info? 42).map (·.size) = some k.length := by rw [hkl]; exact HI16.out
        have hl_l4 := hl4
        have HSS : Hid (∀ W' : World, Below wr.heap.size wr W' → W'.rangeAt g o (vals k) ∧ W'.there gb 0 16 ∧ True) := fun W' h =>
          ⟨hkr W' (rb.trans (h.mono rb.size)), there_BA ((h.block _ hgbl).trans r1) (by rw [hll]; exact Nat.le_refl _), trivial⟩
        have HS2 : Hid (∀ W' : World, W'.rangeAt g o (vals k) ∧ W'.there gb 0 16 ∧ True → (W'.setCells gb 0 (vals l4)).rangeAt g o (vals k) ∧ (W'.setCells gb 0 (vals l4)).there gb 0 16 ∧ True) := fun W' h =>
          ⟨World.rangeAt_setCells_apart h.1 _ _ _ (Or.inl (by omega)), World.there_setCells h.2.1 _ _ _, trivial⟩
        have HRR : Hid (∀ W' : World, Below wr.heap.size wr W' → (W'.setCells gb 0 (vals l4)).heap[gb]? = some (.cells (BA l4) 42 (0, 0)) ∧ Below w.heap.size w (W'.setCells gb 0 (vals l4))) := fun W' h => by
          have := put_BA ((h.block _ hgbl).trans r1) 0 l4
          rw [putL_full hll hl4] at this
          exact ⟨this, below_setCs (rb.trans (h.mono rb.size)) hgb _ _⟩
        have H4 := Lib.hid h4
        have hbx : Below wr.heap.size wr wr.drew := (Below.refl _ _).drew
        have e1 : 512 + (m + 1) * 16 = o := by omega
        have k1 : (0 : Int) < (m : Int) + 1 := by omega
        have k5 : (m : Int) + 1 < 11 := by omega
        have k0 : (0 : Int) ≤ (m : Int) + 1 := by omega
        have k4 : ((m : Int) + 1).toNat = m + 1 := by omega
        clear r1 rb hR hT hM hP hkr hll hl4 hkl h4 h0 hk h1 h2 h3 ho hgbl HI16 HCI HKO HOB HBX HTN HMX HPL HBY HEN HEL HDO HKR HDN hlt
        go_wp2
        refine wp_region_held_drew (S := (fun W' => W'.rangeAt g o (vals k) ∧ W'.there gb 0 16 ∧ True)) (by kernel_rfl) (HSS.out _ hbx) (fun hHeld => ?_)
        refine wpAnyH_take (i := 1) (oi := _) (v := ?_) rfl (by kernel_rfl) (by kernel_rfl) (by kernel_rfl) (fun _ _ _ h => h) (Or.inl ⟨by rfl, ?_⟩) (by assumption) ?_
        rotate_left 1
        · intro w hSw; clear hSw; first | (go_simp; done) | (go_simp; with_reducible rfl)
        change wpAnyH _ _ _ _ _ _ _ (Act.put _ (some 34) _) _
        (try simp only [Act.put, List.setIfInBounds_toArray, List.set_cons_zero, List.set_cons_succ])
        refine wpAnyH_take (i := 2) (oi := _) (v := ?_) rfl (by kernel_rfl) (by kernel_rfl) (by kernel_rfl) (fun _ _ _ h => h) (Or.inl ⟨by rfl, ?_⟩) (by assumption) ?_
        rotate_left 1
        · intro w hSw; clear hSw; first | (go_simp; done) | (go_simp; with_reducible rfl)
        change wpAnyH _ _ _ _ _ _ _ (Act.put _ (some 35) _) _
        (try simp only [Act.put, List.setIfInBounds_toArray, List.set_cons_zero, List.set_cons_succ])
        refine wpAnyH_take (i := 3) (oi := _) (v := ?_) rfl (by kernel_rfl) (by kernel_rfl) (by kernel_rfl) (fun _ _ _ h => h) (Or.inl ⟨by rfl, ?_⟩) (by assumption) ?_
        rotate_left 1
        · intro w hSw; clear hSw; first | (go_simp; done) | (go_simp; with_reducible rfl)
        change wpAnyH _ _ _ _ _ _ _ (Act.put _ (some 36) _) _
        (try simp only [Act.put, List.setIfInBounds_toArray, List.set_cons_zero, List.set_cons_succ])
        refine wpAnyH_take (i := 4) (oi := _) (v := ?_) rfl (by kernel_rfl) (by kernel_rfl) (by kernel_rfl) (fun _ _ _ h => h) (Or.inl ⟨by rfl, ?_⟩) (by assumption) ?_
        rotate_left 1
        · intro w hSw; clear hSw; first | (go_simp; done) | (go_simp; with_reducible rfl)
        change wpAnyH _ _ _ _ _ _ _ (Act.put _ (some 37) _) _
        (try simp only [Act.put, List.setIfInBounds_toArray, List.set_cons_zero, List.set_cons_succ])
        refine wpAnyH_take (i := 5) (oi := _) (v := ?_) rfl (by kernel_rfl) (by kernel_rfl) (by kernel_rfl) (fun _ _ _ h => h) (Or.inl ⟨by rfl, ?_⟩) (by assumption) ?_
        rotate_left 1
        · intro w hSw; clear hSw; first | (go_simp; done) | (go_simp; with_reducible rfl)
        change wpAnyH _ _ _ _ _ _ _ (Act.put _ (some 38) _) _
        (try simp only [Act.put, List.setIfInBounds_toArray, List.set_cons_zero, List.set_cons_succ])
        refine wpAnyH_take (i := 6) (oi := _) rfl (by kernel_rfl) (by kernel_rfl) (by kernel_rfl) (fun _ _ _ h => h) (yields_load_BA (by rfl) 42 _ rfl g o rfl k _ (fun _ h => h.1) hu rfl hi_k) (by assumption) ?_
        change wpAnyH _ _ _ _ _ _ _ (Act.put _ (some 39) _) _
        (try simp only [Act.put, List.setIfInBounds_toArray, List.set_cons_zero, List.set_cons_succ])
        refine wpAnyH_take (i := 10) (oi := _) (v := ?_) rfl (by kernel_rfl) (by kernel_rfl) (by kernel_rfl) (fun _ _ _ h => h) (Or.inl ⟨by rfl, ?_⟩) (by assumption) ?_
        rotate_left 1
        · intro w hSw; clear hSw; first | (go_simp; done) | (go_simp; with_reducible rfl)
        change wpAnyH _ _ _ _ _ _ _ (Act.put _ (some 43) _) _
        (try simp only [Act.put, List.setIfInBounds_toArray, List.set_cons_zero, List.set_cons_succ])
        refine wpAnyH_take (i := 11) (oi := _) (v := ?_) rfl (by kernel_rfl) (by kernel_rfl) (by kernel_rfl) (fun _ _ _ h => h) (Or.inl ⟨by rfl, ?_⟩) (by assumption) ?_
        rotate_left 1
        · intro w hSw; clear hSw; first | (go_simp; done) | (go_simp; with_reducible rfl)
        change wpAnyH _ _ _ _ _ _ _ (Act.put _ (some 44) _) _
        (try simp only [Act.put, List.setIfInBounds_toArray, List.set_cons_zero, List.set_cons_succ])
        refine wpAnyH_take (i := 12) (oi := _) (v := ?_) rfl (by kernel_rfl) (by kernel_rfl) (by kernel_rfl) (fun _ _ _ h => h) (Or.inl ⟨by rfl, ?_⟩) (by assumption) ?_
        rotate_left 1
        · intro w hSw; clear hSw; first | (go_simp; done) | (go_simp; with_reducible rfl)
        change wpAnyH _ _ _ _ _ _ _ (Act.put _ (some 45) _) _
        (try simp only [Act.put, List.setIfInBounds_toArray, List.set_cons_zero, List.set_cons_succ])
        refine wpAnyH_take (i := 13) (oi := _) (v := ?_) rfl (by kernel_rfl) (by kernel_rfl) (by kernel_rfl) (fun _ _ _ h => h) (Or.inl ⟨by rfl, ?_⟩) (by assumption) ?_
        rotate_left 1
        · intro w hSw; clear hSw; first | (go_simp; done) | (go_simp; with_reducible rfl)
        change wpAnyH _ _ _ _ _ _ _ (Act.put _ (some 46) _) _
        (try simp only [Act.put, List.setIfInBounds_toArray, List.set_cons_zero, List.set_cons_succ])
        refine wpAnyH_ready (rs := [0]) (by kernel_rfl) (by simp) ?_
        refine AllReadyH.cons (o := _) rfl (fun K hK => ?_) AllReadyH.nil
        refine step_load_BA (by rfl) 42 _ rfl gb 0 rfl l _ hrl hu rfl hi_l ?_
        refine hK.out _ _ (HSS.out _ hbx) (fun hHeld0 => ?_)
        change wpAnyH _ _ _ _ _ _ _ (Act.put _ (some 33) _) _
        (try simp only [Act.put, List.setIfInBounds_toArray, List.set_cons_zero, List.set_cons_succ])
        clear hK K
        refine wpAnyH_ready (rs := [7]) (by kernel_rfl) (by simp) ?_
        refine AllReadyH.cons (o := _) rfl (fun K hK => ?_) AllReadyH.nil
        go_simp
        (go_at_call 19; with_reducible (refine Calls.mono (HP1.out _) ?_); rintro e v1 ⟨rfl, hb_v1⟩; replace hbx := chain hbx hb_v1)
        refine hK.out _ _ (HSS.out _ hbx) (fun hHeld7 => ?_)
        (try simp only [Act.put, List.setIfInBounds_toArray, List.set_cons_zero, List.set_cons_succ])
        clear hK K
        refine wpAnyH_ready (rs := [8]) (by kernel_rfl) (by simp) ?_
        refine AllReadyH.cons (o := _) rfl (fun K hK => ?_) AllReadyH.nil
        go_simp
        (go_at_call 22; with_reducible (refine Calls.mono (HM1.out _) ?_); rintro e v2 ⟨rfl, hb_v2⟩; replace hbx := chain hbx hb_v2)
        refine hK.out _ _ (HSS.out _ hbx) (fun hHeld8 => ?_)
        (try simp only [Act.put, List.setIfInBounds_toArray, List.set_cons_zero, List.set_cons_succ])
        clear hK K
        refine wpAnyH_ready (rs := [9]) (by kernel_rfl) (by simp) ?_
        refine AllReadyH.cons (o := _) rfl (fun K hK => ?_) AllReadyH.nil
        go_simp
        (go_at_call 21; with_reducible (refine Calls.mono (HT1.out _) ?_); rintro e v3 ⟨rfl, hb_v3⟩; replace hbx := chain hbx hb_v3)
        refine hK.out _ _ (HSS.out _ hbx) (fun hHeld9 => ?_)
        (try simp only [Act.put, List.setIfInBounds_toArray, List.set_cons_zero, List.set_cons_succ])
        clear hK K
        refine wpAnyH_ready (rs := [14]) (by kernel_rfl) (by simp) ?_
        refine AllReadyH.cons (o := _) rfl (fun K hK => ?_) AllReadyH.nil
        go_simp
        (go_at_call 20; with_reducible (refine Calls.mono (HR1.out _ hbx) ?_); rintro e v4 ⟨rfl, hb_v4⟩; replace hbx := chain hbx hb_v4)
        refine hK.out _ _ (HSS.out _ hbx) (fun hHeld14 => ?_)
        (try simp only [Act.put, List.setIfInBounds_toArray, List.set_cons_zero, List.set_cons_succ])
        clear hK K
        refine wpAnyH_ready (rs := [15]) (by kernel_rfl) (by simp) ?_
        refine AllReadyH.cons (o := _) rfl (fun K hK => ?_) AllReadyH.nil
        refine step_store_BA (by rfl) 42 _ _ rfl gb 0 l4 rfl rfl (by rw [hl_l4]; exact (HSS.out _ hbx).2.1) hi_l4 ?_
        refine hK.out _ _ (HS2.out _ (HSS.out _ hbx)) (fun hHeld15 => ?_)
        clear hK K
        refine wpAnyH_done (by kernel_rfl) ?_ _
        have R := Lib.hid (HRR.out _ hbx)
        clear HRR HS2 HSS hbx hrl
        go_wp2
        go_roundw
        case rel => first | exact ⟨m, by omega, by go_num, by rw [← H4.out]; exact R.out⟩ | ((repeat apply Exists.intro); exact ⟨⟨m, by omega, by go_num, by rw [← H4.out]; exact R.out⟩, rfl⟩)
        case measure => simp [intOf]
      · have hr0 : r = 0 := by omega
        subst hr0
        have hP := fun (W : World) => HPL.out (decTo key b (10 - 0)) (rk key 0) W (HDO.out _) (HKO.out _)
        rw [show 10 - 0 = 10 from rfl, HEL.out] at hP
        rw [show 10 - 0 = 10 from rfl] at r1
        have hY := fun (W : World) => HBY.out (decN key b) W HDN.out
        have hrl := whole_BA r1
        have hkr := fun (W : World) (h : Below w.heap.size w W) => HKR.out W 0 h (by omega)
        have hll := (HDO.out 10).len
        have hkl := (HKO.out 0).len
        obtain ⟨l3, h3⟩ : ∃ x, x = decN key b := ⟨_, rfl⟩
        obtain ⟨l, h0⟩ : ∃ x, x = decTo key b 10 := ⟨_, rfl⟩
        obtain ⟨k, hk⟩ : ∃ x, x = rk key 0 := ⟨_, rfl⟩
        simp only [← h3, ← h0, ← hk] at hP hY hrl hkr hll hkl r1
        have HP1 := Lib.hid hP
        have HY1 := Lib.hid hY
        have hi_l : (Try.prog.info? 42).map (·.size) = some l.length := by rw [hll]; exact HI16.out
        have hi_k : (Try.prog.info? 42).map (·.size) = some k.length := by rw [hkl]; exact HI16.out
        have HSS : Hid (∀ W' : World, Below wr.heap.size wr W' → W'.rangeAt g 512 (vals k) ∧ True) := fun W' h => ⟨hkr W' (rb.trans (h.mono rb.size)), trivial⟩
        have H3 := Lib.hid h3
        have HRB := Lib.hid rb
        have hbx : Below wr.heap.size wr wr.drew := (Below.refl _ _).drew
        clear r1 rb hP hY hkr hll hkl h3 h0 hk hgbl HI16 HCI HKO HOB HBX HTN HMX HPL HBY HEN HEL HDO HKR HDN
        go_wp2
        refine wp_region_held_drew (S := (fun W' => W'.rangeAt g 512 (vals k) ∧ True)) (by kernel_rfl) (HSS.out _ hbx) (fun hHeld => ?_)
        refine wpAnyH_take (i := 1) (oi := _) (v := ?_) rfl (by kernel_rfl) (by kernel_rfl) (by kernel_rfl) (fun _ _ _ h => h) (Or.inl ⟨by rfl, ?_⟩) (by assumption) ?_
        rotate_left 1
        · intro w hSw; clear hSw; first | (go_simp; done) | (go_simp; with_reducible rfl)
        change wpAnyH _ _ _ _ _ _ _ (Act.put _ (some 49) _) _
        (try simp only [Act.put, List.setIfInBounds_toArray, List.set_cons_zero, List.set_cons_succ])
        refine wpAnyH_take (i := 2) (oi := _) (v := ?_) rfl (by kernel_rfl) (by kernel_rfl) (by kernel_rfl) (fun _ _ _ h => h) (Or.inl ⟨by rfl, ?_⟩) (by assumption) ?_
        rotate_left 1
        · intro w hSw; clear hSw; first | (go_simp; done) | (go_simp; with_reducible rfl)
        change wpAnyH _ _ _ _ _ _ _ (Act.put _ (some 50) _) _
        (try simp only [Act.put, List.setIfInBounds_toArray, List.set_cons_zero, List.set_cons_succ])
        refine wpAnyH_take (i := 3) (oi := _) (v := ?_) rfl (by kernel_rfl) (by kernel_rfl) (by kernel_rfl) (fun _ _ _ h => h) (Or.inl ⟨by rfl, ?_⟩) (by assumption) ?_
        rotate_left 1
        · intro w hSw; clear hSw; first | (go_simp; done) | (go_simp; with_reducible rfl)
        change wpAnyH _ _ _ _ _ _ _ (Act.put _ (some 51) _) _
        (try simp only [Act.put, List.setIfInBounds_toArray, List.set_cons_zero, List.set_cons_succ])
        refine wpAnyH_take (i := 4) (oi := _) (v := ?_) rfl (by kernel_rfl) (by kernel_rfl) (by kernel_rfl) (fun _ _ _ h => h) (Or.inl ⟨by rfl, ?_⟩) (by assumption) ?_
        rotate_left 1
        · intro w hSw; clear hSw; first | (go_simp; done) | (go_simp; with_reducible rfl)
        change wpAnyH _ _ _ _ _ _ _ (Act.put _ (some 52) _) _
        (try simp only [Act.put, List.setIfInBounds_toArray, List.set_cons_zero, List.set_cons_succ])
        refine wpAnyH_take (i := 5) (oi := _) rfl (by kernel_rfl) (by kernel_rfl) (by kernel_rfl) (fun _ _ _ h => h) (yields_load_BA (by rfl) 42 _ rfl g 512 rfl k _ (fun _ h => h.1) hu rfl hi_k) (by assumption) ?_
        change wpAnyH _ _ _ _ _ _ _ (Act.put _ (some 53) _) _
        (try simp only [Act.put, List.setIfInBounds_toArray, List.set_cons_zero, List.set_cons_succ])
        refine wpAnyH_ready (rs := [0]) (by kernel_rfl) (by simp) ?_
        refine AllReadyH.cons (o := _) rfl (fun K hK => ?_) AllReadyH.nil
        refine step_load_BA (by rfl) 42 _ rfl gb 0 rfl l _ hrl hu rfl hi_l ?_
        refine hK.out _ _ (HSS.out _ hbx) (fun hHeld0 => ?_)
        change wpAnyH _ _ _ _ _ _ _ (Act.put _ (some 48) _) _
        (try simp only [Act.put, List.setIfInBounds_toArray, List.set_cons_zero, List.set_cons_succ])
        clear hK K
        refine wpAnyH_ready (rs := [6]) (by kernel_rfl) (by simp) ?_
        refine AllReadyH.cons (o := _) rfl (fun K hK => ?_) AllReadyH.nil
        go_simp
        (go_at_call 19; with_reducible (refine Calls.mono (HP1.out _) ?_); rintro e v1 ⟨rfl, hb_v1⟩; replace hbx := chain hbx hb_v1)
        refine hK.out _ _ (HSS.out _ hbx) (fun hHeld6 => ?_)
        (try simp only [Act.put, List.setIfInBounds_toArray, List.set_cons_zero, List.set_cons_succ])
        clear hK K
        refine wpAnyH_ready (rs := [7]) (by kernel_rfl) (by simp) ?_
        refine AllReadyH.cons (o := _) rfl (fun K hK => ?_) AllReadyH.nil
        go_simp
        (go_at_call 23; with_reducible (refine Calls.mono (HY1.out _) ?_); rintro e v2 ⟨g6, rfl, hg6, hb_v2⟩; replace hbx := chain hbx hb_v2)
        refine hK.out _ _ (HSS.out _ hbx) (fun hHeld7 => ?_)
        (try simp only [Act.put, List.setIfInBounds_toArray, List.set_cons_zero, List.set_cons_succ])
        clear hK K
        refine wpAnyH_take (i := 8) (oi := _) (v := ?_) rfl (by kernel_rfl) (by kernel_rfl) (by kernel_rfl) (fun _ _ _ h => h) (Or.inl ⟨by rfl, ?_⟩) (by assumption) ?_
        rotate_left 1
        · intro w hSw; clear hSw; first | (go_simp; done) | (go_simp; with_reducible rfl)
        change wpAnyH _ _ _ _ _ _ _ (Act.put _ (some 4) _) _
        (try simp only [Act.put, List.setIfInBounds_toArray, List.set_cons_zero, List.set_cons_succ])
        refine wpAnyH_take (i := 9) (oi := _) (v := ?_) rfl (by kernel_rfl) (by kernel_rfl) (by kernel_rfl) (fun _ _ _ h => h) (Or.inl ⟨by rfl, ?_⟩) (by assumption) ?_
        rotate_left 1
        · intro w hSw; clear hSw; first | (go_simp; done) | (go_simp; with_reducible rfl)
        change wpAnyH _ _ _ _ _ _ _ (Act.put _ (some 5) _) _
        (try simp only [Act.put, List.setIfInBounds_toArray, List.set_cons_zero, List.set_cons_succ])
        refine wpAnyH_done (by kernel_rfl) ?_ _
        have HG6 := Lib.hid hg6
        have HB6 := Lib.hid (HRB.out.trans (hbx.mono HRB.out.size))
        clear hg6 hb_v2 hbx hrl
        go_wp2
        go_ret2
        exact ⟨g6, rfl, by rw [← H3.out]; exact HG6.out, HB6.out⟩

end Go.Proofs.Ytgmmmnoakflinaa
