/-
  The program's enciphering of a block.
-/
import Derived.Test.YtanpfodmmeagaaaDoorAesC4
import Derived.Test.YtanpfodmmeagaaaDoorAesC5
import Derived.Test.YtanpfodmmeagaaaDoorAesC6G
namespace Go.Proofs.YtanpfodmmeagaaaDoor
open Go.RowKit

set_option maxHeartbeats 800000 in
/-- 'refuse'. -/
theorem refuse_nil (A : Option Addr) (n c : Nat) (w : World) : Calls Tryd.prog 52 #[.pointer none, .slice A n c] w fun e w' => e = .returned (.int .i64 11) ∧ w = w' := by
  go_enter Tryd.func52, Tryd.ntmps52
  go_wp2
  go_ret
  exact ⟨rfl, rfl⟩
set_option maxHeartbeats 800000 in
theorem refuse_len (a : Addr) (A : Option Addr) (n c : Nat) (w : World) (hn : n ≠ 16) : Calls Tryd.prog 52 #[.pointer (some a), .slice A n c] w fun e w' => e = .returned (.int .i64 1) ∧ w = w' := by
  have h1 : ¬ (n : Int) = 16 := by omega
  go_enter Tryd.func52, Tryd.ntmps52
  go_wp2
  go_ret
  exact ⟨rfl, rfl⟩
set_option maxHeartbeats 800000 in
theorem refuse_ok (a : Addr) (A : Option Addr) (c : Nat) (w : World) : Calls Tryd.prog 52 #[.pointer (some a), .slice A 16 c] w fun e w' => e = .returned (.int .i64 0) ∧ w = w' := by
  go_enter Tryd.func52, Tryd.ntmps52
  go_wp2
  go_ret
  exact ⟨rfl, rfl⟩
set_option maxHeartbeats 800000 in
/-- 'Block', refused. -/
theorem block_nil (A : Option Addr) (n c : Nat) (w : World) : Calls Tryd.prog 34 #[.pointer none, .slice A n c] w fun e w' => e = .returned (.tuple #[.slice none 0 0, .int .i64 11]) ∧ w = w' := by
  have HF := Lib.hid (refuse_nil A n c)
  go_enter Tryd.func34, Tryd.ntmps34
  go_wp2_with (go_at_call 52; with_reducible (refine Calls.mono (HF.out _) ?_); rintro e w' ⟨rfl, rfl⟩)
  go_ret2
  exact ⟨rfl, rfl⟩
set_option maxHeartbeats 800000 in
theorem block_len (a : Addr) (A : Option Addr) (n c : Nat) (w : World) (hn : n ≠ 16) : Calls Tryd.prog 34 #[.pointer (some a), .slice A n c] w fun e w' => e = .returned (.tuple #[.slice none 0 0, .int .i64 1]) ∧ w = w' := by
  have HF := Lib.hid (fun W => refuse_len a A n c W hn)
  go_enter Tryd.func34, Tryd.ntmps34
  go_wp2_with (go_at_call 52; with_reducible (refine Calls.mono (HF.out _) ?_); rintro e w' ⟨rfl, rfl⟩)
  go_ret2
  exact ⟨rfl, rfl⟩

theorem putL_full {z l : List Nat} (hz : z.length = 16) (hl : l.length = 16) : putL z 0 l = l := by
  have h := putL_prog 16 (fun i => l.getD i 0) (fun i => z.getD i 0) 0 16
  rw [prog_zero hz] at h
  have e : ((List.range 16).map fun i => l.getD (0 + i) 0) = l := by
    have : (fun i => l.getD (0 + i) 0) = fun i => l.getD i 0 := by funext i; rw [Nat.zero_add]
    rw [this]; exact L16_ext hl fun _ _ => rfl
  rw [e] at h
  rw [h, Nat.zero_add, prog_all]
  exact L16_ext hl fun _ _ => rfl
theorem box_lt_s : ∀ x ∈ sbox, x < 256 := by decide +kernel
theorem box_lt_i : ∀ x ∈ ibox, x < 256 := by decide +kernel
theorem whole_BA {w : World} {g : Nat} {t : TypeId} {fr : Nat × Nat} {l : List Nat} (h : w.heap[g]? = some (.cells (BA l) t fr)) : w.rangeAt g 0 (vals l) := by
  have := range_BA h (o := 0) (n := l.length) (by omega)
  rwa [subB_all] at this

set_option maxHeartbeats 6400000 in
set_option maxRecDepth 20000 in
/-- 'Block'. -/
theorem aesBlock_new (a : Addr) (key : List Nat) (A : Option Addr) (c : Nat) (b : List Nat) (w : World) (hC : Ciph w a key) (hr : Ints w w.heap.size .u8 A (up b)) (hb : ∀ x ∈ b, x < 256) (hl : b.length = 16) (hc : 16 ≤ c) :
    Calls Tryd.prog 34 #[.pointer (some a), .slice A 16 c] w fun e w' => ∃ g, e = .returned (.tuple #[.slice (some ⟨g, 0, none⟩) 16 16, .int .i64 0]) ∧ w'.heap[g]? = some (.cells (BA (encN key b)) 5 (0, 0)) ∧ Below w.heap.size w w' ∧ w.heap.size ≤ g := by
  obtain ⟨hkl, hk, g, t, fr, rfl, hg⟩ := hC
  have hgl := lt_heap hg
  have hu := Tryd.underlying80
  have hz := (zero_of_info (P := Tryd.prog) (t := 80) (v := .agg (BA (zeros 16))) (n := 16) (by kernel_rfl)).1
  obtain ⟨Z, hZ⟩ : ∃ Z, Z = zeros 16 := ⟨_, rfl⟩
  have hzl : Z.length = 16 := by rw [hZ]; rfl
  rw [← hZ] at hz
  have hi16 : (Tryd.prog.info? 80).map (·.size) = some 16 := by kernel_rfl
  have HI16 := Lib.hid hi16
  have HCI : Hid (∀ W, Below w.heap.size w W → W.heap[g]? = some (.cells (BA (ciph key 11)) t fr)) := fun W hb => (hb.block g hgl).trans hg
  have HKR : Hid (∀ W r, Below w.heap.size w W → r < 11 → W.rangeAt g (512 + 16 * r) (vals (rk key r))) := fun W r hb hr => by
    have := range_BA (HCI.out W hb) (o := 512 + 16 * r) (n := 16) (by rw [ciph_len]; omega)
    rwa [ciph_key key hr (Nat.le_refl _)] at this
  have HKO := Lib.hid (fun r => rk_ok hk r)
  have HOB : Hid (Ok16 b) := ⟨hl, hb⟩
  have hBO := fun (W : World) (h : Below w.heap.size w W) => blockOf_any A c b W ((hr.below h).more h.size) ⟨hl, hb⟩ hc
  have HBO := Lib.hid hBO
  have HBX : Hid (∀ (l : List Nat) (W : World), Ok16 l → Below w.heap.size w W → Calls Tryd.prog 54 #[.agg (BA l), .pointer (some ⟨g, 0, none⟩)] W fun e w' => e = .returned (.agg (BA (replL sbox l))) ∧ Below W.heap.size W w') := fun l W hl h =>
    repl_any l sbox g 0 W hl box_lt_s (lt_heap (HCI.out W h)) fun i hi => by rw [Nat.zero_add, BA_cell (HCI.out W h) (i := i) (by rw [ciph_len]; omega), ciph_sbox key 11 hi]
  have HTN : Hid (∀ (l : List Nat) (W : World), Ok16 l → Calls Tryd.prog 55 #[.agg (BA l), .int .i64 1] W fun e w' => e = .returned (.agg (BA (turnL l 1))) ∧ Below W.heap.size W w') := fun l W hl => turn_any l 1 W hl (by decide)
  have HMX : Hid (∀ (l : List Nat) (W : World), Ok16 l → Calls Tryd.prog 56 #[.agg (BA l), .int .i64 1] W fun e w' => e = .returned (.agg (BA (mixT l 1))) ∧ Below W.heap.size W w') := fun l W hl => mix_any l 1 W hl (by decide)
  have HPL := Lib.hid (fun (l k : List Nat) (W : World) (hl : Ok16 l) (hk : Ok16 k) => plus_any l k W hl hk)
  have HBY := Lib.hid (fun (l : List Nat) (W : World) (hl : Ok16 l) => bytes_new l W hl)
  have HEO := Lib.hid (fun n => encTo_ok hk HOB.out n)
  have HE0 : Hid (plusL b (rk key 0) = encTo key b 0) := plus_rk key b 0
  have HEN : Hid (∀ n, n + 1 < 10 → plusL (mixT (turnL (replL sbox (encTo key b n)) 1) 1) (rk key (n + 1)) = encTo key b (n + 1)) := fun n hn => round_code hn
  have HEL : Hid (plusL (turnL (replL sbox (encTo key b 9)) 1) (rk key 10) = encN key b) := round_last
  have hk0 := HKR.out
  have HF := Lib.hid (refuse_ok ⟨g, 0, none⟩ A c)
  have hP0 := fun W => HPL.out b (rk key 0) W HOB.out (HKO.out 0)
  rw [HE0.out] at hP0
  have hl0 := (HEO.out 0).len
  have hkl0 := (HKO.out 0).len
  have HSS : Hid (∀ W', Below w.heap.size w W' → W'.rangeAt g 512 (vals (rk key 0)) ∧ Below w.heap.size w W') := fun W' h => ⟨HKR.out W' 0 h (by decide), h⟩
  have HS2 : Hid (∀ (W' : World) (gb : Nat), w.heap.size ≤ gb → W'.rangeAt g 512 (vals (rk key 0)) ∧ Below w.heap.size w W' → (W'.setCells gb 0 (vals (encTo key b 0))).rangeAt g 512 (vals (rk key 0)) ∧ Below w.heap.size w (W'.setCells gb 0 (vals (encTo key b 0)))) := fun W' gb hgb h =>
    ⟨World.rangeAt_setCells_apart h.1 _ _ _ (Or.inl (by omega)), below_setCs h.2 hgb _ _⟩
  have HPZ : Hid (putL Z 0 (encTo key b 0) = encTo key b 0) := putL_full hzl hl0
  have HE := Lib.hid (fun (W : World) (h : W.rangeAt 0 0 []) => h)
  obtain ⟨l0, hl0e⟩ : ∃ l, l = encTo key b 0 := ⟨_, rfl⟩
  obtain ⟨k0, hk0e⟩ : ∃ k, k = rk key 0 := ⟨_, rfl⟩
  simp only [← hl0e, ← hk0e] at hP0 HSS HS2 HPZ hl0 hkl0
  have hi0 : (Tryd.prog.info? 80).map (·.size) = some l0.length := by rw [hl0]; exact hi16
  have hi_k0 : (Tryd.prog.info? 80).map (·.size) = some k0.length := by rw [hkl0]; exact hi16
  have HP0 := Lib.hid hP0
  have HL0 := Lib.hid hl0e
  have hbx : Below w.heap.size w w.drew := (Below.refl _ _).drew
  have hb0 : Below w.heap.size w w := Below.refl _ _
  clear hP0 hBO hZ hg hk0 hr hb hl hc hk hkl HE hl0e hk0e hi16 hkl0
  go_enter Tryd.func34, Tryd.ntmps34
  go_wp2_with (go_at_call 52; with_reducible (refine Calls.mono (HF.out _) ?_); rintro e w' ⟨rfl, rfl⟩)
  go_cut [7] (fun v wq => ∃ gb, v = .pointer (some ⟨gb, 0, none⟩) ∧ w.heap.size ≤ gb ∧ wq.heap[gb]? = some (.cells (BA l0) 80 (0, 0)) ∧ Below w.heap.size w wq)
  case first =>
    refine wp_region_held_drew (S := (fun W' => W'.rangeAt g 512 (vals k0) ∧ Below w.heap.size w W')) (by kernel_rfl) (HSS.out _ hbx) (fun hHeld => ?_)
    refine wpAnyH_take (i := 0) (oi := _) (v := ?_) rfl (by kernel_rfl) (by kernel_rfl) (by kernel_rfl) (fun _ _ _ h => h) (Or.inl ⟨by rfl, ?_⟩) (by assumption) ?_
    rotate_left 1
    · intro w hSw; clear hSw; first | (go_simp; done) | (go_simp; with_reducible rfl)
    change wpAnyH _ _ _ _ _ _ _ (Act.put _ (some 15) _) _
    (try simp only [Act.put, List.setIfInBounds_toArray, List.set_cons_zero, List.set_cons_succ])
    refine wpAnyH_take (i := 2) (oi := _) (v := ?_) rfl (by kernel_rfl) (by kernel_rfl) (by kernel_rfl) (fun _ _ _ h => h) (Or.inl ⟨by rfl, ?_⟩) (by assumption) ?_
    rotate_left 1
    · intro w hSw; clear hSw; first | (go_simp; done) | (go_simp; with_reducible rfl)
    change wpAnyH _ _ _ _ _ _ _ (Act.put _ (some 17) _) _
    (try simp only [Act.put, List.setIfInBounds_toArray, List.set_cons_zero, List.set_cons_succ])
    refine wpAnyH_take (i := 3) (oi := _) (v := ?_) rfl (by kernel_rfl) (by kernel_rfl) (by kernel_rfl) (fun _ _ _ h => h) (Or.inl ⟨by rfl, ?_⟩) (by assumption) ?_
    rotate_left 1
    · intro w hSw; clear hSw; first | (go_simp; done) | (go_simp; with_reducible rfl)
    change wpAnyH _ _ _ _ _ _ _ (Act.put _ (some 18) _) _
    (try simp only [Act.put, List.setIfInBounds_toArray, List.set_cons_zero, List.set_cons_succ])
    refine wpAnyH_take (i := 4) (oi := _) (v := ?_) rfl (by kernel_rfl) (by kernel_rfl) (by kernel_rfl) (fun _ _ _ h => h) (Or.inl ⟨by rfl, ?_⟩) (by assumption) ?_
    rotate_left 1
    · intro w hSw; clear hSw; first | (go_simp; done) | (go_simp; with_reducible rfl)
    change wpAnyH _ _ _ _ _ _ _ (Act.put _ (some 19) _) _
    (try simp only [Act.put, List.setIfInBounds_toArray, List.set_cons_zero, List.set_cons_succ])
    refine wpAnyH_take (i := 5) (oi := _) (v := ?_) rfl (by kernel_rfl) (by kernel_rfl) (by kernel_rfl) (fun _ _ _ h => h) (Or.inl ⟨by rfl, ?_⟩) (by assumption) ?_
    rotate_left 1
    · intro w hSw; clear hSw; first | (go_simp; done) | (go_simp; with_reducible rfl)
    change wpAnyH _ _ _ _ _ _ _ (Act.put _ (some 20) _) _
    (try simp only [Act.put, List.setIfInBounds_toArray, List.set_cons_zero, List.set_cons_succ])
    refine wpAnyH_take (i := 6) (oi := _) rfl (by kernel_rfl) (by kernel_rfl) (by kernel_rfl) (fun _ _ _ h => h) (yields_load_BA (by rfl) 80 _ rfl g 512 rfl k0 _ (fun _ h => h.1) hu rfl hi_k0) (by assumption) ?_
    change wpAnyH _ _ _ _ _ _ _ (Act.put _ (some 21) _) _
    (try simp only [Act.put, List.setIfInBounds_toArray, List.set_cons_zero, List.set_cons_succ])
    refine wpAnyH_ready (rs := [1, 8]) (by kernel_rfl) (by simp) ?_
    refine AllReadyH.cons (o := _) rfl (fun K hK => ?_) (AllReadyH.cons (o := _) rfl (fun K hK => ?_) (AllReadyH.nil))
    · go_simp
      (go_at_call 46; with_reducible (refine Calls.mono (HBO.out _ hbx) ?_); rintro e v1 ⟨rfl, hb_v1⟩; replace hbx := chain hbx hb_v1)
      refine hK.out _ _ (HSS.out _ hbx) (fun hHeld1 => ?_)
      (try simp only [Act.put, List.setIfInBounds_toArray, List.set_cons_zero, List.set_cons_succ])
      clear hK K
      refine wpAnyH_ready (rs := [7, 8]) (by kernel_rfl) (by simp) ?_
      refine AllReadyH.cons (o := _) rfl (fun K hK => ?_) (AllReadyH.cons (o := _) rfl (fun K hK => ?_) (AllReadyH.nil))
      · go_simp
        (go_at_call 53; with_reducible (refine Calls.mono (HP0.out _) ?_); rintro e v2 ⟨rfl, hb_v2⟩; replace hbx := chain hbx hb_v2)
        refine hK.out _ _ (HSS.out _ hbx) (fun hHeld7 => ?_)
        (try simp only [Act.put, List.setIfInBounds_toArray, List.set_cons_zero, List.set_cons_succ])
        clear hK K
        refine wpAnyH_ready (rs := [8]) (by kernel_rfl) (by simp) ?_
        refine AllReadyH.cons (o := _) rfl (fun K hK => ?_) AllReadyH.nil
        go_simp
        have hq := heap_alloc_new v2 (.cells (BA Z) 80); have hgb : w.heap.size ≤ v2.heap.size := hbx.size; replace hbx := hbx.alloc hbx.size (.cells (BA Z) 80)
        refine hK.out _ _ (HSS.out _ hbx) (fun hHeld8 => ?_)
        (try simp only [Act.put, List.setIfInBounds_toArray, List.set_cons_zero, List.set_cons_succ])
        clear hK K
        refine wpAnyH_ready (rs := [9]) (by kernel_rfl) (by simp) ?_
        refine AllReadyH.cons (o := _) rfl (fun K hK => ?_) AllReadyH.nil
        refine step_store_BA (by rfl) 80 _ _ rfl _ 0 l0 rfl rfl (by rw [hl0]; exact there_BA hq (by rw [hzl]; decide)) hi0 ?_
        refine hK.out _ _ (HS2.out _ _ hgb (HSS.out _ hbx)) (fun hHeld9 => ?_)
        clear hK K
        refine wpAnyH_done (by kernel_rfl) ?_ _
        have hp := put_BA hq 0 l0
        rw [HPZ.out] at hp
        have hp2 := below_setCs hbx hgb (vals l0) 0
        have RR := Lib.hid (And.intro hgb (And.intro hp hp2))
        clear hp hp2 hq hgb hbx
        go_wp2
        go_meet
        exact ⟨_, rfl, RR.out⟩
      · go_simp
        have hq := heap_alloc_new v1 (.cells (BA Z) 80); have hgb : w.heap.size ≤ v1.heap.size := hbx.size; replace hbx := hbx.alloc hbx.size (.cells (BA Z) 80)
        refine hK.out _ _ (HSS.out _ hbx) (fun hHeld8 => ?_)
        (try simp only [Act.put, List.setIfInBounds_toArray, List.set_cons_zero, List.set_cons_succ])
        clear hK K
        refine wpAnyH_ready (rs := [7]) (by kernel_rfl) (by simp) ?_
        refine AllReadyH.cons (o := _) rfl (fun K hK => ?_) AllReadyH.nil
        go_simp
        (go_at_call 53; with_reducible (refine Calls.mono (HP0.out _) ?_); rintro e v2 ⟨rfl, hb_v2⟩; replace hbx := chain hbx hb_v2; replace hq := (hb_v2.block _ (lt_heap hq)).trans hq)
        refine hK.out _ _ (HSS.out _ hbx) (fun hHeld7 => ?_)
        (try simp only [Act.put, List.setIfInBounds_toArray, List.set_cons_zero, List.set_cons_succ])
        clear hK K
        refine wpAnyH_ready (rs := [9]) (by kernel_rfl) (by simp) ?_
        refine AllReadyH.cons (o := _) rfl (fun K hK => ?_) AllReadyH.nil
        refine step_store_BA (by rfl) 80 _ _ rfl _ 0 l0 rfl rfl (by rw [hl0]; exact there_BA hq (by rw [hzl]; decide)) hi0 ?_
        refine hK.out _ _ (HS2.out _ _ hgb (HSS.out _ hbx)) (fun hHeld9 => ?_)
        clear hK K
        refine wpAnyH_done (by kernel_rfl) ?_ _
        have hp := put_BA hq 0 l0
        rw [HPZ.out] at hp
        have hp2 := below_setCs hbx hgb (vals l0) 0
        have RR := Lib.hid (And.intro hgb (And.intro hp hp2))
        clear hp hp2 hq hgb hbx
        go_wp2
        go_meet
        exact ⟨_, rfl, RR.out⟩
    · go_simp
      have hq : (w.alloc (.cells (BA Z) 80)).drew.heap[w.heap.size]? = some (.cells (BA Z) 80 (0, 0)) := heap_alloc_new w _; have hgb : w.heap.size ≤ w.heap.size := Nat.le_refl _; replace hbx : Below w.heap.size w (w.alloc (.cells (BA Z) 80)).drew := ((Below.refl _ _).alloc (Nat.le_refl _) _).drew
      refine hK.out _ _ (HSS.out _ hbx) (fun hHeld8 => ?_)
      (try simp only [Act.put, List.setIfInBounds_toArray, List.set_cons_zero, List.set_cons_succ])
      clear hK K
      refine wpAnyH_ready (rs := [1]) (by kernel_rfl) (by simp) ?_
      refine AllReadyH.cons (o := _) rfl (fun K hK => ?_) AllReadyH.nil
      go_simp
      (go_at_call 46; with_reducible (refine Calls.mono (HBO.out _ hbx) ?_); rintro e v1 ⟨rfl, hb_v1⟩; replace hbx := chain hbx hb_v1; replace hq := (hb_v1.block _ (lt_heap hq)).trans hq)
      refine hK.out _ _ (HSS.out _ hbx) (fun hHeld1 => ?_)
      (try simp only [Act.put, List.setIfInBounds_toArray, List.set_cons_zero, List.set_cons_succ])
      clear hK K
      refine wpAnyH_ready (rs := [7]) (by kernel_rfl) (by simp) ?_
      refine AllReadyH.cons (o := _) rfl (fun K hK => ?_) AllReadyH.nil
      go_simp
      (go_at_call 53; with_reducible (refine Calls.mono (HP0.out _) ?_); rintro e v2 ⟨rfl, hb_v2⟩; replace hbx := chain hbx hb_v2; replace hq := (hb_v2.block _ (lt_heap hq)).trans hq)
      refine hK.out _ _ (HSS.out _ hbx) (fun hHeld7 => ?_)
      (try simp only [Act.put, List.setIfInBounds_toArray, List.set_cons_zero, List.set_cons_succ])
      clear hK K
      refine wpAnyH_ready (rs := [9]) (by kernel_rfl) (by simp) ?_
      refine AllReadyH.cons (o := _) rfl (fun K hK => ?_) AllReadyH.nil
      refine step_store_BA (by rfl) 80 _ _ rfl _ 0 l0 rfl rfl (by rw [hl0]; exact there_BA hq (by rw [hzl]; decide)) hi0 ?_
      refine hK.out _ _ (HS2.out _ _ hgb (HSS.out _ hbx)) (fun hHeld9 => ?_)
      clear hK K
      refine wpAnyH_done (by kernel_rfl) ?_ _
      have hp := put_BA hq 0 l0
      rw [HPZ.out] at hp
      have hp2 := below_setCs hbx hgb (vals l0) 0
      have RR := Lib.hid (And.intro hgb (And.intro hp hp2))
      clear hp hp2 hq hgb hbx
      go_wp2
      go_meet
      exact ⟨_, rfl, RR.out⟩
  case rest =>
    clear hbx hb0 HP0 HSS HS2 HPZ hi0 hi_k0 hl0 HBO HF hz
    obtain ⟨gb, rfl, hgb, hq, hbw⟩ := hcut
    rw [HL0.out] at hq
    have R0 := Lib.hid (And.intro hq hbw)
    clear hq hbw HL0 HE0
    go_wp2
    go_loopw [8] (fun i wr => ∃ n : Nat, n ≤ 9 ∧ i = .int .i64 ((n : Int) + 1) ∧ wr.heap[gb]? = some (.cells (BA (encTo key b n)) 80 (0, 0)) ∧ Below w.heap.size w wr) (fun i _ => 10 - (intOf i).toNat)
    case atStart => exact ⟨0, by omega, rfl, R0.out⟩
    case round =>
      clear R0
      obtain ⟨n, hn, rfl, r1, rb⟩ := hrel
      have hgbl := lt_heap r1
      by_cases hlt : n < 9
      · have hR := fun (W : World) (h : Below wr.heap.size wr W) => HBX.out (encTo key b n) W (HEO.out n) (rb.trans (h.mono rb.size))
        have hT := fun (W : World) => HTN.out (replL sbox (encTo key b n)) W (replL_ok box_lt_s _)
        have hM := fun (W : World) => HMX.out (turnL (replL sbox (encTo key b n)) 1) W (turnL_ok (replL_ok box_lt_s _) 1)
        have hP := fun (W : World) => HPL.out (mixT (turnL (replL sbox (encTo key b n)) 1) 1) (rk key (n + 1)) W (mixT_ok (turnL_ok (replL_ok box_lt_s _) 1) 1) (HKO.out (n + 1))
        rw [HEN.out n (by omega)] at hP
        have hrl := whole_BA r1
        have hkr := fun (W : World) (h : Below w.heap.size w W) => HKR.out W (n + 1) h (by omega)
        have hll := (HEO.out n).len
        have hl4 := (HEO.out (n + 1)).len
        have hkl := (HKO.out (n + 1)).len
        obtain ⟨l4, h4⟩ : ∃ x, x = encTo key b (n + 1) := ⟨_, rfl⟩
        obtain ⟨l, h0⟩ : ∃ x, x = encTo key b n := ⟨_, rfl⟩
        obtain ⟨k, hk⟩ : ∃ x, x = rk key (n + 1) := ⟨_, rfl⟩
        simp only [← h4, ← h0, ← hk] at hR hT hM hP hrl hkr hll hl4 hkl r1
        obtain ⟨l1, h1⟩ : ∃ x, x = replL sbox l := ⟨_, rfl⟩
        simp only [← h1] at hR hT hM hP
        obtain ⟨l2, h2⟩ : ∃ x, x = turnL l1 1 := ⟨_, rfl⟩
        simp only [← h2] at hT hM hP
        obtain ⟨l3, h3⟩ : ∃ x, x = mixT l2 1 := ⟨_, rfl⟩
        simp only [← h3] at hM hP
        have HR1 := Lib.hid hR
        have HT1 := Lib.hid hT
        have HM1 := Lib.hid hM
        have HP1 := Lib.hid hP
        obtain ⟨o, ho⟩ : ∃ o, o = 512 + 16 * (n + 1) := ⟨_, rfl⟩
        simp only [← ho] at hkr
        have hi_l : (Tryd.prog.info? 80).map (·.size) = some l.length := by rw [hll]; exact HI16.out
        have hi_l4 : (Tryd.prog.info? 80).map (·.size) = some l4.length := by rw [hl4]; exact HI16.out
        have hi_k : (Tryd.prog.info? 80).map (·.size) = some k.length := by rw [hkl]; exact HI16.out
        have hl_l4 := hl4
        have HSS : Hid (∀ W' : World, Below wr.heap.size wr W' → W'.rangeAt g o (vals k) ∧ W'.there gb 0 16 ∧ True) := fun W' h =>
          ⟨hkr W' (rb.trans (h.mono rb.size)), there_BA ((h.block _ hgbl).trans r1) (by rw [hll]; exact Nat.le_refl _), trivial⟩
        have HS2 : Hid (∀ W' : World, W'.rangeAt g o (vals k) ∧ W'.there gb 0 16 ∧ True → (W'.setCells gb 0 (vals l4)).rangeAt g o (vals k) ∧ (W'.setCells gb 0 (vals l4)).there gb 0 16 ∧ True) := fun W' h =>
          ⟨World.rangeAt_setCells_apart h.1 _ _ _ (Or.inl (by omega)), World.there_setCells h.2.1 _ _ _, trivial⟩
        have HRR : Hid (∀ W' : World, Below wr.heap.size wr W' → (W'.setCells gb 0 (vals l4)).heap[gb]? = some (.cells (BA l4) 80 (0, 0)) ∧ Below w.heap.size w (W'.setCells gb 0 (vals l4))) := fun W' h => by
          have := put_BA ((h.block _ hgbl).trans r1) 0 l4
          rw [putL_full hll hl4] at this
          exact ⟨this, below_setCs (rb.trans (h.mono rb.size)) hgb _ _⟩
        have H4 := Lib.hid h4
        have hbx : Below wr.heap.size wr wr.drew := (Below.refl _ _).drew
        have e1 : 512 + (n + 1) * 16 = o := by omega
        have k1 : (n : Int) + 1 < 10 := by omega
        have k5 : (n : Int) + 1 < 11 := by omega
        have k0 : (0 : Int) ≤ (n : Int) + 1 := by omega
        have k4 : ((n : Int) + 1).toNat = n + 1 := by omega
        clear r1 rb hR hT hM hP hkr hll hl4 hkl h4 h0 hk h1 h2 h3 ho hgbl HI16 HCI HKO HOB HBX HTN HMX HPL HBY HEN HEL HEO HKR
        go_wp2
        refine wp_region_held_drew (S := (fun W' => W'.rangeAt g o (vals k) ∧ W'.there gb 0 16 ∧ True)) (by kernel_rfl) (HSS.out _ hbx) (fun hHeld => ?_)
        refine wpAnyH_take (i := 1) (oi := _) (v := ?_) rfl (by kernel_rfl) (by kernel_rfl) (by kernel_rfl) (fun _ _ _ h => h) (Or.inl ⟨by rfl, ?_⟩) (by assumption) ?_
        rotate_left 1
        · intro w hSw; clear hSw; first | (go_simp; done) | (go_simp; with_reducible rfl)
        change wpAnyH _ _ _ _ _ _ _ (Act.put _ (some 28) _) _
        (try simp only [Act.put, List.setIfInBounds_toArray, List.set_cons_zero, List.set_cons_succ])
        refine wpAnyH_take (i := 2) (oi := _) (v := ?_) rfl (by kernel_rfl) (by kernel_rfl) (by kernel_rfl) (fun _ _ _ h => h) (Or.inl ⟨by rfl, ?_⟩) (by assumption) ?_
        rotate_left 1
        · intro w hSw; clear hSw; first | (go_simp; done) | (go_simp; with_reducible rfl)
        change wpAnyH _ _ _ _ _ _ _ (Act.put _ (some 29) _) _
        (try simp only [Act.put, List.setIfInBounds_toArray, List.set_cons_zero, List.set_cons_succ])
        refine wpAnyH_take (i := 3) (oi := _) (v := ?_) rfl (by kernel_rfl) (by kernel_rfl) (by kernel_rfl) (fun _ _ _ h => h) (Or.inl ⟨by rfl, ?_⟩) (by assumption) ?_
        rotate_left 1
        · intro w hSw; clear hSw; first | (go_simp; done) | (go_simp; with_reducible rfl)
        change wpAnyH _ _ _ _ _ _ _ (Act.put _ (some 30) _) _
        (try simp only [Act.put, List.setIfInBounds_toArray, List.set_cons_zero, List.set_cons_succ])
        refine wpAnyH_take (i := 4) (oi := _) (v := ?_) rfl (by kernel_rfl) (by kernel_rfl) (by kernel_rfl) (fun _ _ _ h => h) (Or.inl ⟨by rfl, ?_⟩) (by assumption) ?_
        rotate_left 1
        · intro w hSw; clear hSw; first | (go_simp; done) | (go_simp; with_reducible rfl)
        change wpAnyH _ _ _ _ _ _ _ (Act.put _ (some 31) _) _
        (try simp only [Act.put, List.setIfInBounds_toArray, List.set_cons_zero, List.set_cons_succ])
        refine wpAnyH_take (i := 8) (oi := _) (v := ?_) rfl (by kernel_rfl) (by kernel_rfl) (by kernel_rfl) (fun _ _ _ h => h) (Or.inl ⟨by rfl, ?_⟩) (by assumption) ?_
        rotate_left 1
        · intro w hSw; clear hSw; first | (go_simp; done) | (go_simp; with_reducible rfl)
        change wpAnyH _ _ _ _ _ _ _ (Act.put _ (some 35) _) _
        (try simp only [Act.put, List.setIfInBounds_toArray, List.set_cons_zero, List.set_cons_succ])
        refine wpAnyH_take (i := 9) (oi := _) (v := ?_) rfl (by kernel_rfl) (by kernel_rfl) (by kernel_rfl) (fun _ _ _ h => h) (Or.inl ⟨by rfl, ?_⟩) (by assumption) ?_
        rotate_left 1
        · intro w hSw; clear hSw; first | (go_simp; done) | (go_simp; with_reducible rfl)
        change wpAnyH _ _ _ _ _ _ _ (Act.put _ (some 36) _) _
        (try simp only [Act.put, List.setIfInBounds_toArray, List.set_cons_zero, List.set_cons_succ])
        refine wpAnyH_take (i := 10) (oi := _) (v := ?_) rfl (by kernel_rfl) (by kernel_rfl) (by kernel_rfl) (fun _ _ _ h => h) (Or.inl ⟨by rfl, ?_⟩) (by assumption) ?_
        rotate_left 1
        · intro w hSw; clear hSw; first | (go_simp; done) | (go_simp; with_reducible rfl)
        change wpAnyH _ _ _ _ _ _ _ (Act.put _ (some 37) _) _
        (try simp only [Act.put, List.setIfInBounds_toArray, List.set_cons_zero, List.set_cons_succ])
        refine wpAnyH_take (i := 11) (oi := _) (v := ?_) rfl (by kernel_rfl) (by kernel_rfl) (by kernel_rfl) (fun _ _ _ h => h) (Or.inl ⟨by rfl, ?_⟩) (by assumption) ?_
        rotate_left 1
        · intro w hSw; clear hSw; first | (go_simp; done) | (go_simp; with_reducible rfl)
        change wpAnyH _ _ _ _ _ _ _ (Act.put _ (some 38) _) _
        (try simp only [Act.put, List.setIfInBounds_toArray, List.set_cons_zero, List.set_cons_succ])
        refine wpAnyH_take (i := 12) (oi := _) (v := ?_) rfl (by kernel_rfl) (by kernel_rfl) (by kernel_rfl) (fun _ _ _ h => h) (Or.inl ⟨by rfl, ?_⟩) (by assumption) ?_
        rotate_left 1
        · intro w hSw; clear hSw; first | (go_simp; done) | (go_simp; with_reducible rfl)
        change wpAnyH _ _ _ _ _ _ _ (Act.put _ (some 39) _) _
        (try simp only [Act.put, List.setIfInBounds_toArray, List.set_cons_zero, List.set_cons_succ])
        refine wpAnyH_take (i := 13) (oi := _) rfl (by kernel_rfl) (by kernel_rfl) (by kernel_rfl) (fun _ _ _ h => h) (yields_load_BA (by rfl) 80 _ rfl g o rfl k _ (fun _ h => h.1) hu rfl hi_k) (by assumption) ?_
        change wpAnyH _ _ _ _ _ _ _ (Act.put _ (some 40) _) _
        (try simp only [Act.put, List.setIfInBounds_toArray, List.set_cons_zero, List.set_cons_succ])
        refine wpAnyH_ready (rs := [0]) (by kernel_rfl) (by simp) ?_
        refine AllReadyH.cons (o := _) rfl (fun K hK => ?_) AllReadyH.nil
        refine step_load_BA (by rfl) 80 _ rfl gb 0 rfl l _ hrl hu rfl hi_l ?_
        refine hK.out _ _ (HSS.out _ hbx) (fun hHeld0 => ?_)
        change wpAnyH _ _ _ _ _ _ _ (Act.put _ (some 27) _) _
        (try simp only [Act.put, List.setIfInBounds_toArray, List.set_cons_zero, List.set_cons_succ])
        clear hK K
        refine wpAnyH_ready (rs := [5]) (by kernel_rfl) (by simp) ?_
        refine AllReadyH.cons (o := _) rfl (fun K hK => ?_) AllReadyH.nil
        go_simp
        (go_at_call 54; with_reducible (refine Calls.mono (HR1.out _ hbx) ?_); rintro e v1 ⟨rfl, hb_v1⟩; replace hbx := chain hbx hb_v1)
        refine hK.out _ _ (HSS.out _ hbx) (fun hHeld5 => ?_)
        (try simp only [Act.put, List.setIfInBounds_toArray, List.set_cons_zero, List.set_cons_succ])
        clear hK K
        refine wpAnyH_ready (rs := [6]) (by kernel_rfl) (by simp) ?_
        refine AllReadyH.cons (o := _) rfl (fun K hK => ?_) AllReadyH.nil
        go_simp
        (go_at_call 55; with_reducible (refine Calls.mono (HT1.out _) ?_); rintro e v2 ⟨rfl, hb_v2⟩; replace hbx := chain hbx hb_v2)
        refine hK.out _ _ (HSS.out _ hbx) (fun hHeld6 => ?_)
        (try simp only [Act.put, List.setIfInBounds_toArray, List.set_cons_zero, List.set_cons_succ])
        clear hK K
        refine wpAnyH_ready (rs := [7]) (by kernel_rfl) (by simp) ?_
        refine AllReadyH.cons (o := _) rfl (fun K hK => ?_) AllReadyH.nil
        go_simp
        (go_at_call 56; with_reducible (refine Calls.mono (HM1.out _) ?_); rintro e v3 ⟨rfl, hb_v3⟩; replace hbx := chain hbx hb_v3)
        refine hK.out _ _ (HSS.out _ hbx) (fun hHeld7 => ?_)
        (try simp only [Act.put, List.setIfInBounds_toArray, List.set_cons_zero, List.set_cons_succ])
        clear hK K
        refine wpAnyH_ready (rs := [14]) (by kernel_rfl) (by simp) ?_
        refine AllReadyH.cons (o := _) rfl (fun K hK => ?_) AllReadyH.nil
        go_simp
        (go_at_call 53; with_reducible (refine Calls.mono (HP1.out _) ?_); rintro e v4 ⟨rfl, hb_v4⟩; replace hbx := chain hbx hb_v4)
        refine hK.out _ _ (HSS.out _ hbx) (fun hHeld14 => ?_)
        (try simp only [Act.put, List.setIfInBounds_toArray, List.set_cons_zero, List.set_cons_succ])
        clear hK K
        refine wpAnyH_ready (rs := [15]) (by kernel_rfl) (by simp) ?_
        refine AllReadyH.cons (o := _) rfl (fun K hK => ?_) AllReadyH.nil
        refine step_store_BA (by rfl) 80 _ _ rfl gb 0 l4 rfl rfl (by rw [hl_l4]; exact (HSS.out _ hbx).2.1) hi_l4 ?_
        refine hK.out _ _ (HS2.out _ (HSS.out _ hbx)) (fun hHeld15 => ?_)
        clear hK K
        refine wpAnyH_done (by kernel_rfl) ?_ _
        have R := Lib.hid (HRR.out _ hbx)
        clear HRR HS2 HSS hbx hrl
        go_wp2
        go_roundw
        case rel => first | exact ⟨n + 1, by omega, by go_num, by rw [← H4.out]; exact R.out⟩ | ((repeat apply Exists.intro); exact ⟨⟨n + 1, by omega, by go_num, by rw [← H4.out]; exact R.out⟩, rfl⟩)
        case measure => simp [intOf]; omega
      · have hn9 : n = 9 := by omega
        subst hn9
        have hR := fun (W : World) (h : Below wr.heap.size wr W) => HBX.out (encTo key b 9) W (HEO.out 9) (rb.trans (h.mono rb.size))
        have hT := fun (W : World) => HTN.out (replL sbox (encTo key b 9)) W (replL_ok box_lt_s _)
        have hP := fun (W : World) => HPL.out (turnL (replL sbox (encTo key b 9)) 1) (rk key 10) W (turnL_ok (replL_ok box_lt_s _) 1) (HKO.out 10)
        rw [HEL.out] at hP
        have hY := fun (W : World) => HBY.out (encN key b) W (HEO.out 10)
        have hrl := whole_BA r1
        have hkr := fun (W : World) (h : Below w.heap.size w W) => HKR.out W 10 h (by omega)
        have hll := (HEO.out 9).len
        have hl3 : (encN key b).length = 16 := (HEO.out 10).len
        have hkl := (HKO.out 10).len
        obtain ⟨l3, h3⟩ : ∃ x, x = encN key b := ⟨_, rfl⟩
        obtain ⟨l, h0⟩ : ∃ x, x = encTo key b 9 := ⟨_, rfl⟩
        obtain ⟨k, hk⟩ : ∃ x, x = rk key 10 := ⟨_, rfl⟩
        simp only [← h3, ← h0, ← hk] at hR hT hP hY hrl hkr hll hl3 hkl r1
        obtain ⟨l1, h1⟩ : ∃ x, x = replL sbox l := ⟨_, rfl⟩
        simp only [← h1] at hR hT hP
        obtain ⟨l2, h2⟩ : ∃ x, x = turnL l1 1 := ⟨_, rfl⟩
        simp only [← h2] at hT hP
        have HR1 := Lib.hid hR
        have HT1 := Lib.hid hT
        have HP1 := Lib.hid hP
        have HY1 := Lib.hid hY
        have hi_l : (Tryd.prog.info? 80).map (·.size) = some l.length := by rw [hll]; exact HI16.out
        have hi_l3 : (Tryd.prog.info? 80).map (·.size) = some l3.length := by rw [hl3]; exact HI16.out
        have hi_k : (Tryd.prog.info? 80).map (·.size) = some k.length := by rw [hkl]; exact HI16.out
        have hl_l3 := hl3
        have HSS : Hid (∀ W' : World, Below wr.heap.size wr W' → W'.rangeAt g 672 (vals k) ∧ W'.there gb 0 16 ∧ True) := fun W' h =>
          ⟨hkr W' (rb.trans (h.mono rb.size)), there_BA ((h.block _ hgbl).trans r1) (by rw [hll]; exact Nat.le_refl _), trivial⟩
        have HS2 : Hid (∀ W' : World, W'.rangeAt g 672 (vals k) ∧ W'.there gb 0 16 ∧ True → (W'.setCells gb 0 (vals l3)).rangeAt g 672 (vals k) ∧ (W'.setCells gb 0 (vals l3)).there gb 0 16 ∧ True) := fun W' h =>
          ⟨World.rangeAt_setCells_apart h.1 _ _ _ (Or.inl (by omega)), World.there_setCells h.2.1 _ _ _, trivial⟩
        have HRR : Hid (∀ W' : World, Below wr.heap.size wr W' → (W'.setCells gb 0 (vals l3)).heap[gb]? = some (.cells (BA l3) 80 (0, 0)) ∧ Below w.heap.size w (W'.setCells gb 0 (vals l3))) := fun W' h => by
          have := put_BA ((h.block _ hgbl).trans r1) 0 l3
          rw [putL_full hll hl3] at this
          exact ⟨this, below_setCs (rb.trans (h.mono rb.size)) hgb _ _⟩
        have H3 := Lib.hid h3
        have hbx : Below wr.heap.size wr wr.drew := (Below.refl _ _).drew
        clear r1 rb hR hT hP hY hkr hll hl3 hkl h3 h0 hk h1 h2 hgbl HI16 HCI HKO HOB HBX HTN HMX HPL HBY HEN HEL HEO HKR
        go_wp2
        refine wp_region_held_drew (S := (fun W' => W'.rangeAt g 672 (vals k) ∧ W'.there gb 0 16 ∧ True)) (by kernel_rfl) (HSS.out _ hbx) (fun hHeld => ?_)
        refine wpAnyH_take (i := 1) (oi := _) (v := ?_) rfl (by kernel_rfl) (by kernel_rfl) (by kernel_rfl) (fun _ _ _ h => h) (Or.inl ⟨by rfl, ?_⟩) (by assumption) ?_
        rotate_left 1
        · intro w hSw; clear hSw; first | (go_simp; done) | (go_simp; with_reducible rfl)
        change wpAnyH _ _ _ _ _ _ _ (Act.put _ (some 43) _) _
        (try simp only [Act.put, List.setIfInBounds_toArray, List.set_cons_zero, List.set_cons_succ])
        refine wpAnyH_take (i := 2) (oi := _) (v := ?_) rfl (by kernel_rfl) (by kernel_rfl) (by kernel_rfl) (fun _ _ _ h => h) (Or.inl ⟨by rfl, ?_⟩) (by assumption) ?_
        rotate_left 1
        · intro w hSw; clear hSw; first | (go_simp; done) | (go_simp; with_reducible rfl)
        change wpAnyH _ _ _ _ _ _ _ (Act.put _ (some 44) _) _
        (try simp only [Act.put, List.setIfInBounds_toArray, List.set_cons_zero, List.set_cons_succ])
        refine wpAnyH_take (i := 3) (oi := _) (v := ?_) rfl (by kernel_rfl) (by kernel_rfl) (by kernel_rfl) (fun _ _ _ h => h) (Or.inl ⟨by rfl, ?_⟩) (by assumption) ?_
        rotate_left 1
        · intro w hSw; clear hSw; first | (go_simp; done) | (go_simp; with_reducible rfl)
        change wpAnyH _ _ _ _ _ _ _ (Act.put _ (some 45) _) _
        (try simp only [Act.put, List.setIfInBounds_toArray, List.set_cons_zero, List.set_cons_succ])
        refine wpAnyH_take (i := 4) (oi := _) (v := ?_) rfl (by kernel_rfl) (by kernel_rfl) (by kernel_rfl) (fun _ _ _ h => h) (Or.inl ⟨by rfl, ?_⟩) (by assumption) ?_
        rotate_left 1
        · intro w hSw; clear hSw; first | (go_simp; done) | (go_simp; with_reducible rfl)
        change wpAnyH _ _ _ _ _ _ _ (Act.put _ (some 46) _) _
        (try simp only [Act.put, List.setIfInBounds_toArray, List.set_cons_zero, List.set_cons_succ])
        refine wpAnyH_take (i := 7) (oi := _) (v := ?_) rfl (by kernel_rfl) (by kernel_rfl) (by kernel_rfl) (fun _ _ _ h => h) (Or.inl ⟨by rfl, ?_⟩) (by assumption) ?_
        rotate_left 1
        · intro w hSw; clear hSw; first | (go_simp; done) | (go_simp; with_reducible rfl)
        change wpAnyH _ _ _ _ _ _ _ (Act.put _ (some 49) _) _
        (try simp only [Act.put, List.setIfInBounds_toArray, List.set_cons_zero, List.set_cons_succ])
        refine wpAnyH_take (i := 8) (oi := _) (v := ?_) rfl (by kernel_rfl) (by kernel_rfl) (by kernel_rfl) (fun _ _ _ h => h) (Or.inl ⟨by rfl, ?_⟩) (by assumption) ?_
        rotate_left 1
        · intro w hSw; clear hSw; first | (go_simp; done) | (go_simp; with_reducible rfl)
        change wpAnyH _ _ _ _ _ _ _ (Act.put _ (some 50) _) _
        (try simp only [Act.put, List.setIfInBounds_toArray, List.set_cons_zero, List.set_cons_succ])
        refine wpAnyH_take (i := 9) (oi := _) (v := ?_) rfl (by kernel_rfl) (by kernel_rfl) (by kernel_rfl) (fun _ _ _ h => h) (Or.inl ⟨by rfl, ?_⟩) (by assumption) ?_
        rotate_left 1
        · intro w hSw; clear hSw; first | (go_simp; done) | (go_simp; with_reducible rfl)
        change wpAnyH _ _ _ _ _ _ _ (Act.put _ (some 51) _) _
        (try simp only [Act.put, List.setIfInBounds_toArray, List.set_cons_zero, List.set_cons_succ])
        refine wpAnyH_take (i := 10) (oi := _) (v := ?_) rfl (by kernel_rfl) (by kernel_rfl) (by kernel_rfl) (fun _ _ _ h => h) (Or.inl ⟨by rfl, ?_⟩) (by assumption) ?_
        rotate_left 1
        · intro w hSw; clear hSw; first | (go_simp; done) | (go_simp; with_reducible rfl)
        change wpAnyH _ _ _ _ _ _ _ (Act.put _ (some 52) _) _
        (try simp only [Act.put, List.setIfInBounds_toArray, List.set_cons_zero, List.set_cons_succ])
        refine wpAnyH_take (i := 11) (oi := _) rfl (by kernel_rfl) (by kernel_rfl) (by kernel_rfl) (fun _ _ _ h => h) (yields_load_BA (by rfl) 80 _ rfl g 672 rfl k _ (fun _ h => h.1) hu rfl hi_k) (by assumption) ?_
        change wpAnyH _ _ _ _ _ _ _ (Act.put _ (some 53) _) _
        (try simp only [Act.put, List.setIfInBounds_toArray, List.set_cons_zero, List.set_cons_succ])
        refine wpAnyH_ready (rs := [0]) (by kernel_rfl) (by simp) ?_
        refine AllReadyH.cons (o := _) rfl (fun K hK => ?_) AllReadyH.nil
        refine step_load_BA (by rfl) 80 _ rfl gb 0 rfl l _ hrl hu rfl hi_l ?_
        refine hK.out _ _ (HSS.out _ hbx) (fun hHeld0 => ?_)
        change wpAnyH _ _ _ _ _ _ _ (Act.put _ (some 42) _) _
        (try simp only [Act.put, List.setIfInBounds_toArray, List.set_cons_zero, List.set_cons_succ])
        clear hK K
        refine wpAnyH_ready (rs := [5]) (by kernel_rfl) (by simp) ?_
        refine AllReadyH.cons (o := _) rfl (fun K hK => ?_) AllReadyH.nil
        go_simp
        (go_at_call 54; with_reducible (refine Calls.mono (HR1.out _ hbx) ?_); rintro e v1 ⟨rfl, hb_v1⟩; replace hbx := chain hbx hb_v1)
        refine hK.out _ _ (HSS.out _ hbx) (fun hHeld5 => ?_)
        (try simp only [Act.put, List.setIfInBounds_toArray, List.set_cons_zero, List.set_cons_succ])
        clear hK K
        refine wpAnyH_ready (rs := [6]) (by kernel_rfl) (by simp) ?_
        refine AllReadyH.cons (o := _) rfl (fun K hK => ?_) AllReadyH.nil
        go_simp
        (go_at_call 55; with_reducible (refine Calls.mono (HT1.out _) ?_); rintro e v2 ⟨rfl, hb_v2⟩; replace hbx := chain hbx hb_v2)
        refine hK.out _ _ (HSS.out _ hbx) (fun hHeld6 => ?_)
        (try simp only [Act.put, List.setIfInBounds_toArray, List.set_cons_zero, List.set_cons_succ])
        clear hK K
        refine wpAnyH_ready (rs := [12]) (by kernel_rfl) (by simp) ?_
        refine AllReadyH.cons (o := _) rfl (fun K hK => ?_) AllReadyH.nil
        go_simp
        (go_at_call 53; with_reducible (refine Calls.mono (HP1.out _) ?_); rintro e v3 ⟨rfl, hb_v3⟩; replace hbx := chain hbx hb_v3)
        refine hK.out _ _ (HSS.out _ hbx) (fun hHeld12 => ?_)
        (try simp only [Act.put, List.setIfInBounds_toArray, List.set_cons_zero, List.set_cons_succ])
        clear hK K
        refine wpAnyH_ready (rs := [13]) (by kernel_rfl) (by simp) ?_
        refine AllReadyH.cons (o := _) rfl (fun K hK => ?_) AllReadyH.nil
        refine step_store_BA (by rfl) 80 _ _ rfl gb 0 l3 rfl rfl (by rw [hl_l3]; exact (HSS.out _ hbx).2.1) hi_l3 ?_
        refine hK.out _ _ (HS2.out _ (HSS.out _ hbx)) (fun hHeld13 => ?_)
        clear hK K
        refine wpAnyH_done (by kernel_rfl) ?_ _
        have R := Lib.hid (HRR.out _ hbx)
        obtain ⟨W5, hW5⟩ : ∃ W, W = v3.setCells gb 0 (vals l3) := ⟨_, rfl⟩
        rw [← hW5] at R ⊢
        have hr5 := whole_BA R.out.1
        clear HRR HS2 HSS hbx hrl hW5
        go_wp2_with (first
          | (refine list_load_BA rfl 80 _ rfl gb 0 rfl l3 _ hr5 hu rfl hi_l3 ?_)
          | (go_at_call 57; with_reducible (refine Calls.mono (HY1.out _) ?_); rintro e w6 ⟨g6, rfl, hg6, hb6, hn6⟩))
        have HG6 := Lib.hid hg6
        have HB6 := Lib.hid (chain R.out.2 hb6)
        have HN6 := Lib.hid (Nat.le_trans R.out.2.size hn6)
        clear hg6 hb6 hr5 hn6
        go_ret2
        exact ⟨g6, rfl, by rw [← H3.out]; exact HG6.out, HB6.out, HN6.out⟩

theorem aesBlock_any (a : Addr) (key : List Nat) (A : Option Addr) (c : Nat) (b : List Nat) (w : World) (hC : Ciph w a key) (hr : Ints w w.heap.size .u8 A (up b)) (hb : ∀ x ∈ b, x < 256) (hl : b.length = 16) (hc : 16 ≤ c) :
    Calls Tryd.prog 34 #[.pointer (some a), .slice A 16 c] w fun e w' => ∃ g, e = .returned (.tuple #[.slice (some ⟨g, 0, none⟩) 16 16, .int .i64 0]) ∧ w'.heap[g]? = some (.cells (BA (encN key b)) 5 (0, 0)) ∧ Below w.heap.size w w' :=
  (aesBlock_new a key A c b w hC hr hb hl hc).mono fun _ _ ⟨g, h1, h2, h3, _⟩ => ⟨g, h1, h2, h3⟩

end Go.Proofs.YtanpfodmmeagaaaDoor
