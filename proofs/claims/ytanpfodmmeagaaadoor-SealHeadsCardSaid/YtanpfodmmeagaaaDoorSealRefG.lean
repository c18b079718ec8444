/-
  The document's own seal, walked: which error. The document's own tag, walked. A head's cells in memory; what no error says.
-/
import Derived.Test.YtanpfodmmeagaaaDoorSealNumsG
import Derived.Test.YtanpfodmmeagaaaDoorBlk2G
namespace Go.Proofs.YtanpfodmmeagaaaDoor
open Go.RowKit

set_option maxHeartbeats 1600000 in
set_option maxRecDepth 20000 in
theorem refRight (key g : ByteArray) (t v b s r : Int) (A : Option Addr) (n c : Nat) (w : World) :
    Calls Tryd.prog 16 #[.string key, .agg #[.int .i64 t, .int .i64 v, .int .i64 b, .int .i64 s, .int .i64 r, .string g], .slice A n c] w fun e w' =>
      e = .returned (.int .i64 (sealE key.size n t v b s r)) ∧ Below w.heap.size w w' := by
  by_cases h1 : (key.size : Int) = 16
  · by_cases h2 : (n : Int) = 64
    · go_enter Tryd.func16, Tryd.ntmps16
      go_wp2
      all_goals go_ret
      all_goals refine ⟨?_, (Below.refl _ _).alloc (Nat.le_refl _) _⟩
      all_goals (unfold sealE; rw [if_pos ⟨by omega, by omega⟩]; first | (rw [if_pos (by omega)]; rfl) | (rw [if_neg (by omega)]; rfl))
    · go_enter Tryd.func16, Tryd.ntmps16
      go_wp2
      all_goals go_ret
      all_goals exact ⟨(by unfold sealE; rw [if_neg (by omega)]; rfl), (Below.refl _ _).alloc (Nat.le_refl _) _⟩
  · go_enter Tryd.func16, Tryd.ntmps16
    go_wp2
    all_goals go_ret
    all_goals exact ⟨(by unfold sealE; rw [if_neg (by omega)]; rfl), (Below.refl _ _).alloc (Nat.le_refl _) _⟩

set_option maxHeartbeats 1600000 in
set_option maxRecDepth 20000 in
theorem refApply7 (HR : RefSpec) (key g : ByteArray) (t v b s r : Int) (A : Option Addr) (c : Nat) (x : List Nat) (w : World) (hi : Ints w w.heap.size .u8 A (up x)) (hx : ∀ y ∈ x, y < 256) (hxl : x.length = 64) (hks : key.size = 16) :
    Calls Tryd.prog 17 #[.string key, .agg #[.int .i64 t, .int .i64 v, .int .i64 b, .int .i64 s, .int .i64 r, .string g], .slice A 64 c] w fun e w' =>
      ∃ A' c', e = .returned (.slice A' 64 c') ∧ 64 ≤ c' ∧ Ints w' w'.heap.size .u8 A' (up (sealN (textN key) t s r x)) ∧ Below w.heap.size w w' := by
  have hkl : (textN key).length = 16 := by rw [textN_len, hks]
  have HD : Hid (∀ (W : World) (A0 : Option Addr) (c0 : Nat), Ints W W.heap.size .u8 A0 (up (textN key)) → (A0 = none → c0 = 0) →
      Calls Tryd.prog 26 #[.slice A0 16 c0, .string ⟨#[99, 105, 112, 104, 101, 114]⟩, .int .i64 t] W fun e w' => ∃ A c, e = .returned (.slice A 16 c) ∧ 16 ≤ c ∧ Ints w' w'.heap.size .u8 A (up (deriveN (textN key) cipherP t)) ∧ Below W.heap.size W w') := fun W A0 c0 h0 hA => by
    have h := refDerive_any HR A0 c0 (textN key) ⟨#[99, 105, 112, 104, 101, 114]⟩ t W h0 hA (textN_lt key) (by rw [hkl]; decide) (by decide)
    rw [hkl] at h
    exact h
  have HC := Lib.hid (fun (W : World) => refCounter_any s r W)
  have HAP : Hid (∀ (W : World) (A0 A1 : Option Addr) (c0 c1 : Nat), Below w.heap.size w W → Ints W W.heap.size .u8 A0 (up (deriveN (textN key) cipherP t)) → Ints W W.heap.size .u8 A1 (up (counterOf s r)) → 16 ≤ c0 →
      Calls Tryd.prog 25 #[.slice A0 16 c0, .slice A1 16 c1, .slice A 64 c] W fun e w' => ∃ A' c', e = .returned (.slice A' 64 c') ∧ 64 ≤ c' ∧ Ints w' w'.heap.size .u8 A' (up (sealN (textN key) t s r x)) ∧ Below W.heap.size W w') := fun W A0 A1 c0 c1 hb h0 h1 hc0 => by
    have h := refApply_any A0 A1 A c0 c1 c (deriveN (textN key) cipherP t) (counterOf s r) x W h0 h1 ((hi.below hb).more hb.size) (deriveN_lt _ _ _) (counterOf_ok s r).lt hx (deriveN_len _ _ _) (counterOf_ok s r).len hc0 (by rw [hxl]; decide)
    rw [hxl] at h
    exact h
  obtain ⟨W1, hW1⟩ : ∃ W, W = w.alloc (.cells #[.int .i64 t, .int .i64 v, .int .i64 b, .int .i64 s, .int .i64 r, .string g] 23) := ⟨_, rfl⟩
  obtain ⟨q, hq⟩ : ∃ q, q = w.heap.size := ⟨_, rfl⟩
  have hrow : W1.heap[q]? = some (.cells #[.int .i64 t, .int .i64 v, .int .i64 b, .int .i64 s, .int .i64 r, .string g] 23 (0, 0)) := by rw [hW1, hq]; exact heap_alloc_new _ _
  have hbW : Below w.heap.size w W1 := by rw [hW1]; exact (Below.refl _ _).alloc (Nat.le_refl _) _
  have hql : q < W1.heap.size := lt_row hrow
  have HSS : Hid (∀ W : World, Below W1.heap.size W1 W → W.cell? ⟨q, 0, none⟩ = some (.int .i64 t) ∧ W.cell? ⟨q, 3, none⟩ = some (.int .i64 s) ∧ W.cell? ⟨q, 4, none⟩ = some (.int .i64 r)) := fun W hb => by
    have h := (hb.block q hql).trans hrow
    refine ⟨?_, ?_, ?_⟩ <;> (rw [cell_of_row _ _ _ _ _ _ h]; rfl)
  obtain ⟨c2, WB, hcv, hbB, hiB⟩ : ∃ c2 WB, Sem.run Tryd.prog (convert 9 24 (.string key)) W1.drew = .ok (.slice (some ⟨W1.heap.size, 0, none⟩) 16 c2) WB ∧ Below W1.heap.size W1 WB ∧ Ints WB WB.heap.size .u8 (some ⟨W1.heap.size, 0, none⟩) (up (textN key)) := by
    have hrt := room_of_text W1.drew 5 key (by rw [hks]; unfold maxLen; decide)
    have hrun := Lib.run_convert_string_bytes (P := Tryd.prog) W1.drew 9 24 5 key Tryd.underlying9 Tryd.underlying24 Tryd.underlying5
    obtain ⟨A2, c2, h2, _, hi2, _⟩ := hrt.1.form
    injection h2 with h2 _ _
    rw [hks] at hrun
    refine ⟨_, _, hrun, ((Below.refl W1.heap.size W1).drew).trans hrt.2, ?_⟩
    rw [← h2] at hi2
    exact hi2
  have HBB := Lib.hid hbB
  have HIB := Lib.hid hiB
  have HBW := Lib.hid hbW
  clear hi hx hbW hrow hkl HR hbB hiB
  go_enter Tryd.func17, Tryd.ntmps17
  go_wp2_with fail
  rw [← hW1, ← hq]
  clear hW1 hq
  have hbs : Below W1.heap.size W1 W1.drew := (Below.refl _ _).drew
  refine wp_region_held_drew (S := (fun W => W.cell? ⟨q, 0, none⟩ = some (.int .i64 t) ∧ W.cell? ⟨q, 3, none⟩ = some (.int .i64 s) ∧ W.cell? ⟨q, 4, none⟩ = some (.int .i64 r))) (by kernel_rfl) (HSS.out _ hbs) (fun hHeld => ?_)
  refine wpAnyH_take (i := 0) (oi := _) (v := ?_) rfl (by kernel_rfl) (by kernel_rfl) (by kernel_rfl) (fun _ _ _ h => h) (Or.inl ⟨by rfl, ?_⟩) (by assumption) ?_
  rotate_left 1
  · intro w hSw; (try dsimp only at hSw); first | (go_simp; done) | (go_simp; with_reducible rfl)
  change wpAnyH _ _ _ _ _ _ _ (Act.put _ (some 7) _) _
  (try simp only [Act.put, List.setIfInBounds_toArray, List.set_cons_zero, List.set_cons_succ])
  refine wpAnyH_take (i := 2) (oi := _) (v := ?_) rfl (by kernel_rfl) (by kernel_rfl) (by kernel_rfl) (fun _ _ _ h => h) (Or.inl ⟨by rfl, ?_⟩) (by assumption) ?_
  rotate_left 1
  · intro w hSw; (try dsimp only at hSw); first | (go_simp; done) | (go_simp; with_reducible rfl)
  change wpAnyH _ _ _ _ _ _ _ (Act.put _ (some 9) _) _
  (try simp only [Act.put, List.setIfInBounds_toArray, List.set_cons_zero, List.set_cons_succ])
  refine wpAnyH_take (i := 3) (oi := _) (v := ?_) rfl (by kernel_rfl) (by kernel_rfl) (by kernel_rfl) (fun _ _ _ h => h) (Or.inl ⟨by rfl, ?_⟩) (by assumption) ?_
  rotate_left 1
  · intro w hSw; (try dsimp only at hSw); first | (go_simp; done) | (go_simp; with_reducible rfl)
  change wpAnyH _ _ _ _ _ _ _ (Act.put _ (some 10) _) _
  (try simp only [Act.put, List.setIfInBounds_toArray, List.set_cons_zero, List.set_cons_succ])
  refine wpAnyH_take (i := 5) (oi := _) (v := ?_) rfl (by kernel_rfl) (by kernel_rfl) (by kernel_rfl) (fun _ _ _ h => h) (Or.inl ⟨by rfl, ?_⟩) (by assumption) ?_
  rotate_left 1
  · intro w hSw; (try dsimp only at hSw); first | (go_simp; done) | (go_simp; with_reducible rfl)
  change wpAnyH _ _ _ _ _ _ _ (Act.put _ (some 12) _) _
  (try simp only [Act.put, List.setIfInBounds_toArray, List.set_cons_zero, List.set_cons_succ])
  refine wpAnyH_take (i := 6) (oi := _) (v := ?_) rfl (by kernel_rfl) (by kernel_rfl) (by kernel_rfl) (fun _ _ _ h => h) (Or.inl ⟨by rfl, ?_⟩) (by assumption) ?_
  rotate_left 1
  · intro w hSw; (try dsimp only at hSw); first | (go_simp; done) | (go_simp; with_reducible rfl)
  change wpAnyH _ _ _ _ _ _ _ (Act.put _ (some 13) _) _
  (try simp only [Act.put, List.setIfInBounds_toArray, List.set_cons_zero, List.set_cons_succ])
  refine wpAnyH_take (i := 7) (oi := _) (v := ?_) rfl (by kernel_rfl) (by kernel_rfl) (by kernel_rfl) (fun _ _ _ h => h) (Or.inl ⟨by rfl, ?_⟩) (by assumption) ?_
  rotate_left 1
  · intro w hSw; (try dsimp only at hSw); first | (go_simp; done) | (go_simp; with_reducible rfl)
  change wpAnyH _ _ _ _ _ _ _ (Act.put _ (some 14) _) _
  (try simp only [Act.put, List.setIfInBounds_toArray, List.set_cons_zero, List.set_cons_succ])
  refine wpAnyH_take (i := 8) (oi := _) (v := ?_) rfl (by kernel_rfl) (by kernel_rfl) (by kernel_rfl) (fun _ _ _ h => h) (Or.inl ⟨by rfl, ?_⟩) (by assumption) ?_
  rotate_left 1
  · intro w hSw; (try dsimp only at hSw); first | (go_simp; done) | (go_simp; with_reducible rfl)
  change wpAnyH _ _ _ _ _ _ _ (Act.put _ (some 15) _) _
  (try simp only [Act.put, List.setIfInBounds_toArray, List.set_cons_zero, List.set_cons_succ])
  refine wpAnyH_take (i := 10) (oi := _) (v := ?_) rfl (by kernel_rfl) (by kernel_rfl) (by kernel_rfl) (fun _ _ _ h => h) (Or.inl ⟨by rfl, ?_⟩) (by assumption) ?_
  rotate_left 1
  · intro w hSw; (try dsimp only at hSw); first | (go_simp; done) | (go_simp; with_reducible rfl)
  change wpAnyH _ _ _ _ _ _ _ (Act.put _ (some 17) _) _
  (try simp only [Act.put, List.setIfInBounds_toArray, List.set_cons_zero, List.set_cons_succ])
  refine wpAnyH_ready (rs := [1]) (by kernel_rfl) (by simp) ?_
  refine AllReadyH.cons (o := _) rfl (fun K hK => ?_) AllReadyH.nil
  go_simp
  have hbs := HBB.out
  refine hK.out _ _ (HSS.out _ hbs) (fun hHeld1 => ?_)
  (try simp only [Act.put, List.setIfInBounds_toArray, List.set_cons_zero, List.set_cons_succ])
  clear hK K
  refine wpAnyH_ready (rs := [4]) (by kernel_rfl) (by simp) ?_
  refine AllReadyH.cons (o := _) rfl (fun K hK => ?_) AllReadyH.nil
  go_simp
  (go_at_call 26; with_reducible (refine Calls.mono (HD.out _ _ _ HIB.out (fun h => by cases h)) ?_); rintro e w3 ⟨A3, c3, rfl, hc3, hi3, hb3⟩; have hbs := chain hbs hb3)
  refine hK.out _ _ (HSS.out _ hbs) (fun hHeld4 => ?_)
  (try simp only [Act.put, List.setIfInBounds_toArray, List.set_cons_zero, List.set_cons_succ])
  clear hK K
  refine wpAnyH_ready (rs := [9]) (by kernel_rfl) (by simp) ?_
  refine AllReadyH.cons (o := _) rfl (fun K hK => ?_) AllReadyH.nil
  go_simp
  (go_at_call 27; with_reducible (refine Calls.mono (HC.out _) ?_); rintro e w4 ⟨A4, c4, rfl, hc4, hi4, hb4⟩; have hbs := chain hbs hb4)
  refine hK.out _ _ (HSS.out _ hbs) (fun hHeld9 => ?_)
  (try simp only [Act.put, List.setIfInBounds_toArray, List.set_cons_zero, List.set_cons_succ])
  clear hK K
  refine wpAnyH_ready (rs := [11]) (by kernel_rfl) (by simp) ?_
  refine AllReadyH.cons (o := _) rfl (fun K hK => ?_) AllReadyH.nil
  go_simp
  (go_at_call 25; with_reducible (refine Calls.mono (HAP.out _ _ _ _ _ (HBW.out.trans (hbs.mono HBW.out.size)) ((hi3.below hb4).more hb4.size) hi4 hc3) ?_); rintro e w5 ⟨A5, c5, rfl, hc5, hi5, hb5⟩; have hbs := chain hbs hb5)
  refine hK.out _ _ (HSS.out _ hbs) (fun hHeld11 => ?_)
  (try simp only [Act.put, List.setIfInBounds_toArray, List.set_cons_zero, List.set_cons_succ])
  clear hK K
  refine wpAnyH_take (i := 12) (oi := _) (v := ?_) rfl (by kernel_rfl) (by kernel_rfl) (by kernel_rfl) (fun _ _ _ h => h) (Or.inl ⟨by rfl, ?_⟩) (by assumption) ?_
  rotate_left 1
  · intro w hSw; (try dsimp only at hSw); first | (go_simp; done) | (go_simp; with_reducible rfl)
  change wpAnyH _ _ _ _ _ _ _ (Act.put _ (some 6) _) _
  (try simp only [Act.put, List.setIfInBounds_toArray, List.set_cons_zero, List.set_cons_succ])
  refine wpAnyH_done (by kernel_rfl) ?_ _
  go_wp2
  go_ret
  exact ⟨_, _, rfl, hc5, hi5, HBW.out.trans (hbs.mono HBW.out.size)⟩

end Go.Proofs.YtanpfodmmeagaaaDoor

namespace Go.Proofs.YtanpfodmmeagaaaDoor
open Go.RowKit

set_option maxHeartbeats 1600000 in
set_option maxRecDepth 20000 in
theorem refTag (HR : RefSpec) (key g : ByteArray) (t v b s r : Int) (A : Option Addr) (c : Nat) (x : List Nat) (w : World) (hi : Ints w w.heap.size .u8 A (up x)) (hx : ∀ y ∈ x, y < 256) (hxl : x.length = 64) (hks : key.size = 16) :
    Calls Tryd.prog 18 #[.string key, .agg #[.int .i64 t, .int .i64 v, .int .i64 b, .int .i64 s, .int .i64 r, .string g], .slice A 64 c] w fun e w' =>
      e = .returned (.string (tagS key t v b s r x)) ∧ Below w.heap.size w w' := by
  obtain ⟨i0, hii, hz0, hz1, hz2⟩ := info_parts Tryd.infoU8s
  have hkl : (textN key).length = 16 := by rw [textN_len, hks]
  have HE1 := Lib.hid (eight6 t)
  have HE2 := Lib.hid (eight6 v)
  have HE3 := Lib.hid (eight6 b)
  have HE4 := Lib.hid (eight6 s)
  have HE5 := Lib.hid (eight6 r)
  have HHD : Hid (headN t v b s r = eightN t ++ eightN v ++ eightN b ++ eightN s ++ eightN r) := rfl
  have hl1 : (eightN t).length = 8 := rfl
  obtain ⟨E1, hE1⟩ : ∃ E, E = eightN t := ⟨_, rfl⟩
  rw [← hE1] at HE1 HHD hl1
  have HL1 := Lib.hid hl1
  have hl2 : (eightN v).length = 8 := rfl
  obtain ⟨E2, hE2⟩ : ∃ E, E = eightN v := ⟨_, rfl⟩
  rw [← hE2] at HE2 HHD hl2
  have HL2 := Lib.hid hl2
  have hl3 : (eightN b).length = 8 := rfl
  obtain ⟨E3, hE3⟩ : ∃ E, E = eightN b := ⟨_, rfl⟩
  rw [← hE3] at HE3 HHD hl3
  have HL3 := Lib.hid hl3
  have hl4 : (eightN s).length = 8 := rfl
  obtain ⟨E4, hE4⟩ : ∃ E, E = eightN s := ⟨_, rfl⟩
  rw [← hE4] at HE4 HHD hl4
  have HL4 := Lib.hid hl4
  have hl5 : (eightN r).length = 8 := rfl
  obtain ⟨E5, hE5⟩ : ∃ E, E = eightN r := ⟨_, rfl⟩
  rw [← hE5] at HE5 HHD hl5
  have HL5 := Lib.hid hl5
  clear hl1 hE1 hl2 hE2 hl3 hE3 hl4 hE4 hl5 hE5
  have HI := Lib.hid hi
  have HXL := Lib.hid hxl
  obtain ⟨W1, hW1⟩ : ∃ W, W = w.alloc (.cells #[.int .i64 t, .int .i64 v, .int .i64 b, .int .i64 s, .int .i64 r, .string g] 23) := ⟨_, rfl⟩
  obtain ⟨q, hq⟩ : ∃ q, q = w.heap.size := ⟨_, rfl⟩
  have hrow : W1.heap[q]? = some (.cells #[.int .i64 t, .int .i64 v, .int .i64 b, .int .i64 s, .int .i64 r, .string g] 23 (0, 0)) := by rw [hW1, hq]; exact heap_alloc_new _ _
  have hbW : Below w.heap.size w W1 := by rw [hW1]; exact (Below.refl _ _).alloc (Nat.le_refl _) _
  have hql : q < W1.heap.size := lt_row hrow
  have HSS : Hid (∀ W : World, Below W1.heap.size W1 W → W.cell? ⟨q, 0, none⟩ = some (.int .i64 t) ∧ W.cell? ⟨q, 1, none⟩ = some (.int .i64 v) ∧ W.cell? ⟨q, 2, none⟩ = some (.int .i64 b) ∧ W.cell? ⟨q, 3, none⟩ = some (.int .i64 s) ∧ W.cell? ⟨q, 4, none⟩ = some (.int .i64 r)) := fun W hb => by
    have h := (hb.block q hql).trans hrow
    refine ⟨?_, ?_, ?_, ?_, ?_⟩ <;> (rw [cell_of_row _ _ _ _ _ _ h]; rfl)
  have HBW := Lib.hid hbW
  clear hi hxl hrow hbW
  go_enter Tryd.func18, Tryd.ntmps18
  go_wp2_with fail
  have hq1 : q + 1 = W1.heap.size := by rw [hW1, hq]; simp
  rw [← hW1, ← hq, hq1]
  clear hW1 hq hq1
  have hb0 : Below W1.heap.size W1 (W1.alloc (.cells #[] 5)) := (Below.refl _ _).alloc (Nat.le_refl _) _
  obtain ⟨z0, z1, z2, z3, z4⟩ := HSS.out _ hb0
  go_wp2_with (first
    | (go_at_call 28; with_reducible (refine Calls.mono (HE1.out _) ?_); rintro e wc1 ⟨A1, c1, rfl, hc1, hi1, hbc1⟩; have howc1 := own_call (World.ownsRow_made (e := 5) W1 #[] 0 (Nat.le_refl _) (Nat.zero_le _) rfl) hbc1; have hbw1 := hb0.trans (hbc1.mono hb0.size); have hnil1 := nil_of_ints (c := c1) hi1 (by rw [up_len, HL1.out]; decide))
    | (at_builtin; refine wpList_append_when _ rfl (.tmp 9) (.tmp 12) 24 rfl W1.heap.size 5 i0 (.int .u8 0) 1 Tryd.underlying24 hii hz0 hz1 hz2 rfl .u8 (.slice (some ⟨W1.heap.size, 0, none⟩) 0 0) [] (up E1) wc1.heap.size c1 8 A1 (by rw [up_len, HL1.out]) rfl rfl howc1 hi1 hnil1 ?d1 ?d2 hbw1.size ?_))
  case d1 => rw [up_len, HL1.out]; decide
  case d2 => rw [up_len, HL1.out]; decide
  intro v1 w1 hown1 hg1 _
  have hb1 := hbw1.grown hg1 hbw1.size fun q9 hq9 => by simp [Value.ownBlock] at hq9; omega
  replace hown1 : w1.ownsRow W1.heap.size 5 1 v1 8 ((up E1).map (Value.int .u8)) := by
    have h : w1.ownsRow W1.heap.size 5 1 v1 (up E1).length ((up E1).map (Value.int .u8)) := hown1
    rw [up_len, HL1.out] at h
    exact h
  have HN1 := HL1
  obtain ⟨B1, cap1, hv1⟩ := own_slice hown1
  subst hv1
  clear hi1 hbc1 hbw1 hnil1 howc1 hg1 z0 z1 z2 z3 z4 hb0
  obtain ⟨z0, z1, z2, z3, z4⟩ := HSS.out _ hb1
  go_wp2_with (first
    | (go_at_call 28; with_reducible (refine Calls.mono (HE2.out _) ?_); rintro e wc2 ⟨A2, c2, rfl, hc2, hi2, hbc2⟩; have howc2 := own_call hown1 hbc2; have hbw2 := hb1.trans (hbc2.mono hb1.size); have hnil2 := nil_of_ints (c := c2) hi2 (by rw [up_len, HL2.out]; decide))
    | (at_builtin; refine wpList_append_when _ rfl (.tmp 14) (.tmp 17) 24 rfl W1.heap.size 5 i0 (.int .u8 0) 1 Tryd.underlying24 hii hz0 hz1 hz2 rfl .u8 (.slice B1 8 cap1) (up E1) (up E2) wc2.heap.size c2 8 A2 (by rw [up_len, HL2.out]) rfl rfl (by rw [up_len, HN1.out]; exact howc2) hi2 hnil2 ?d1 ?d2 hbw2.size ?_))
  case d1 => rw [up_len, up_len, HN1.out, HL2.out]; decide
  case d2 => rw [up_len, up_len, HN1.out, HL2.out]; decide
  intro v2 w2 hown2 hg2 _
  have hb2 := hbw2.grown hg2 hbw2.size fun q9 hq9 => (howc2.lt q9 hq9).1
  replace hown2 : w2.ownsRow W1.heap.size 5 1 v2 16 ((up (E1 ++ E2)).map (Value.int .u8)) := by
    rw [up_len, up_len, HN1.out, HL2.out] at hown2
    rw [up_append, List.map_append]
    exact hown2
  obtain ⟨L2, hL2⟩ : ∃ L, L = E1 ++ E2 := ⟨_, rfl⟩
  have HN2 : Hid (L2.length = 16) := by refine Lib.hid ?_; rw [hL2, List.length_append, HN1.out, HL2.out]
  rw [← hL2] at hown2 HHD
  clear hL2
  obtain ⟨B2, cap2, hv2⟩ := own_slice hown2
  subst hv2
  clear hi2 hbc2 hbw2 hnil2 howc2 hg2 z0 z1 z2 z3 z4 hb1 hown1
  obtain ⟨z0, z1, z2, z3, z4⟩ := HSS.out _ hb2
  go_wp2_with (first
    | (go_at_call 28; with_reducible (refine Calls.mono (HE3.out _) ?_); rintro e wc3 ⟨A3, c3, rfl, hc3, hi3, hbc3⟩; have howc3 := own_call hown2 hbc3; have hbw3 := hb2.trans (hbc3.mono hb2.size); have hnil3 := nil_of_ints (c := c3) hi3 (by rw [up_len, HL3.out]; decide))
    | (at_builtin; refine wpList_append_when _ rfl (.tmp 19) (.tmp 22) 24 rfl W1.heap.size 5 i0 (.int .u8 0) 1 Tryd.underlying24 hii hz0 hz1 hz2 rfl .u8 (.slice B2 16 cap2) (up L2) (up E3) wc3.heap.size c3 8 A3 (by rw [up_len, HL3.out]) rfl rfl (by rw [up_len, HN2.out]; exact howc3) hi3 hnil3 ?d1 ?d2 hbw3.size ?_))
  case d1 => rw [up_len, up_len, HN2.out, HL3.out]; decide
  case d2 => rw [up_len, up_len, HN2.out, HL3.out]; decide
  intro v3 w3 hown3 hg3 _
  have hb3 := hbw3.grown hg3 hbw3.size fun q9 hq9 => (howc3.lt q9 hq9).1
  replace hown3 : w3.ownsRow W1.heap.size 5 1 v3 24 ((up (L2 ++ E3)).map (Value.int .u8)) := by
    rw [up_len, up_len, HN2.out, HL3.out] at hown3
    rw [up_append, List.map_append]
    exact hown3
  obtain ⟨L3, hL3⟩ : ∃ L, L = L2 ++ E3 := ⟨_, rfl⟩
  have HN3 : Hid (L3.length = 24) := by refine Lib.hid ?_; rw [hL3, List.length_append, HN2.out, HL3.out]
  rw [← hL3] at hown3 HHD
  clear hL3
  obtain ⟨B3, cap3, hv3⟩ := own_slice hown3
  subst hv3
  clear hi3 hbc3 hbw3 hnil3 howc3 hg3 z0 z1 z2 z3 z4 hb2 hown2
  obtain ⟨z0, z1, z2, z3, z4⟩ := HSS.out _ hb3
  go_wp2_with (first
    | (go_at_call 28; with_reducible (refine Calls.mono (HE4.out _) ?_); rintro e wc4 ⟨A4, c4, rfl, hc4, hi4, hbc4⟩; have howc4 := own_call hown3 hbc4; have hbw4 := hb3.trans (hbc4.mono hb3.size); have hnil4 := nil_of_ints (c := c4) hi4 (by rw [up_len, HL4.out]; decide))
    | (at_builtin; refine wpList_append_when _ rfl (.tmp 24) (.tmp 27) 24 rfl W1.heap.size 5 i0 (.int .u8 0) 1 Tryd.underlying24 hii hz0 hz1 hz2 rfl .u8 (.slice B3 24 cap3) (up L3) (up E4) wc4.heap.size c4 8 A4 (by rw [up_len, HL4.out]) rfl rfl (by rw [up_len, HN3.out]; exact howc4) hi4 hnil4 ?d1 ?d2 hbw4.size ?_))
  case d1 => rw [up_len, up_len, HN3.out, HL4.out]; decide
  case d2 => rw [up_len, up_len, HN3.out, HL4.out]; decide
  intro v4 w4 hown4 hg4 _
  have hb4 := hbw4.grown hg4 hbw4.size fun q9 hq9 => (howc4.lt q9 hq9).1
  replace hown4 : w4.ownsRow W1.heap.size 5 1 v4 32 ((up (L3 ++ E4)).map (Value.int .u8)) := by
    rw [up_len, up_len, HN3.out, HL4.out] at hown4
    rw [up_append, List.map_append]
    exact hown4
  obtain ⟨L4, hL4⟩ : ∃ L, L = L3 ++ E4 := ⟨_, rfl⟩
  have HN4 : Hid (L4.length = 32) := by refine Lib.hid ?_; rw [hL4, List.length_append, HN3.out, HL4.out]
  rw [← hL4] at hown4 HHD
  clear hL4
  obtain ⟨B4, cap4, hv4⟩ := own_slice hown4
  subst hv4
  clear hi4 hbc4 hbw4 hnil4 howc4 hg4 z0 z1 z2 z3 z4 hb3 hown3
  obtain ⟨z0, z1, z2, z3, z4⟩ := HSS.out _ hb4
  go_wp2_with (first
    | (go_at_call 28; with_reducible (refine Calls.mono (HE5.out _) ?_); rintro e wc5 ⟨A5, c5, rfl, hc5, hi5, hbc5⟩; have howc5 := own_call hown4 hbc5; have hbw5 := hb4.trans (hbc5.mono hb4.size); have hnil5 := nil_of_ints (c := c5) hi5 (by rw [up_len, HL5.out]; decide))
    | (at_builtin; refine wpList_append_when _ rfl (.tmp 29) (.tmp 32) 24 rfl W1.heap.size 5 i0 (.int .u8 0) 1 Tryd.underlying24 hii hz0 hz1 hz2 rfl .u8 (.slice B4 32 cap4) (up L4) (up E5) wc5.heap.size c5 8 A5 (by rw [up_len, HL5.out]) rfl rfl (by rw [up_len, HN4.out]; exact howc5) hi5 hnil5 ?d1 ?d2 hbw5.size ?_))
  case d1 => rw [up_len, up_len, HN4.out, HL5.out]; decide
  case d2 => rw [up_len, up_len, HN4.out, HL5.out]; decide
  intro v5 w5 hown5 hg5 _
  have hb5 := hbw5.grown hg5 hbw5.size fun q9 hq9 => (howc5.lt q9 hq9).1
  replace hown5 : w5.ownsRow W1.heap.size 5 1 v5 40 ((up (L4 ++ E5)).map (Value.int .u8)) := by
    rw [up_len, up_len, HN4.out, HL5.out] at hown5
    rw [up_append, List.map_append]
    exact hown5
  obtain ⟨L5, hL5⟩ : ∃ L, L = L4 ++ E5 := ⟨_, rfl⟩
  have HN5 : Hid (L5.length = 40) := by refine Lib.hid ?_; rw [hL5, List.length_append, HN4.out, HL5.out]
  rw [← hL5] at hown5 HHD
  clear hL5
  obtain ⟨B5, cap5, hv5⟩ := own_slice hown5
  subst hv5
  clear hi5 hbc5 hbw5 hnil5 howc5 hg5 z0 z1 z2 z3 z4 hb4 hown4
  have hB5 : Below w.heap.size w w5 := HBW.out.trans (hb5.mono HBW.out.size)
  have hiX : Ints w5 w5.heap.size .u8 A (up x) := (HI.out.below hB5).more hB5.size
  have hnX := nil_of_ints (c := c) hiX (by rw [up_len, HXL.out]; decide)
  go_wp2_with (at_builtin; refine wpList_append_when _ rfl (.tmp 34) (.tmp 35) 24 rfl W1.heap.size 5 i0 (.int .u8 0) 1 Tryd.underlying24 hii hz0 hz1 hz2 rfl .u8 (.slice B5 40 cap5) (up L5) (up x) w5.heap.size c 64 A (by rw [up_len, HXL.out]) rfl rfl (by rw [up_len, HN5.out]; exact hown5) hiX hnX ?d1 ?d2 hb5.size ?_)
  case d1 => rw [up_len, up_len, HN5.out, HXL.out]; decide
  case d2 => rw [up_len, up_len, HN5.out, HXL.out]; decide
  intro v6 w6 hown6 hg6 _
  have hb6 := hb5.grown hg6 hb5.size fun q9 hq9 => (hown5.lt q9 hq9).1
  replace hown6 : w6.ownsRow W1.heap.size 5 1 v6 104 ((up (L5 ++ x)).map (Value.int .u8)) := by
    rw [up_len, up_len, HN5.out, HXL.out] at hown6
    rw [up_append, List.map_append]
    exact hown6
  rw [← HHD.out] at hown6
  obtain ⟨B6, cap6, hv6⟩ := own_slice hown6
  subst hv6
  clear hB5 hiX hnX hown5 hg6 hb5
  have hlen : (up (headN t v b s r ++ x)).length = 104 := by rw [up_len, List.length_append, headN_len, HXL.out]
  have hi6 : Ints w6 w6.heap.size .u8 B6 (up (headN t v b s r ++ x)) := Ints.of_own (c := cap6) (n := 104) (by rw [hlen]; exact hown6)
  have hdl := deriveN_len (textN key) tagP t
  have htl : ∀ y ∈ headN t v b s r ++ x, y < 256 := fun y hy => by
    rcases List.mem_append.1 hy with h | h
    · exact headN_lt _ _ _ _ _ y h
    · exact hx y h
  have hn6 := nil_of_ints (c := cap6) hi6 (by rw [hlen]; decide)
  rw [up_len] at hlen
  have HD : Hid (∀ (W : World) (A0 : Option Addr) (c0 : Nat), Ints W W.heap.size .u8 A0 (up (textN key)) → (A0 = none → c0 = 0) →
      Calls Tryd.prog 26 #[.slice A0 16 c0, .string ⟨#[116, 97, 103]⟩, .int .i64 t] W fun e w' => ∃ A c, e = .returned (.slice A 16 c) ∧ 16 ≤ c ∧ Ints w' w'.heap.size .u8 A (up (deriveN (textN key) tagP t)) ∧ Below W.heap.size W w') := fun W A0 c0 h0 hA => by
    have h := refDerive_any HR A0 c0 (textN key) ⟨#[116, 97, 103]⟩ t W h0 hA (textN_lt key) (by rw [hkl]; decide) (by decide)
    rw [hkl] at h
    exact h
  have HCO : Hid (∀ (W : World) (A0 : Option Addr) (c0 : Nat), Below w6.heap.size w6 W → Ints W W.heap.size .u8 A0 (up (deriveN (textN key) tagP t)) →
      Calls Tryd.prog 29 #[.slice A0 16 c0, .slice B6 104 cap6] W fun e w' => ∃ A' c', e = .returned (.slice A' 32 c') ∧ (16 : Int) ≤ c' ∧ (32 : Int) ≤ c' ∧ (convert 24 9 (.slice A' 16 c')).run Tryd.prog w' = .ok (.string (tagS key t v b s r x)) w' ∧ Below W.heap.size W w') := fun W A0 c0 hb h0 => by
    have h := refCode_any HR A0 B6 c0 cap6 (deriveN (textN key) tagP t) (headN t v b s r ++ x) W h0 ((hi6.below hb).more hb.size) (nil_of_ints h0 (by rw [up_len, hdl]; decide)) hn6 (deriveN_lt _ _ _) htl (by rw [hdl]; decide) (by rw [hlen]; decide)
    rw [hdl, hlen] at h
    refine h.mono fun e w' ⟨A', c', q1, q2, q3, q4⟩ => ⟨A', c', q1, by omega, by omega, ?_, q4⟩
    have h16 := q3.take 16
    rw [show (up (macN (deriveN (textN key) tagP t) (headN t v b s r ++ x))).take 16 = up (tagN (textN key) t v b s r x) by simp [up, tagN]] at h16
    exact h16.textAs Tryd.underlying24 Tryd.underlying5 Tryd.underlying9 (by rw [up_len, tagN_len]) rfl c'
  obtain ⟨cv, WB, hcv, hbB, hiB⟩ : ∃ cv WB, Sem.run Tryd.prog (convert 9 24 (.string key)) w6 = .ok (.slice (some ⟨w6.heap.size, 0, none⟩) 16 cv) WB ∧ Below w6.heap.size w6 WB ∧ Ints WB WB.heap.size .u8 (some ⟨w6.heap.size, 0, none⟩) (up (textN key)) := by
    have hrt := room_of_text w6 5 key (by rw [hks]; unfold maxLen; decide)
    have hrun := Lib.run_convert_string_bytes (P := Tryd.prog) w6 9 24 5 key Tryd.underlying9 Tryd.underlying24 Tryd.underlying5
    obtain ⟨A2, c2, h2, _, hi2, _⟩ := hrt.1.form
    injection h2 with h2 _ _
    rw [hks] at hrun
    refine ⟨_, _, hrun, hrt.2, ?_⟩
    rw [← h2] at hi2
    exact hi2
  have HBB := Lib.hid hbB
  have HIB := Lib.hid hiB
  have HB6 := Lib.hid hb6
  obtain ⟨z0, _, _, _, _⟩ := HSS.out WB (hb6.trans (hbB.mono hb6.size))
  clear hi6 hn6 hbB hiB hb6 hown6 htl hdl hlen hx hkl HR hks
  go_wp2_with (first
    | (go_at_call 26; with_reducible (refine Calls.mono (HD.out _ _ _ HIB.out (fun h => by cases h)) ?_); rintro e w7 ⟨A7, c7, rfl, hc7, hi7, hb7⟩; have hb7 := chain HBB.out hb7)
    | (go_at_call 29; with_reducible (refine Calls.mono (HCO.out _ _ _ hb7 hi7) ?_); rintro e w8 ⟨A8, c8, rfl, hc8, hc8', hk8, hb8⟩; have hb8 := chain hb7 hb8))
  go_ret
  exact ⟨rfl, HBW.out.trans ((HB6.out.trans (hb8.mono HB6.out.size)).mono HBW.out.size)⟩

end Go.Proofs.YtanpfodmmeagaaaDoor

namespace Go.Proofs.YtanpfodmmeagaaaDoor
open Go.RowKit

theorem sealE_zero {ks tl : Nat} {t v b s r : Int} (h : sealE ks tl t v b s r = 0) : ks = 16 ∧ tl = 64 := by
  unfold sealE at h
  split at h
  · assumption
  · cases h

theorem headCells {W1 W : World} {q : Nat} {a0 a1 a2 a3 a4 a5 : Value} {ty : TypeId} (hrow : W1.heap[q]? = some (.cells #[a0, a1, a2, a3, a4, a5] ty (0, 0))) (hq : q < W1.heap.size) (hb : Below W1.heap.size W1 W) :
    W.cell? ⟨q, 0, none⟩ = some a0 ∧ W.cell? ⟨q, 1, none⟩ = some a1 ∧ W.cell? ⟨q, 2, none⟩ = some a2 ∧ W.cell? ⟨q, 3, none⟩ = some a3 ∧ W.cell? ⟨q, 4, none⟩ = some a4 ∧ W.cell? ⟨q, 5, none⟩ = some a5 := by
  have h := (hb.block q hq).trans hrow
  refine ⟨?_, ?_, ?_, ?_, ?_, ?_⟩ <;> (rw [cell_of_row _ _ _ _ _ _ h]; rfl)

end Go.Proofs.YtanpfodmmeagaaaDoor
