/-
  The landed header: Encode. (After the landed line's own walk.)
-/
import Derived.Test.YtbmgiekiildaaaaHdC2
import Derived.Test.YtbmgiekiildaaaaByteRow
import Derived.Test.YtbmgiekiildaaaaCrcSum
import Derived.Test.YtbmgiekiildaaaaPFields
import Derived.Test.YtbmgiekiildaaaaJoin
namespace Go.Proofs.Ytbmgiekiildaaaa
open Go.RowKit

theorem rcV_ones (r : Rc) : (rcV r).all (·.oneCell') = true := by simp [rcV, Value.oneCell']
theorem hSz_ok : szs hSz = true := by decide
theorem hnum_fields {h : Rc} (hr : hRng h) : fieldsE (hNum h) hSz = 0 ∧ fieldsB (hNum h) hSz = hFront h := by
  obtain ⟨q1, q2, q3, q4, q5⟩ := hr
  have hf : ∀ (x s m : Int), x ≤ m → m < 256 ^ s.toNat → fitB x s = true := fun x s m h1 h2 => by unfold fitB; exact decide_eq_true (by omega)
  have h0 : fieldsE (hNum h) hSz = 0 := by
    unfold fieldsE
    rw [if_pos ⟨hSz_ok, rfl⟩]
    refine if_pos ?_
    show ((fitB 21320 2 && (fitB h.k 1 && (fitB h.a 1 && (fitB h.b 1 && (fitB h.c 1 && (fitB h.d 8 && true)))))) = true)
    rw [hf 21320 2 21320 (by omega) (by decide), hf h.k 1 7 (by omega) (by decide), hf h.a 1 7 (by omega) (by decide), hf h.b 1 31 (by omega) (by decide), hf h.c 1 63 (by omega) (by decide), hf h.d 8 1099511627776 (by omega) (by decide)]
    rfl
  refine ⟨h0, ?_⟩
  unfold fieldsB
  rw [if_pos h0]
  show bytesOf 21320 2 ++ (bytesOf h.k 1 ++ (bytesOf h.a 1 ++ (bytesOf h.b 1 ++ (bytesOf h.c 1 ++ (bytesOf h.d 8 ++ []))))) = _
  rw [List.append_nil, show bytesOf 21320 2 = [83, 72] by decide]
  rfl
theorem put_fields {n : Int} (h0 : 0 ≤ n) (h1 : n ≤ 4294967295) : fieldsE [n] [4] = 0 ∧ fieldsB [n] [4] = bytesOf n 4 := by
  have hf : fitB n 4 = true := by
    unfold fitB
    have : (256 : Int) ^ (4 : Int).toNat = 4294967296 := by decide
    exact decide_eq_true (by omega)
  have e : fieldsE [n] [4] = 0 := by
    unfold fieldsE
    rw [if_pos ⟨by decide, rfl⟩]
    refine if_pos ?_
    show ((fitB n 4 && true) = true)
    rw [hf]; rfl
  refine ⟨e, ?_⟩
  unfold fieldsB
  rw [if_pos e]
  show bytesOf n 4 ++ [] = _
  rw [List.append_nil]
theorem hover_1 (h : Rc) : overI (List.replicate 64 0) 0 (hFront h) = hFront h ++ List.replicate 50 0 := by
  unfold overI
  rw [hFront_len, List.drop_replicate, List.take_zero, List.nil_append]
theorem hover_2 {h : Rc} (hk : h.key.size = 16) : overI (hFront h ++ List.replicate 50 0) 14 (keyI h.key) = hBody h ++ List.replicate 4 0 := by
  unfold overI hBody
  rw [keyI_len, List.take_left' (hFront_len h), List.drop_append, List.drop_eq_nil_of_le (by rw [hFront_len]; omega), List.nil_append, hFront_len, List.drop_replicate, List.append_assoc, List.append_assoc, List.replicate_append_replicate]
  congr 3
  omega
theorem hover_3 {h : Rc} (hk : h.key.size = 16) : overI (hBody h ++ List.replicate 4 0) 60 (sumB (hBody h)) = hSec h := by
  unfold overI hSec
  rw [sumB_len, List.take_left' (hBody_len hk), List.drop_eq_nil_of_le (by rw [List.length_append, hBody_len hk, List.length_replicate]; omega), List.append_nil]

set_option maxHeartbeats 800000 in
set_option maxRecDepth 20000 in
/-- 'Encode', of what is no line. -/
theorem hencode_no (hd : Rc) (w : World) (hE : hErr hd ≠ 0) :
    Calls Try.prog 9 #[.agg (rcV hd)] w fun e w' => ∃ A c, e = .returned (.tuple #[.slice A 0 c, .int .i64 (hErr hd)]) ∧ Below w.heap.size w w' := by
  have HCK := Lib.hid (fun W => hcheck_any hd W)
  obtain ⟨E, hEE⟩ : ∃ E, E = hErr hd := ⟨_, rfl⟩
  rw [← hEE] at hE HCK ⊢
  have hinf : (Try.prog.info? 23).map (·.size) = some (rcV hd).size := Try.infoHead
  have HQ := Lib.hid (heap_alloc_new w (.cells (rcV hd) 23))
  have hb := (Below.refl w.heap.size w).alloc (Nat.le_refl _) (.cells (rcV hd) 23)
  have e1 : (E != 0) = true := by rw [bne_iff_ne]; exact hE
  obtain ⟨L, hL⟩ : ∃ L, L = rcV hd := ⟨_, rfl⟩
  rw [← hL] at hinf HQ HCK hb ⊢
  clear hEE hE hL
  go_enter Try.func9, Try.ntmps9
  go_wp2_with (first
    | (refine wpList_load_row rfl 23 _ rfl w.heap.size rfl 23 _ (0, 0) _ HQ.out Try.underlying23 rfl hinf ?_)
    | (go_at_call 17; with_reducible (refine Calls.mono (HCK.out _) ?_); rintro e w1 ⟨rfl, hb1⟩))
  go_ret2
  exact ⟨_, _, rfl, hb.trans (hb1.mono hb.size)⟩

set_option maxHeartbeats 3200000 in
set_option maxRecDepth 20000 in
/-- 'Encode', of a line. -/
theorem hencode_yes (hd : Rc) (w : World) (hE : hErr hd = 0) :
    Calls Try.prog 9 #[.agg (rcV hd)] w fun e w' => ∃ A c, e = .returned (.tuple #[.slice A 64 c, .int .i64 0]) ∧ 64 ≤ c ∧ Ints w' w'.heap.size .u8 A (hSec hd) ∧ Below w.heap.size w w' := by
  obtain ⟨hR, hk19⟩ := hErr_zero.1 hE
  obtain ⟨hfE, hfB⟩ := hnum_fields hR
  have HCK := Lib.hid (fun W => hcheck_any hd W)
  rw [hE] at HCK
  have HNU := Lib.hid (fun W => hnumbers_any hd W hR)
  have HNB : ∀ z ∈ hNum hd, 0 ≤ z ∧ z ≤ 18446744073709551615 := fun z hz => by
    have ht := hTail_at hR
    rcases List.mem_cons.1 hz with rfl | hz
    · decide
    · obtain ⟨i, hi, rfl⟩ := List.getElem_of_mem hz
      have := ht i (by simpa [hTail] using hi)
      rw [List.getD_eq_getElem?_getD, List.getElem?_eq_getElem hi] at this
      simp only [Option.getD_some] at this
      omega
  have HFI : Hid (∀ (W : World) A c, Ints W W.heap.size .u64 A (hNum hd) → Calls Try.prog 18 #[.slice A 6 c, .slice (some ⟨W.heap.size, 0, none⟩) 6 6] (W.alloc (.cells (ICs hSz) 3)) fun e w' => ∃ A c, e = .returned (.tuple #[.slice A 14 c, .int .i64 0]) ∧ Ints w' w'.heap.size .u8 A (hFront hd) ∧ Below W.heap.size W w') := fun W A c hi => by
    have hb : Below W.heap.size W (W.alloc (.cells (ICs hSz) 3)) := (Below.refl _ _).alloc (Nat.le_refl _) _
    have h := fields_any (some ⟨W.heap.size, 0, none⟩) A 6 c hSz (hNum hd) _ (IRow.new W 3 hSz).ints ((hi.below hb).more hb.size) HNB
    rw [hfE, hfB] at h
    refine h.mono fun e w' ⟨A', c', h1, _, h3, h4⟩ => ⟨A', c', by rw [hFront_len] at h1; exact h1, h3, hb.trans (h4.mono hb.size)⟩
  have hsum := moreN_lt 0 (nb (hBody hd))
  obtain ⟨sm, hsm⟩ : ∃ s : Int, s = ((moreN 0 (nb (hBody hd)) : Nat) : Int) := ⟨_, rfl⟩
  have hsm1 : 0 ≤ sm ∧ sm ≤ 4294967295 := by omega
  have hsB : sumB (hBody hd) = bytesOf sm 4 := by rw [hsm]; rfl
  have HPU : Hid (∀ W, Calls Try.prog 21 #[.int .u64 sm, .int .i64 4] W fun e w' => ∃ A c, e = .returned (.tuple #[.slice A 4 c, .int .i64 0]) ∧ Ints w' w'.heap.size .u8 A (sumB (hBody hd)) ∧ Below W.heap.size W w') := fun W => by
    have h := put_any sm 4 W (by omega)
    rw [(put_fields hsm1.1 hsm1.2).1, (put_fields hsm1.1 hsm1.2).2, ← hsB] at h
    refine h.mono fun e w' ⟨A', c', h1, _, h3, h4⟩ => ⟨A', c', by rw [sumB_len] at h1; exact h1, h3, h4⟩
  have HSU : Hid (∀ (W : World) g, BtRow 5 g (hBody hd ++ List.replicate 4 0) W → Calls Try.prog 22 #[.slice (some ⟨g, 0, none⟩) 60 64] W fun e w' => e = .returned (.int .u32 sm) ∧ Below W.heap.size W w') := fun W g h => by
    have hi := h.ints.take 60
    rw [List.take_left' (hBody_len hk19)] at hi
    have := crcSum_any (some ⟨g, 0, none⟩) 64 (hBody hd) W hi (hBody_mem hd) (by rw [hBody_len hk19]; omega) (by rw [hBody_len hk19]; omega)
    rw [hBody_len hk19, ← hsm] at this
    exact this
  have HV1 := Lib.hid (hover_1 hd)
  have HV2 : Hid (overI (hFront hd ++ List.replicate 50 0) 14 (strI hd.key) = hBody hd ++ List.replicate 4 0) := hover_2 hk19
  have HV3 := Lib.hid (hover_3 hk19)
  have hmk : ∀ w : World, (Instr.makeSlice 24 (.int .i64 64) (.int .i64 64)).run Try.prog w = .ok (.slice (some ⟨w.heap.size, 0, none⟩) 64 64) (w.alloc (.cells (UB (List.replicate 64 0)) 5)) := makeBytes 64 (by decide)
  have hn1 : (hFront hd).length = 14 := hFront_len hd
  have hn2 : (sumB (hBody hd)).length = 4 := sumB_len _
  have hn3 : (hSec hd).length = 64 := hSec_len hk19
  have m0 : (List.replicate 64 (0 : Int)).length = 64 := by simp
  have m1 : (hFront hd ++ List.replicate 50 (0 : Int)).length = 64 := by simp [hn1]
  have m2 : (hBody hd ++ List.replicate 4 (0 : Int)).length = 64 := by rw [List.length_append, hBody_len hk19, List.length_replicate]
  obtain ⟨O0, hO0⟩ : ∃ O, O = List.replicate 64 (0 : Int) := ⟨_, rfl⟩
  obtain ⟨O1, hO1⟩ : ∃ O, O = hFront hd ++ List.replicate 50 (0 : Int) := ⟨_, rfl⟩
  obtain ⟨O2, hO2⟩ : ∃ O, O = hBody hd ++ List.replicate 4 (0 : Int) := ⟨_, rfl⟩
  obtain ⟨O3, hO3⟩ : ∃ O, O = hSec hd := ⟨_, rfl⟩
  obtain ⟨F, hF⟩ : ∃ O, O = hFront hd := ⟨_, rfl⟩
  obtain ⟨S, hS⟩ : ∃ O, O = sumB (hBody hd) := ⟨_, rfl⟩
  rw [← hO0, ← hO1, ← hF] at HV1
  rw [← hO1, ← hO2] at HV2
  rw [← hO2, ← hO3, ← hS] at HV3
  rw [← hO0] at hmk m0
  rw [← hO1] at m1
  rw [← hO2] at m2 HSU
  rw [← hF] at HFI hn1
  rw [← hS] at HPU hn2
  rw [← hO3] at hn3 ⊢
  have M0 := Lib.hid m0
  have M1 := Lib.hid m1
  have M3 := Lib.hid hn3
  have M2 := Lib.hid m2
  have N1 := Lib.hid hn1
  have N2 := Lib.hid hn2
  have hinf : (Try.prog.info? 23).map (·.size) = some (rcV hd).size := Try.infoHead
  obtain ⟨key, hkey⟩ : ∃ k, k = hd.key := ⟨_, rfl⟩
  have HKEY : Hid (∀ V : World, V.heap[w.heap.size]? = some (.cells (rcV hd) 23 (0, 0)) → V.cell? ⟨w.heap.size, 5, none⟩ = some (.string key)) := fun V h => by rw [cell_of_row _ _ _ _ _ _ h, hkey]; rfl
  rw [← hkey] at HV2 hk19
  have HQ : Hid (∀ V, Below (w.heap.size + 1) (w.alloc (.cells (rcV hd) 23)) V → V.heap[w.heap.size]? = some (.cells (rcV hd) 23 (0, 0))) := fun V h => (h.block _ (Nat.lt_succ_self _)).trans (heap_alloc_new _ _)
  have b0 : Below (w.heap.size + 1) (w.alloc (.cells (rcV hd) 23)) (w.alloc (.cells (rcV hd) 23)) := Below.refl _ _
  have hsz : w.heap.size + 1 ≤ (w.alloc (.cells (rcV hd) 23)).heap.size := by simp
  have hbw : Below w.heap.size w (w.alloc (.cells (rcV hd) 23)) := (Below.refl _ _).alloc (Nat.le_refl _) _
  have hwr : IntKind.u64.wrap sm = sm := IntWalk.u64_in _ (by omega)
  have hsi := fun W => hsizes_any W
  have HSI := Lib.hid hsi
  obtain ⟨L, hL⟩ : ∃ L, L = rcV hd := ⟨_, rfl⟩
  simp only [← hL] at hinf HQ HCK HNU HKEY b0 hsz hbw
  rw [← hL]
  obtain ⟨Z, hZ⟩ : ∃ Z, Z = ICs hSz := ⟨_, rfl⟩
  simp only [← hZ] at HFI HSI
  clear hsi hL hkey hO0 hO1 hO2 hO3 hF hS m0 m1 m2 hn1 hn2 hn3 hsB hsum hsm hfE hfB HNB hE hR hsm1 hZ
  go_enter Try.func9, Try.ntmps9
  go_wp2_with (first
    | (refine wpList_load_row rfl 23 _ rfl w.heap.size rfl 23 _ (0, 0) _ (HQ.out _ b0) Try.underlying23 rfl hinf ?_)
    | (go_at_call 17; with_reducible (refine Calls.mono (HCK.out _) ?_); rintro e w1 ⟨rfl, hb1⟩; have b1 := b0.trans (hb1.mono hsz); have s1 := Nat.le_trans hsz hb1.size; clear b0 HCK)
    | (refine wpList_load_row rfl 23 _ rfl w.heap.size rfl 23 _ (0, 0) _ (HQ.out _ b1) Try.underlying23 rfl hinf ?_)
    | (go_at_call 19; with_reducible (refine Calls.mono (HNU.out _) ?_); rintro e w2 ⟨A2, c2, rfl, hi2, hb2⟩; have b2 := b1.trans (hb2.mono s1); have s2 := Nat.le_trans s1 hb2.size; clear b1 HNU)
    | (go_at_call 20; with_reducible (refine Calls.mono (HSI.out _) ?_); rintro e wq ⟨rfl, rfl⟩)
    | (go_at_call 18; with_reducible (refine Calls.mono (HFI.out w2 A2 c2 hi2) ?_); rintro e w3 ⟨A3, c3, rfl, hi3, hb3⟩; have b3 := b2.trans (hb3.mono s2); have s3 := Nat.le_trans s2 hb3.size; clear b2 HFI)
    | (have hguard := hi3; clear hguard; with_reducible (refine wpList_copy_ints rfl _ _ rfl w3.heap.size 0 64 64 A3 14 c3 rfl rfl F O0 O1 N1.out (by decide) 5 (BtRow.new w3 5 O0) _ (hi3.below ((Below.refl _ _).alloc (Nat.le_refl _) _)) (by rw [M0.out]; decide) HV1.out (w.heap.size + 1) _ (b3.alloc s3 _) s3 ?_); intro w4 hr4 b4; have hr4' := Lib.hid hr4; clear hr4 hi3))
  have hcell := HKEY.out w4 (HQ.out w4 b4)
  have hle : key.size ≤ 50 := by omega
  have hft : 14 + key.size ≤ O1.length := by rw [M1.out]; omega
  have hb4 := b4.drew
  simp only [Act.put, List.setIfInBounds_toArray, List.set_cons_succ, List.set_cons_zero]
  go_region_law (refine step_copy_text rfl (.tmp 27) (.tmp 29) rfl w3.heap.size 14 50 50 key rfl rfl O1 O2 hle 5 hr4'.out hft HV2.out (w.heap.size + 1) (w.alloc (.cells L 23)) hb4 s3 ?_; intro w5 hr5 b5)
  all_goals
    have s5 := Nat.le_trans hsz b5.size
    have l5 := hr5.out.lt
    clear hcell hr4' b4 hb4 hle hft HKEY hmk
    go_wp2_with (first
      | (go_at_call 22; with_reducible (refine Calls.mono (HSU.out w5 w3.heap.size hr5.out) ?_); rintro e w6 ⟨rfl, hb6⟩; have b6 := b5.trans (hb6.mono s5); have s6 := Nat.le_trans s5 hb6.size; have l6 := Nat.lt_of_lt_of_le l5 hb6.size; have hr6 := Lib.hid (hr5.out.below hb6 l5); clear HSU)
      | (go_at_call 21; with_reducible (refine Calls.mono (HPU.out _) ?_); rintro e w7 ⟨A7, c7, rfl, hi7, hb7⟩; have b7 := b6.trans (hb7.mono s6); have hr7 := Lib.hid (hr6.out.below hb7 l6); clear HPU)
      | (have hguard := hi7; clear hguard; with_reducible (refine wpList_copy_ints rfl _ _ rfl w3.heap.size 60 4 4 A7 4 c7 rfl rfl S O2 O3 N2.out (by decide) 5 hr7.out _ hi7 (by rw [M2.out]; decide) HV3.out (w.heap.size + 1) _ b7 s3 ?_); intro w8 hr8 b8; have hr8' := Lib.hid hr8; clear hr8 hi7))
    go_wp2
    go_ret2
    have hr := hr8'.out
    exact ⟨_, _, rfl, by decide, hr.ints, hbw.trans (b8.mono (Nat.le_succ _))⟩

end Go.Proofs.Ytbmgiekiildaaaa
