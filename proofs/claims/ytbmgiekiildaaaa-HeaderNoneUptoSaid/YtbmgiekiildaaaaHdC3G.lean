/-
  The landed header: Encode. (After the landed line's own walk.) 'Split' of the layer pack: whatever it is given, what it answers; nothing that was there is changed. Equal texts, equal numbers.
-/
import Derived.Test.YtbmgiekiildaaaaHdC6G
import Derived.Test.YtbmgiekiildaaaaCrcRefG
import Derived.Test.YtbmgiekiildaaaaLowG
import Derived.Test.YtbmgiekiildaaaaWordsG
import Derived.Test.YtbmgiekiildaaaaTableRef2G
import Derived.Lib.Bytes
namespace Go.Proofs.Ytbmgiekiildaaaa
open Go.RowKit

theorem rcV_ones (r : Rc) : (rcV r).all (·.oneCell') = true := by simp [rcV, Value.oneCell']
theorem hSz_ok : szs hSz = true := by decide
theorem hnum_fields {h : Rc} (hr : hRng h) : fieldsE (hNum h) hSz = 0 ∧ fieldsB (hNum h) hSz = hFront h := by
  obtain ⟨q1, q2, q3, q4, q5⟩ := hr
  have hf : ∀ (x s m : Int), x ≤ m → m < 256 ^ s.toNat → fitB x s = true := fun x s m h1 h2 => by unfold fitB; exact decide_eq_true (by omega)
  have h0 : fieldsE (hNum h) hSz = 0 := by
    unfold fieldsE
    rw [if_pos ⟨hSz_ok, rfl⟩]
    refine if_pos ?_
    show ((fitB 21320 2 && (fitB h.k 1 && (fitB h.a 1 && (fitB h.b 1 && (fitB h.c 1 && (fitB h.d 8 && true)))))) = true)
    rw [hf 21320 2 21320 (by omega) (by decide), hf h.k 1 7 (by omega) (by decide), hf h.a 1 7 (by omega) (by decide), hf h.b 1 31 (by omega) (by decide), hf h.c 1 63 (by omega) (by decide), hf h.d 8 1099511627776 (by omega) (by decide)]
    rfl
  refine ⟨h0, ?_⟩
  unfold fieldsB
  rw [if_pos h0]
  show bytesOf 21320 2 ++ (bytesOf h.k 1 ++ (bytesOf h.a 1 ++ (bytesOf h.b 1 ++ (bytesOf h.c 1 ++ (bytesOf h.d 8 ++ []))))) = _
  rw [List.append_nil, show bytesOf 21320 2 = [83, 72] by decide]
  rfl
theorem put_fields {n : Int} (h0 : 0 ≤ n) (h1 : n ≤ 4294967295) : fieldsE [n] [4] = 0 ∧ fieldsB [n] [4] = bytesOf n 4 := by
  have hf : fitB n 4 = true := by
    unfold fitB
    have : (256 : Int) ^ (4 : Int).toNat = 4294967296 := by decide
    exact decide_eq_true (by omega)
  have e : fieldsE [n] [4] = 0 := by
    unfold fieldsE
    rw [if_pos ⟨by decide, rfl⟩]
    refine if_pos ?_
    show ((fitB n 4 && true) = true)
    rw [hf]; rfl
  refine ⟨e, ?_⟩
  unfold fieldsB
  rw [if_pos e]
  show bytesOf n 4 ++ [] = _
  rw [List.append_nil]
theorem hover_1 (h : Rc) : overI (List.replicate 64 0) 0 (hFront h) = hFront h ++ List.replicate 50 0 := by
  unfold overI
  rw [hFront_len, List.drop_replicate, List.take_zero, List.nil_append]
theorem hover_2 {h : Rc} (hk : h.key.size = 16) : overI (hFront h ++ List.replicate 50 0) 14 (keyI h.key) = hBody h ++ List.replicate 4 0 := by
  unfold overI hBody
  rw [keyI_len, List.take_left' (hFront_len h), List.drop_append, List.drop_eq_nil_of_le (by rw [hFront_len]; omega), List.nil_append, hFront_len, List.drop_replicate, List.append_assoc, List.append_assoc, List.replicate_append_replicate]
  congr 3
  omega
theorem hover_3 {h : Rc} (hk : h.key.size = 16) : overI (hBody h ++ List.replicate 4 0) 60 (sumB (hBody h)) = hSec h := by
  unfold overI hSec
  rw [sumB_len, List.take_left' (hBody_len hk), List.drop_eq_nil_of_le (by rw [List.length_append, hBody_len hk, List.length_replicate]; omega), List.append_nil]

set_option maxHeartbeats 800000 in
set_option maxRecDepth 20000 in
/-- 'Encode', of what is no line. -/
theorem hencode_no (hd : Rc) (w : World) (hE : hErr hd ≠ 0) :
    Calls Try.prog 9 #[.agg (rcV hd)] w fun e w' => ∃ A c, e = .returned (.tuple #[.slice A 0 c, .int .i64 (hErr hd)]) ∧ Below w.heap.size w w' := by
  have HCK := Lib.hid (fun W => hcheck_any hd W)
  obtain ⟨E, hEE⟩ : ∃ E, E = hErr hd := ⟨_, rfl⟩
  rw [← hEE] at hE HCK ⊢
  have hinf : (Try.prog.info? 23).map (·.size) = some (rcV hd).size := Try.infoHead
  have HQ := Lib.hid (heap_alloc_new w (.cells (rcV hd) 23))
  have hb := (Below.refl w.heap.size w).alloc (Nat.le_refl _) (.cells (rcV hd) 23)
  have e1 : (E != 0) = true := by rw [bne_iff_ne]; exact hE
  obtain ⟨L, hL⟩ : ∃ L, L = rcV hd := ⟨_, rfl⟩
  rw [← hL] at hinf HQ HCK hb ⊢
  clear hEE hE hL
  go_enter Try.func9, Try.ntmps9
  go_wp2_with (first
    | (refine wpList_load_row rfl 23 _ rfl w.heap.size rfl 23 _ (0, 0) _ HQ.out Try.underlying23 rfl hinf ?_)
    | (go_at_call 17; with_reducible (refine Calls.mono (HCK.out _) ?_); rintro e w1 ⟨rfl, hb1⟩))
  go_ret2
  exact ⟨_, _, rfl, hb.trans (hb1.mono hb.size)⟩

set_option maxHeartbeats 3200000 in
set_option maxRecDepth 20000 in
/-- 'Encode', of a line. -/
theorem hencode_yes (hd : Rc) (w : World) (hE : hErr hd = 0) :
    Calls Try.prog 9 #[.agg (rcV hd)] w fun e w' => ∃ A c, e = .returned (.tuple #[.slice A 64 c, .int .i64 0]) ∧ 64 ≤ c ∧ Ints w' w'.heap.size .u8 A (hSec hd) ∧ Below w.heap.size w w' := by
  obtain ⟨hR, hk19⟩ := hErr_zero.1 hE
  obtain ⟨hfE, hfB⟩ := hnum_fields hR
  have HCK := Lib.hid (fun W => hcheck_any hd W)
  rw [hE] at HCK
  have HNU := Lib.hid (fun W => hnumbers_any hd W hR)
  have HNB : ∀ z ∈ hNum hd, 0 ≤ z ∧ z ≤ 18446744073709551615 := fun z hz => by
    have ht := hTail_at hR
    rcases List.mem_cons.1 hz with rfl | hz
    · decide
    · obtain ⟨i, hi, rfl⟩ := List.getElem_of_mem hz
      have := ht i (by simpa [hTail] using hi)
      rw [List.getD_eq_getElem?_getD, List.getElem?_eq_getElem hi] at this
      simp only [Option.getD_some] at this
      omega
  have HFI : Hid (∀ (W : World) A c, Ints W W.heap.size .u64 A (hNum hd) → Calls Try.prog 18 #[.slice A 6 c, .slice (some ⟨W.heap.size, 0, none⟩) 6 6] (W.alloc (.cells (ICs hSz) 3)) fun e w' => ∃ A c, e = .returned (.tuple #[.slice A 14 c, .int .i64 0]) ∧ Ints w' w'.heap.size .u8 A (hFront hd) ∧ Below W.heap.size W w') := fun W A c hi => by
    have hb : Below W.heap.size W (W.alloc (.cells (ICs hSz) 3)) := (Below.refl _ _).alloc (Nat.le_refl _) _
    have h := fields_any (some ⟨W.heap.size, 0, none⟩) A 6 c hSz (hNum hd) _ (IRow.new W 3 hSz).ints ((hi.below hb).more hb.size) HNB
    rw [hfE, hfB] at h
    refine h.mono fun e w' ⟨A', c', h1, _, h3, h4⟩ => ⟨A', c', by rw [hFront_len] at h1; exact h1, h3, hb.trans (h4.mono hb.size)⟩
  have hsum := moreN_lt 0 (nb (hBody hd))
  obtain ⟨sm, hsm⟩ : ∃ s : Int, s = ((moreN 0 (nb (hBody hd)) : Nat) : Int) := ⟨_, rfl⟩
  have hsm1 : 0 ≤ sm ∧ sm ≤ 4294967295 := by omega
  have hsB : sumB (hBody hd) = bytesOf sm 4 := by rw [hsm]; rfl
  have HPU : Hid (∀ W, Calls Try.prog 21 #[.int .u64 sm, .int .i64 4] W fun e w' => ∃ A c, e = .returned (.tuple #[.slice A 4 c, .int .i64 0]) ∧ Ints w' w'.heap.size .u8 A (sumB (hBody hd)) ∧ Below W.heap.size W w') := fun W => by
    have h := put_any sm 4 W (by omega)
    rw [(put_fields hsm1.1 hsm1.2).1, (put_fields hsm1.1 hsm1.2).2, ← hsB] at h
    refine h.mono fun e w' ⟨A', c', h1, _, h3, h4⟩ => ⟨A', c', by rw [sumB_len] at h1; exact h1, h3, h4⟩
  have HSU : Hid (∀ (W : World) g, BtRow 5 g (hBody hd ++ List.replicate 4 0) W → Calls Try.prog 22 #[.slice (some ⟨g, 0, none⟩) 60 64] W fun e w' => e = .returned (.int .u32 sm) ∧ Below W.heap.size W w') := fun W g h => by
    have hi := h.ints.take 60
    rw [List.take_left' (hBody_len hk19)] at hi
    have := crcSum_any (some ⟨g, 0, none⟩) 64 (hBody hd) W hi (hBody_mem hd) (by rw [hBody_len hk19]; omega) (by rw [hBody_len hk19]; omega)
    rw [hBody_len hk19, ← hsm] at this
    exact this
  have HV1 := Lib.hid (hover_1 hd)
  have HV2 : Hid (overI (hFront hd ++ List.replicate 50 0) 14 (strI hd.key) = hBody hd ++ List.replicate 4 0) := hover_2 hk19
  have HV3 := Lib.hid (hover_3 hk19)
  have hmk : ∀ w : World, (Instr.makeSlice 24 (.int .i64 64) (.int .i64 64)).run Try.prog w = .ok (.slice (some ⟨w.heap.size, 0, none⟩) 64 64) (w.alloc (.cells (UB (List.replicate 64 0)) 5)) := makeBytes 64 (by decide)
  have hn1 : (hFront hd).length = 14 := hFront_len hd
  have hn2 : (sumB (hBody hd)).length = 4 := sumB_len _
  have hn3 : (hSec hd).length = 64 := hSec_len hk19
  have m0 : (List.replicate 64 (0 : Int)).length = 64 := by simp
  have m1 : (hFront hd ++ List.replicate 50 (0 : Int)).length = 64 := by simp [hn1]
  have m2 : (hBody hd ++ List.replicate 4 (0 : Int)).length = 64 := by rw [List.length_append, hBody_len hk19, List.length_replicate]
  obtain ⟨O0, hO0⟩ : ∃ O, O = List.replicate 64 (0 : Int) := ⟨_, rfl⟩
  obtain ⟨O1, hO1⟩ : ∃ O, O = hFront hd ++ List.replicate 50 (0 : Int) := ⟨_, rfl⟩
  obtain ⟨O2, hO2⟩ : ∃ O, O = hBody hd ++ List.replicate 4 (0 : Int) := ⟨_, rfl⟩
  obtain ⟨O3, hO3⟩ : ∃ O, O = hSec hd := ⟨_, rfl⟩
  obtain ⟨F, hF⟩ : ∃ O, O = hFront hd := ⟨_, rfl⟩
  obtain ⟨S, hS⟩ : ∃ O, O = sumB (hBody hd) := ⟨_, rfl⟩
  rw [← hO0, ← hO1, ← hF] at HV1
  rw [← hO1, ← hO2] at HV2
  rw [← hO2, ← hO3, ← hS] at HV3
  rw [← hO0] at hmk m0
  rw [← hO1] at m1
  rw [← hO2] at m2 HSU
  rw [← hF] at HFI hn1
  rw [← hS] at HPU hn2
  rw [← hO3] at hn3 ⊢
  have M0 := Lib.hid m0
  have M1 := Lib.hid m1
  have M3 := Lib.hid hn3
  have M2 := Lib.hid m2
  have N1 := Lib.hid hn1
  have N2 := Lib.hid hn2
  have hinf : (Try.prog.info? 23).map (·.size) = some (rcV hd).size := Try.infoHead
  obtain ⟨key, hkey⟩ : ∃ k, k = hd.key := ⟨_, rfl⟩
  have HKEY : Hid (∀ V : World, V.heap[w.heap.size]? = some (.cells (rcV hd) 23 (0, 0)) → V.cell? ⟨w.heap.size, 5, none⟩ = some (.string key)) := fun V h => by rw [cell_of_row _ _ _ _ _ _ h, hkey]; rfl
  rw [← hkey] at HV2 hk19
  have HQ : Hid (∀ V, Below (w.heap.size + 1) (w.alloc (.cells (rcV hd) 23)) V → V.heap[w.heap.size]? = some (.cells (rcV hd) 23 (0, 0))) := fun V h => (h.block _ (Nat.lt_succ_self _)).trans (heap_alloc_new _ _)
  have b0 : Below (w.heap.size + 1) (w.alloc (.cells (rcV hd) 23)) (w.alloc (.cells (rcV hd) 23)) := Below.refl _ _
  have hsz : w.heap.size + 1 ≤ (w.alloc (.cells (rcV hd) 23)).heap.size := by simp
  have hbw : Below w.heap.size w (w.alloc (.cells (rcV hd) 23)) := (Below.refl _ _).alloc (Nat.le_refl _) _
  have hwr : IntKind.u64.wrap sm = sm := IntWalk.u64_in _ (by omega)
  have hsi := fun W => hsizes_any W
  have HSI := Lib.hid hsi
  obtain ⟨L, hL⟩ : ∃ L, L = rcV hd := ⟨_, rfl⟩
  simp only [← hL] at hinf HQ HCK HNU HKEY b0 hsz hbw
  rw [← hL]
  obtain ⟨Z, hZ⟩ : ∃ Z, Z = ICs hSz := ⟨_, rfl⟩
  simp only [← hZ] at HFI HSI
  clear hsi hL hkey hO0 hO1 hO2 hO3 hF hS m0 m1 m2 hn1 hn2 hn3 hsB hsum hsm hfE hfB HNB hE hR hsm1 hZ
  go_enter Try.func9, Try.ntmps9
  go_wp2_with (first
    | (refine wpList_load_row rfl 23 _ rfl w.heap.size rfl 23 _ (0, 0) _ (HQ.out _ b0) Try.underlying23 rfl hinf ?_)
    | (go_at_call 17; with_reducible (refine Calls.mono (HCK.out _) ?_); rintro e w1 ⟨rfl, hb1⟩; have b1 := b0.trans (hb1.mono hsz); have s1 := Nat.le_trans hsz hb1.size; clear b0 HCK)
    | (refine wpList_load_row rfl 23 _ rfl w.heap.size rfl 23 _ (0, 0) _ (HQ.out _ b1) Try.underlying23 rfl hinf ?_)
    | (go_at_call 19; with_reducible (refine Calls.mono (HNU.out _) ?_); rintro e w2 ⟨A2, c2, rfl, hi2, hb2⟩; have b2 := b1.trans (hb2.mono s1); have s2 := Nat.le_trans s1 hb2.size; clear b1 HNU)
    | (go_at_call 20; with_reducible (refine Calls.mono (HSI.out _) ?_); rintro e wq ⟨rfl, rfl⟩)
    | (go_at_call 18; with_reducible (refine Calls.mono (HFI.out w2 A2 c2 hi2) ?_); rintro e w3 ⟨A3, c3, rfl, hi3, hb3⟩; have b3 := b2.trans (hb3.mono s2); have s3 := Nat.le_trans s2 hb3.size; clear b2 HFI)
    | (have hguard := hi3; clear hguard; with_reducible (refine wpList_copy_ints rfl _ _ rfl w3.heap.size 0 64 64 A3 14 c3 rfl rfl F O0 O1 N1.out (by decide) 5 (BtRow.new w3 5 O0) _ (hi3.below ((Below.refl _ _).alloc (Nat.le_refl _) _)) (by rw [M0.out]; decide) HV1.out (w.heap.size + 1) _ (b3.alloc s3 _) s3 ?_); intro w4 hr4 b4; have hr4' := Lib.hid hr4; clear hr4 hi3))
  have hcell := HKEY.out w4 (HQ.out w4 b4)
  have hle : key.size ≤ 50 := by omega
  have hft : 14 + key.size ≤ O1.length := by rw [M1.out]; omega
  have hb4 := b4.drew
  simp only [Act.put, List.setIfInBounds_toArray, List.set_cons_succ, List.set_cons_zero]
  go_region_law (refine step_copy_text rfl (.tmp 27) (.tmp 29) rfl w3.heap.size 14 50 50 key rfl rfl O1 O2 hle 5 hr4'.out hft HV2.out (w.heap.size + 1) (w.alloc (.cells L 23)) hb4 s3 ?_; intro w5 hr5 b5)
  all_goals
    have s5 := Nat.le_trans hsz b5.size
    have l5 := hr5.out.lt
    clear hcell hr4' b4 hb4 hle hft HKEY hmk
    go_wp2_with (first
      | (go_at_call 22; with_reducible (refine Calls.mono (HSU.out w5 w3.heap.size hr5.out) ?_); rintro e w6 ⟨rfl, hb6⟩; have b6 := b5.trans (hb6.mono s5); have s6 := Nat.le_trans s5 hb6.size; have l6 := Nat.lt_of_lt_of_le l5 hb6.size; have hr6 := Lib.hid (hr5.out.below hb6 l5); clear HSU)
      | (go_at_call 21; with_reducible (refine Calls.mono (HPU.out _) ?_); rintro e w7 ⟨A7, c7, rfl, hi7, hb7⟩; have b7 := b6.trans (hb7.mono s6); have hr7 := Lib.hid (hr6.out.below hb7 l6); clear HPU)
      | (have hguard := hi7; clear hguard; with_reducible (refine wpList_copy_ints rfl _ _ rfl w3.heap.size 60 4 4 A7 4 c7 rfl rfl S O2 O3 N2.out (by decide) 5 hr7.out _ hi7 (by rw [M2.out]; decide) HV3.out (w.heap.size + 1) _ b7 s3 ?_); intro w8 hr8 b8; have hr8' := Lib.hid hr8; clear hr8 hi7))
    go_wp2
    go_ret2
    have hr := hr8'.out
    exact ⟨_, _, rfl, by decide, hr.ints, hbw.trans (b8.mono (Nat.le_succ _))⟩

end Go.Proofs.Ytbmgiekiildaaaa

namespace Go.Proofs.Ytbmgiekiildaaaa
open Go.RowKit

/-- What a function leaves that hands back new numbers and an error's number. -/
def MadeN (w : World) (E : Int) (l : List Int) (e : Ending) (w' : World) : Prop :=
  ∃ A c, e = .returned (.tuple #[.slice A l.length c, .int .i64 E]) ∧ l.length ≤ c ∧ Ints w' w'.heap.size .u64 A l ∧ Below w.heap.size w w'
theorem MadeN.nil {w w' : World} {E : Int} (hb : Below w.heap.size w w') : MadeN w E [] (.returned (.tuple #[.slice none 0 0, .int .i64 E])) w' :=
  ⟨none, 0, rfl, Nat.le_refl _, Ints.nil _ _ _ _, hb⟩

/-- The sum of the first k sizes. -/
def sizeTo (sizes : List Int) (k : Nat) : Nat := (total (sizes.take k)).toNat
theorem sizeTo_zero (sizes : List Int) : sizeTo sizes 0 = 0 := by simp [sizeTo, total]
theorem all_take {sizes : List Int} (h : sizes.all szOk = true) (k : Nat) : (sizes.take k).all szOk = true := by
  rw [List.all_eq_true] at h ⊢; exact fun x hx => h x (List.mem_of_mem_take hx)
theorem sizeTo_succ {sizes : List Int} (h : sizes.all szOk = true) (k : Nat) (hk : k < sizes.length) : (sizeTo sizes (k + 1) : Int) = sizeTo sizes k + sizes.getD k 0 := by
  have h1 := total_bd _ (all_take h k)
  have h2 := total_bd _ (all_take h (k + 1))
  unfold sizeTo
  have e : total (sizes.take (k + 1)) = total (sizes.take k) + sizes.getD k 0 := by rw [take_snoc sizes k hk, total_snoc]
  omega
theorem sizeTo_all {sizes : List Int} (h : sizes.all szOk = true) : (sizeTo sizes sizes.length : Int) = total sizes := by
  have h1 := total_bd _ h
  unfold sizeTo
  rw [List.take_length]
  omega
theorem sizeTo_le {sizes : List Int} (h : sizes.all szOk = true) (k : Nat) : (sizeTo sizes k : Int) ≤ total sizes := by
  have h1 := total_bd _ (all_take h k)
  have e : total sizes = total (sizes.take k) + total (sizes.drop k) := by
    have : ∀ a b : List Int, total (a ++ b) = total a + total b := by
      intro a b
      induction a with
      | nil => simp [total]
      | cons x a ih => rw [List.cons_append, total_cons, total_cons, ih]; omega
    rw [← this, List.take_append_drop]
  have h2 := total_bd (sizes.drop k) (by rw [List.all_eq_true] at h ⊢; exact fun x hx => h x (List.mem_of_mem_drop hx))
  unfold sizeTo
  omega

/-- The list of numbers when k of n are written. -/
def rowAt (zs sizes : List Int) (k : Nat) : List Int := partsOf zs (sizes.take k) ++ List.replicate (sizes.length - k) 0
theorem rowAt_len (zs sizes : List Int) (k : Nat) (hk : k ≤ sizes.length) : (rowAt zs sizes k).length = sizes.length := by
  unfold rowAt
  rw [List.length_append, partsOf_len, List.length_replicate, List.length_take]
  omega
theorem rowAt_zero (zs sizes : List Int) : rowAt zs sizes 0 = List.replicate sizes.length 0 := by simp [rowAt, partsOf]
theorem rowAt_all (zs sizes : List Int) : rowAt zs sizes sizes.length = partsOf zs sizes := by simp [rowAt]
theorem rowAt_succ {zs sizes : List Int} (h : sizes.all szOk = true) (k : Nat) (hk : k < sizes.length) :
    (rowAt zs sizes k).set k (valOf ((zs.drop (sizeTo sizes k)).take (sizes.getD k 0).toNat)) = rowAt zs sizes (k + 1) := by
  unfold rowAt
  rw [take_snoc sizes k hk, partsOf_append _ _ _ (all_take h k)]
  have hl : (partsOf zs (sizes.take k)).length = k := by rw [partsOf_len, List.length_take]; omega
  have hr : List.replicate (sizes.length - k) (0 : Int) = 0 :: List.replicate (sizes.length - (k + 1)) 0 := by
    rw [show sizes.length - k = (sizes.length - (k + 1)) + 1 by omega, List.replicate_succ]
  rw [hr, List.set_append_right _ _ (by omega), hl, Nat.sub_self, List.set_cons_zero]
  simp [partsOf, sizeTo]
theorem parts_mem (zs sizes : List Int) (h : ∀ z ∈ zs, 0 ≤ z ∧ z ≤ 255) (hs : sizes.all szOk = true) : ∀ z ∈ partsOf zs sizes, 0 ≤ z ∧ z ≤ 18446744073709551615 := by
  induction sizes generalizing zs with
  | nil => intro z hz; simp [partsOf] at hz
  | cons s ss ih =>
    intro z hz
    simp only [List.all_cons, Bool.and_eq_true] at hs
    have h8 : 1 ≤ s ∧ s ≤ 8 := by simpa only [szOk, decide_eq_true_eq] using hs.1
    rcases List.mem_cons.1 hz with rfl | hz
    · have := valOf_bd (zs.take s.toNat) fun z hz => h z (List.mem_of_mem_take hz)
      have hp := pow_le8 (zs.take s.toNat).length (by rw [List.length_take]; omega)
      omega
    · exact ih (zs.drop s.toNat) (fun z hz => h z (List.mem_of_mem_drop hz)) hs.2 z hz

theorem Try.infoU64 : (Try.prog.info? 54).map (fun i => (i.zero, i.size, i.bytes)) = some (some (.int .u64 0), 1, 8) := by kernel_rfl

/-- The sizes are refused, or there are not as many bytes. -/
theorem split_no (A1 A2 : Option Addr) (c1 c2 : Nat) (sizes zs : List Int) (w : World) (hs : Ints w w.heap.size .i64 A1 sizes) (h : splitE zs sizes ≠ 0) :
    Calls Try.prog 34 #[.slice A2 zs.length c2, .slice A1 sizes.length c1] w (MadeN w (splitE zs sizes) []) := by
  by_cases hz : szs sizes = false
  · have e1 : splitE zs sizes = 1 := by unfold splitE; rw [hz]; rfl
    rw [e1]
    clear h e1
    go_enter Try.func34, Try.ntmps34
    go_wp2_with (go_at_call 37; refine (extent_no A1 c1 _ sizes _ hs hz).mono ?_; rintro e w' ⟨rfl, rfl⟩)
    go_ret2
    exact MadeN.nil (Below.refl _ _)
  · have hz' : szs sizes = true := by simpa using hz
    have hz3 := hz'
    simp only [szs, Bool.and_eq_true, decide_eq_true_eq] at hz3
    have htot := total_bd sizes hz3.2
    have hext := extent_yes A1 c1 _ sizes w hs hz'
    obtain ⟨T, hT⟩ : ∃ T : Int, T = total sizes := ⟨_, rfl⟩
    have HE := Lib.hid hext
    clear hext
    by_cases h3 : (zs.length : Int) < total sizes
    · have e1 : splitE zs sizes = 3 := by unfold splitE; rw [if_pos hz', if_pos h3]
      rw [e1]
      rw [← hT] at HE h3
      clear h e1 hz hz' hz3 htot hT
      go_enter Try.func34, Try.ntmps34
      go_wp2_with (go_at_call 37; refine Calls.mono HE.out ?_; rintro e w' ⟨rfl, rfl⟩)
      go_ret2
      exact MadeN.nil (Below.refl _ _)
    · have h4 : total sizes < (zs.length : Int) := by
        rcases Int.lt_or_le (total sizes) zs.length with hlt | hle
        · exact hlt
        · exact absurd (by unfold splitE; rw [if_pos hz', if_neg h3, if_neg (by omega)]) h
      have e1 : splitE zs sizes = 2 := by unfold splitE; rw [if_pos hz', if_neg h3, if_pos h4]
      rw [e1]
      rw [← hT] at HE h3 h4
      clear h e1 hz hz' hz3 htot hT
      go_enter Try.func34, Try.ntmps34
      go_wp2_with (go_at_call 37; refine Calls.mono HE.out ?_; rintro e w' ⟨rfl, rfl⟩)
      go_ret2
      exact MadeN.nil (Below.refl _ _)

set_option maxRecDepth 20000 in
set_option maxHeartbeats 800000 in
/-- As many bytes as the sizes have: the numbers lie in a block of the call's own. -/
theorem split_new (A1 A2 : Option Addr) (c1 c2 : Nat) (sizes zs : List Int) (w : World) (hs : Ints w w.heap.size .i64 A1 sizes) (hn : Ints w w.heap.size .u8 A2 zs) (hc : zs.length ≤ c2)
    (hb : ∀ z ∈ zs, 0 ≤ z ∧ z ≤ 255) (hz : szs sizes = true) (hl : total sizes = zs.length) :
    Calls Try.prog 34 #[.slice A2 zs.length c2, .slice A1 sizes.length c1] w fun e w' => ∃ c, e = .returned (.tuple #[.slice (some ⟨w.heap.size, 0, none⟩) (partsOf zs sizes).length c, .int .i64 0]) ∧ (partsOf zs sizes).length ≤ c ∧ Ints w' w'.heap.size .u64 (some ⟨w.heap.size, 0, none⟩) (partsOf zs sizes) ∧ Below w.heap.size w w' := by
  obtain ⟨i0, hi, hz0, hz1, hz2⟩ := info_parts Try.infoU64
  have hext := extent_yes A1 c1 _ sizes w hs hz
  rw [hl] at hext
  have hz3 := hz
  simp only [szs, Bool.and_eq_true, decide_eq_true_eq] at hz3
  obtain ⟨hz4, hz5⟩ := hz3
  have htot := total_bd sizes hz5
  have hzl : zs.length ≤ 32768 := by omega
  have HE := Lib.hid hext
  have HZ5 := Lib.hid hz5
  have HL := Lib.hid hl
  have HB := Lib.hid hb
  clear hext hz hz5 hl hb htot
  go_enter Try.func34, Try.ntmps34
  go_wp2_with (first
    | (go_at_call 37; refine Calls.mono HE.out ?_; rintro e w' ⟨rfl, rfl⟩)
    | (at_make; refine wpList_make_full _ rfl _ _ 50 rfl w.heap.size 54 i0 (.int .u64 0) 1 Try.underlying50 hi hz0 hz1 .i64 .i64 (sizes.length : Int) (sizes.length : Int) sizes.length rfl rfl rfl rfl (by rw [hz2]; omega) (by unfold maxLen; omega) (Nat.le_refl _) ?_; intro w1 hown1 hg1))
  have hbel1 : Below w.heap.size w w1 := (Below.refl _ _).grown hg1 (Nat.le_refl _) (fun _ h => by cases h)
  clear hg1
  go_loopw [0, 32] (fun b i wr => ∃ (k L c' : Nat) (A' : Option Addr), k ≤ sizes.length ∧ i = .int .i64 k ∧ b = .slice A' L c' ∧ Hid (L = (zs.drop (sizeTo sizes k)).length) ∧ L ≤ c' ∧ Ints wr w.heap.size .u8 A' (zs.drop (sizeTo sizes k)) ∧
      wr.ownsRow w.heap.size 54 1 (.slice (some ⟨w.heap.size, 0, none⟩) sizes.length sizes.length) sizes.length ((rowAt zs sizes k).map (Value.int .u64)) ∧ Below w.heap.size w wr)
    (fun _ i _ => sizes.length - (intOf i).toNat)
  case atStart =>
    refine ⟨0, zs.length, c2, A2, Nat.zero_le _, rfl, rfl, by rw [sizeTo_zero]; rfl, hc, by rw [sizeTo_zero]; exact hn.below hbel1, ?_, hbel1⟩
    have h := hown1
    rw [show (Value.int IntKind.u64 0).cells = #[Value.int .u64 0] from rfl, toList_madeCells_one, Nat.mul_one] at h
    rw [rowAt_zero, List.map_replicate]
    exact h
  case round =>
    obtain ⟨k, L, c', A', hk, rfl, rfl, hLL, hLc, hds, hown, hbel⟩ := hrel
    clear hown1 hbel1 hn hc
    by_cases hlt : k < sizes.length
    · have hso : szOk (sizes.getD k 0) = true := List.all_eq_true.1 HZ5.out _ (getD_mem hlt)
      have hs1 : 1 ≤ sizes.getD k 0 ∧ sizes.getD k 0 ≤ 8 := by simpa only [szOk, decide_eq_true_eq] using hso
      have hsucc := sizeTo_succ HZ5.out k hlt
      have hle := sizeTo_le HZ5.out (k + 1)
      have HRW := Lib.hid (rowAt_succ (zs := zs) HZ5.out k hlt)
      obtain ⟨b1, o1, e1, _, hc1⟩ := hs.below hbel k hlt
      obtain ⟨s, hs'⟩ : ∃ s : Nat, (s : Int) = sizes.getD k 0 := ⟨(sizes.getD k 0).toNat, by omega⟩
      rw [← hs'] at hs1 hsucc HRW hc1
      have hHL := HL.out
      have hLe : L = zs.length - sizeTo sizes k := by have := hLL.out; rw [List.length_drop] at this; exact this
      have hsL : s ≤ L := by omega
      have HD := Lib.hid (show (zs.drop (sizeTo sizes k)).drop s = zs.drop (sizeTo sizes (k + 1)) by rw [List.drop_drop]; congr 1; omega)
      obtain ⟨ds, hds'⟩ : ∃ ds, ds = zs.drop (sizeTo sizes k) := ⟨_, rfl⟩
      have hdm : ∀ z ∈ ds, 0 ≤ z ∧ z ≤ 255 := fun z hz => HB.out z (List.mem_of_mem_drop (by rw [← hds']; exact hz))
      rw [← hds'] at hds HRW HD hLL
      have hlen : (ds.take s).length = s := by rw [List.length_take, ← hLL.out]; omega
      have hn' := fun w1 (h : Ints w1 w.heap.size .u8 A' ds) => number_any A' c' _ (ds.take s) w1 (h.take s) (fun z hz => hdm z (List.mem_of_mem_take hz)) (by omega)
      rw [hlen] at hn'
      have hwr := hown.cellAt k (by omega)
      have hfz := hown.frozenAt k
      have hrl := rowAt_len zs sizes k (by omega)
      rw [List.getElem?_map, List.getElem?_eq_getElem (by omega), Option.map_some] at hwr
      obtain ⟨y, hy⟩ : ∃ y, y = (rowAt zs sizes k)[k]'(by omega) := ⟨_, rfl⟩
      rw [← hy] at hwr
      have hst := hown.stored k (.int .u64 (valOf (ds.take s)))
      rw [← List.map_set] at hst
      have hrs : (rowAt zs sizes k).set k (valOf (ds.take s)) = rowAt zs sizes (k + 1) := HRW.out
      rw [hrs] at hst
      have hbs : Below w.heap.size wr (wr.setCell ⟨w.heap.size, k, none⟩ (.int .u64 (valOf (ds.take s)))) := (Below.refl _ _).setCell (p := ⟨w.heap.size, k, none⟩) (Nat.le_refl w.heap.size) _
      have hcut := (hds.below hbs).cut (n := s) (c := c') (by rw [← hLL.out]; exact hsL) (by rw [← hLL.out]; exact hLc)
      rw [HD.out] at hcut
      have HN := Lib.hid hn'
      have hsc : s ≤ c' := by omega
      have HLn := Lib.hid (show L - s = (zs.drop (sizeTo sizes (k + 1))).length by rw [List.length_drop]; omega)
      have hA' : ∃ b2 o2, A' = some ⟨b2, o2, none⟩ := by
        obtain ⟨b2, o2, e, _⟩ := hds.at_ (by rw [← hLL.out]; omega)
        exact ⟨b2, o2, e⟩
      obtain ⟨b2, o2, rfl⟩ := hA'
      have HST := Lib.hid hst
      have HDS := Lib.hid hds
      have HBL := Lib.hid (hbel.trans hbs)
      obtain ⟨x, hx⟩ : ∃ x, x = valOf (ds.take s) := ⟨_, rfl⟩
      rw [← hx] at HN HST hcut HBL
      obtain rfl := e1
      have hs11 := hs1.1
      clear hs' hso hsucc hle hHL hLe hdm hlen hn' hrl hy hst hrs hbs HRW hds hx hs1 hds'
      by_cases hcs : c' = s
      · rw [if_pos hcs] at hcut
        subst hcs
        have HC := Lib.hid hcut
        clear hcut
        go_wp2_with (go_at_call 41; refine Calls.mono (HN.out _ HDS.out) ?_; rintro e w' ⟨rfl, rfl⟩)
        go_roundw
        case rel => exact ⟨k + 1, 0, _, _, by omega, by go_num, rfl, (show 0 = (zs.drop (sizeTo sizes (k + 1))).length by have := HLn.out; omega), by omega, HC.out, HST.out.1, HBL.out⟩
        case measure => simp [intOf]; omega
      · rw [if_neg hcs] at hcut
        have hcut' : Ints (wr.setCell ⟨w.heap.size, k, none⟩ (.int .u64 x)) w.heap.size .u8 (some ⟨b2, o2 + s, none⟩) (zs.drop (sizeTo sizes (k + 1))) := by
          have : (some (⟨b2, o2, none⟩ : Addr)).map (·.add s) = some ⟨b2, o2 + s, none⟩ := by simp [Addr.add]; omega
          rw [this] at hcut
          exact hcut
        have HC := Lib.hid hcut'
        clear hcut hcut'
        go_wp2_with (go_at_call 41; refine Calls.mono (HN.out _ HDS.out) ?_; rintro e w' ⟨rfl, rfl⟩)
        go_roundw
        case rel => exact ⟨k + 1, L - s, _, _, by omega, by go_num, rfl, HLn.out, by omega, HC.out, HST.out.1, HBL.out⟩
        case measure => simp [intOf]; omega
    · have hks : k = sizes.length := by omega
      subst hks
      rw [rowAt_all] at hown
      have hle := own_le hown
      have hpl := partsOf_len zs sizes
      have hown2 : wr.ownsRow w.heap.size 54 1 (.slice (some ⟨w.heap.size, 0, none⟩) sizes.length sizes.length) (partsOf zs sizes).length ((partsOf zs sizes).map (Value.int .u64)) := by
        rw [hpl]
        exact hown
      have hres := Ints.of_own hown2
      clear hds hLL hown hown2
      go_wp2
      go_ret2
      exact ⟨sizes.length, by rw [hpl]; rfl, by omega, hres, hbel⟩
/-- As many bytes as the sizes have. -/
theorem split_go (A1 A2 : Option Addr) (c1 c2 : Nat) (sizes zs : List Int) (w : World) (hs : Ints w w.heap.size .i64 A1 sizes) (hn : Ints w w.heap.size .u8 A2 zs) (hc : zs.length ≤ c2)
    (hb : ∀ z ∈ zs, 0 ≤ z ∧ z ≤ 255) (hz : szs sizes = true) (hl : total sizes = zs.length) :
    Calls Try.prog 34 #[.slice A2 zs.length c2, .slice A1 sizes.length c1] w (MadeN w 0 (partsOf zs sizes)) :=
  (split_new A1 A2 c1 c2 sizes zs w hs hn hc hb hz hl).mono fun _ _ ⟨c, h⟩ => ⟨_, c, h⟩

/-- 'Split', whatever it is given. -/
theorem split_any (A1 A2 : Option Addr) (c1 c2 : Nat) (sizes zs : List Int) (w : World) (hs : Ints w w.heap.size .i64 A1 sizes) (hn : Ints w w.heap.size .u8 A2 zs) (hc : zs.length ≤ c2)
    (hb : ∀ z ∈ zs, 0 ≤ z ∧ z ≤ 255) :
    Calls Try.prog 34 #[.slice A2 zs.length c2, .slice A1 sizes.length c1] w (MadeN w (splitE zs sizes) (splitL zs sizes)) := by
  by_cases h : splitE zs sizes = 0
  · have h' := h
    unfold splitE at h'
    cases hz : szs sizes
    · rw [hz] at h'; simp at h'
    · rw [if_pos hz] at h'
      have hl : total sizes = zs.length := by
        by_cases h3 : (zs.length : Int) < total sizes
        · rw [if_pos h3] at h'; omega
        · rw [if_neg h3] at h'
          by_cases h4 : total sizes < (zs.length : Int)
          · rw [if_pos h4] at h'; omega
          · omega
      unfold splitL
      rw [if_pos h, h]
      exact split_go A1 A2 c1 c2 sizes zs w hs hn hc hb hz hl
  · unfold splitL
    rw [if_neg h]
    exact split_no A1 A2 c1 c2 sizes zs w hs h

end Go.Proofs.Ytbmgiekiildaaaa

namespace Go.Proofs.Ytbmgiekiildaaaa
open Go.RowKit

theorem strOfNums_up {a b : List Nat} (ha : ∀ x ∈ a, x < 256) (hb : ∀ x ∈ b, x < 256) (h : (strOfNums (up a)).toList = (strOfNums (up b)).toList) : a = b := by
  rw [Lib.strOfNums_toList, Lib.strOfNums_toList] at h
  have e : ∀ l : List Nat, (∀ x ∈ l, x < 256) → (Lib.bytesOf (up l)).map UInt8.toNat = l := fun l hl => by
    unfold Lib.bytesOf up
    rw [List.map_map, List.map_map]
    conv => rhs; rw [← List.map_id l]
    apply List.map_congr_left
    intro x hx
    simp [Nat.mod_eq_of_lt (hl x hx)]
  rw [← e a ha, ← e b hb, h]
theorem text_apart {x y : List Nat} (hx : ∀ z ∈ x, z < 256) (hy : ∀ z ∈ y, z < 256) : ((strOfNums (up x)).toList == (strOfNums (up y)).toList) = (x == y) := by
  by_cases h : x = y
  · rw [h, beq_self_eq_true, beq_self_eq_true]
  · rw [beq_eq_false_iff_ne.2 h, beq_eq_false_iff_ne.2 (fun hh => h (strOfNums_up hx hy hh))]

end Go.Proofs.Ytbmgiekiildaaaa
