/-
  The program's Seal and Open. Layer 7: its laws as walks, and what is asked of its calls, together.
-/
import Derived.Test.YtanpfodmmeagaaaDoorSealC1G
import Derived.Test.YtanpfodmmeagaaaDoorSealC3G
import Derived.OwnWalk
import Derived.Test.YtanpfodmmeagaaaDoorSealLawsG
import Derived.Test.YtanpfodmmeagaaaDoorHeadG
import Derived.Test.YtanpfodmmeagaaaDoorShaCodeG
namespace Go.Proofs.YtanpfodmmeagaaaDoor
open Go.RowKit

theorem conv_text (key : ByteArray) (hk : key.size ≤ maxLen) (W : World) : ∃ cv WB, Sem.run Tryd.prog (convert 9 24 (.string key)) W = .ok (.slice (some ⟨W.heap.size, 0, none⟩) key.size cv) WB ∧ key.size ≤ cv ∧ Below W.heap.size W WB ∧ Ints WB WB.heap.size .u8 (some ⟨W.heap.size, 0, none⟩) (up (textN key)) := by
  have hrt := room_of_text W 5 key hk
  have hrun := Lib.run_convert_string_bytes (P := Tryd.prog) W 9 24 5 key Tryd.underlying9 Tryd.underlying24 Tryd.underlying5
  have hge := grownCap_ge W key.size 0 5
  obtain ⟨A2, c2, h2, _, hi2, _⟩ := hrt.1.form
  injection h2 with h2 _ _
  refine ⟨_, _, hrun, hge, hrt.2, ?_⟩
  rw [← h2] at hi2
  exact hi2
theorem textN_inj {a b : ByteArray} (h : textN a = textN b) : a = b := by
  cases a with | mk a => cases b with | mk b =>
  congr 1
  apply Array.toList_inj.1
  have h1 : a.toList.map UInt8.toNat = b.toList.map UInt8.toNat := h
  exact (List.map_inj_right fun x y hxy => UInt8.toNat_inj.1 hxy).1 h1
theorem same_len (A0 A1 : Option Addr) (c0 c1 n m : Nat) (w : World) (hl : n ≠ m) :
    Calls Tryd.prog 19 #[.slice A0 n c0, .slice A1 m c1] w fun e w' => e = .returned (.bool false) ∧ Below w.heap.size w w' := by
  have hn : ((n : Int) == (m : Int)) = false := by simp; omega
  have hn2 : ((n : Int) != (m : Int)) = true := by simp; omega
  clear hl
  go_enter Tryd.func19, Tryd.ntmps19
  go_wp2
  go_ret
  exact ⟨rfl, Below.refl _ _⟩
theorem same_texts (g T : ByteArray) (hT : T.size = 16) (W : World) (A0 A1 : Option Addr) (c0 c1 : Nat) (h0 : Ints W W.heap.size .u8 A0 (up (textN g))) (h1 : Ints W W.heap.size .u8 A1 (up (textN T))) :
    Calls Tryd.prog 19 #[.slice A0 g.size c0, .slice A1 16 c1] W fun e w' => e = .returned (.bool (textN g == textN T)) ∧ Below W.heap.size W w' := by
  by_cases hg : g.size = 16
  · have h := same_any A0 A1 c0 c1 (textN g) (textN T) W h0 h1 (textN_lt g) (textN_lt T) (by rw [textN_len, hg]; decide)
    rw [textN_len, textN_len, hT] at h
    exact h
  · have he : (textN g == textN T) = false := by
      rw [beq_eq_false_iff_ne]
      intro h
      have h2 := congrArg List.length h
      rw [textN_len, textN_len, hT] at h2
      exact hg h2
    rw [he]
    exact same_len A0 A1 c0 c1 g.size 16 W hg

set_option maxHeartbeats 1600000 in
set_option maxRecDepth 20000 in
theorem seal_go {w0 : World} (hl : Laid w0) (key g : ByteArray) (t v b s r : Int) (A : Option Addr) (c : Nat) (x : List Nat) (w : World) (hw : Below w0.heap.size w0 w) (ht : I64 t) (hs : I64 s) (hr : I64 r) (hi : Ints w w.heap.size .u8 A (up x)) (hx : ∀ y ∈ x, y < 256) (hc : x.length ≤ c) (he : sealE key.size x.length t v b s r = 0) :
    Calls Tryd.prog 8 #[.string key, .agg #[.int .i64 t, .int .i64 v, .int .i64 b, .int .i64 s, .int .i64 r, .string g], .slice A x.length c] w fun e w' =>
      ∃ A' c', e = .returned (.tuple #[.slice A' 64 c', .string (tagS key t v b s r (sealN (textN key) t s r x)), .int .i64 0]) ∧ 64 ≤ c' ∧ Ints w' w'.heap.size .u8 A' (up (sealN (textN key) t s r x)) ∧ Below w.heap.size w w' := by
  obtain ⟨hks, hxl⟩ := sealE_zero he
  have HRT := Lib.hid (fun W : World => check_any key g t v b s r A x.length c W)
  rw [he] at HRT
  have HAP := Lib.hid (fun (W : World) (hb : Below w.heap.size w W) => cipher_any hl key g t v b s r A c x W (hw.trans (hb.mono hw.size)) ht hs hr ((hi.below hb).more hb.size) hx hxl (by rw [← hxl]; exact hc) hks)
  have HTG := Lib.hid (fun (W : World) (A' : Option Addr) (c' : Nat) (hb : Below w.heap.size w W) (h : Ints W W.heap.size .u8 A' (up (sealN (textN key) t s r x))) (hc' : 64 ≤ c') => tag_any hl key g t v b s r A' c' (sealN (textN key) t s r x) W (hw.trans (hb.mono hw.size)) ht h (sealN_lt _ _ _ _ hx) (by rw [sealN_len, hxl]) hc' hks)
  rw [hxl] at HRT ⊢
  clear hi hx he hks hxl hl hw ht hs hr hc
  obtain ⟨W1, hW1⟩ : ∃ W, W = w.alloc (.cells #[.int .i64 t, .int .i64 v, .int .i64 b, .int .i64 s, .int .i64 r, .string g] 23) := ⟨_, rfl⟩
  obtain ⟨q, hq⟩ : ∃ q, q = w.heap.size := ⟨_, rfl⟩
  have hrow : W1.heap[q]? = some (.cells #[.int .i64 t, .int .i64 v, .int .i64 b, .int .i64 s, .int .i64 r, .string g] 23 (0, 0)) := by rw [hW1, hq]; exact heap_alloc_new _ _
  have hbW : Below w.heap.size w W1 := by rw [hW1]; exact (Below.refl _ _).alloc (Nat.le_refl _) _
  have hql : q < W1.heap.size := lt_row hrow
  have HSS := Lib.hid (fun (W : World) (hb : Below W1.heap.size W1 W) => headCells hrow hql hb)
  obtain ⟨x0, x1, x2, x3, x4, x5⟩ := HSS.out _ (Below.refl _ _)
  have HBW := Lib.hid hbW
  clear hrow hbW hql
  go_enter Tryd.func8, Tryd.ntmps8
  go_wp2_with fail
  rw [← hW1, ← hq]
  clear hW1 hq
  go_wp2_with (first
    | (go_at_call 13; with_reducible (refine Calls.mono (HRT.out _) ?_); rintro e w2 ⟨rfl, hb2⟩; have hbs := hb2; obtain ⟨y0, y1, y2, y3, y4, y5⟩ := HSS.out _ hbs)
    | (go_at_call 14; with_reducible (refine Calls.mono (HAP.out _ (HBW.out.trans (hbs.mono HBW.out.size))) ?_); rintro e w3 ⟨A3, c3, rfl, hc3, hi3, hb3⟩; have hbs := chain hbs hb3; obtain ⟨z0, z1, z2, z3, z4, z5⟩ := HSS.out _ hbs)
    | (go_at_call 15; with_reducible (refine Calls.mono (HTG.out _ _ _ (HBW.out.trans (hbs.mono HBW.out.size)) hi3 hc3) ?_); rintro e w4 ⟨rfl, hb4⟩; have hi4 := (hi3.below hb4).more hb4.size; have hbs := chain hbs hb4))
  go_ret3
  exact ⟨_, _, rfl, hc3, hi4, HBW.out.trans (hbs.mono HBW.out.size)⟩

set_option maxHeartbeats 1600000 in
set_option maxRecDepth 20000 in
theorem seal_no (key g : ByteArray) (t v b s r : Int) (A : Option Addr) (c : Nat) (x : List Nat) (w : World) (he : sealE key.size x.length t v b s r ≠ 0) :
    Calls Tryd.prog 8 #[.string key, .agg #[.int .i64 t, .int .i64 v, .int .i64 b, .int .i64 s, .int .i64 r, .string g], .slice A x.length c] w fun e w' =>
      e = .returned (.tuple #[.slice none 0 0, .string ⟨#[]⟩, .int .i64 (sealE key.size x.length t v b s r)]) ∧ Below w.heap.size w w' := by
  have HRT := Lib.hid (fun W : World => check_any key g t v b s r A x.length c W)
  obtain ⟨E, hE⟩ : ∃ E, E = sealE key.size x.length t v b s r := ⟨_, rfl⟩
  rw [← hE] at HRT he ⊢
  clear hE
  obtain ⟨W1, hW1⟩ : ∃ W, W = w.alloc (.cells #[.int .i64 t, .int .i64 v, .int .i64 b, .int .i64 s, .int .i64 r, .string g] 23) := ⟨_, rfl⟩
  obtain ⟨q, hq⟩ : ∃ q, q = w.heap.size := ⟨_, rfl⟩
  have hrow : W1.heap[q]? = some (.cells #[.int .i64 t, .int .i64 v, .int .i64 b, .int .i64 s, .int .i64 r, .string g] 23 (0, 0)) := by rw [hW1, hq]; exact heap_alloc_new _ _
  have hbW : Below w.heap.size w W1 := by rw [hW1]; exact (Below.refl _ _).alloc (Nat.le_refl _) _
  have hql : q < W1.heap.size := lt_row hrow
  have HSS := Lib.hid (fun (W : World) (hb : Below W1.heap.size W1 W) => headCells hrow hql hb)
  obtain ⟨x0, x1, x2, x3, x4, x5⟩ := HSS.out _ (Below.refl _ _)
  have HBW := Lib.hid hbW
  clear hrow hbW hql
  go_enter Tryd.func8, Tryd.ntmps8
  go_wp2_with fail
  rw [← hW1, ← hq]
  clear hW1 hq
  go_wp2_with (go_at_call 13; with_reducible (refine Calls.mono (HRT.out _) ?_); rintro e w2 ⟨rfl, hb2⟩; have hbs := hb2; obtain ⟨y0, y1, y2, y3, y4, y5⟩ := HSS.out _ hbs)
  go_ret3
  exact ⟨rfl, HBW.out.trans (hbs.mono HBW.out.size)⟩

set_option maxHeartbeats 1600000 in
set_option maxRecDepth 20000 in
theorem open_no (key g : ByteArray) (t v b s r : Int) (A : Option Addr) (c : Nat) (x : List Nat) (w : World) (he : sealE key.size x.length t v b s r ≠ 0) :
    Calls Tryd.prog 11 #[.string key, .agg #[.int .i64 t, .int .i64 v, .int .i64 b, .int .i64 s, .int .i64 r, .string g], .slice A x.length c] w fun e w' =>
      e = .returned (.tuple #[.slice none 0 0, .int .i64 (sealE key.size x.length t v b s r)]) ∧ Below w.heap.size w w' := by
  have HRT := Lib.hid (fun W : World => check_any key g t v b s r A x.length c W)
  obtain ⟨E, hE⟩ : ∃ E, E = sealE key.size x.length t v b s r := ⟨_, rfl⟩
  rw [← hE] at HRT he ⊢
  clear hE
  obtain ⟨W1, hW1⟩ : ∃ W, W = w.alloc (.cells #[.int .i64 t, .int .i64 v, .int .i64 b, .int .i64 s, .int .i64 r, .string g] 23) := ⟨_, rfl⟩
  obtain ⟨q, hq⟩ : ∃ q, q = w.heap.size := ⟨_, rfl⟩
  have hrow : W1.heap[q]? = some (.cells #[.int .i64 t, .int .i64 v, .int .i64 b, .int .i64 s, .int .i64 r, .string g] 23 (0, 0)) := by rw [hW1, hq]; exact heap_alloc_new _ _
  have hbW : Below w.heap.size w W1 := by rw [hW1]; exact (Below.refl _ _).alloc (Nat.le_refl _) _
  have hql : q < W1.heap.size := lt_row hrow
  have HSS := Lib.hid (fun (W : World) (hb : Below W1.heap.size W1 W) => headCells hrow hql hb)
  obtain ⟨x0, x1, x2, x3, x4, x5⟩ := HSS.out _ (Below.refl _ _)
  have HBW := Lib.hid hbW
  clear hrow hbW hql
  go_enter Tryd.func11, Tryd.ntmps11
  go_wp2_with fail
  rw [← hW1, ← hq]
  clear hW1 hq
  go_wp2_with (go_at_call 13; with_reducible (refine Calls.mono (HRT.out _) ?_); rintro e w2 ⟨rfl, hb2⟩; have hbs := hb2; obtain ⟨y0, y1, y2, y3, y4, y5⟩ := HSS.out _ hbs)
  go_ret2
  exact ⟨rfl, HBW.out.trans (hbs.mono HBW.out.size)⟩

set_option maxHeartbeats 1600000 in
set_option maxRecDepth 20000 in
theorem open_go {w0 : World} (hl : Laid w0) (key g : ByteArray) (t v b s r : Int) (A : Option Addr) (c : Nat) (x : List Nat) (w : World) (hw : Below w0.heap.size w0 w) (ht : I64 t) (hs : I64 s) (hr : I64 r) (hi : Ints w w.heap.size .u8 A (up x)) (hx : ∀ y ∈ x, y < 256) (hc : x.length ≤ c) (he : sealE key.size x.length t v b s r = 0) (hg : g = tagS key t v b s r x) :
    Calls Tryd.prog 11 #[.string key, .agg #[.int .i64 t, .int .i64 v, .int .i64 b, .int .i64 s, .int .i64 r, .string g], .slice A x.length c] w fun e w' =>
      ∃ A' c', e = .returned (.tuple #[.slice A' 64 c', .int .i64 0]) ∧ 64 ≤ c' ∧ Ints w' w'.heap.size .u8 A' (up (sealN (textN key) t s r x)) ∧ Below w.heap.size w w' := by
  obtain ⟨hks, hxl⟩ := sealE_zero he
  have HRT := Lib.hid (fun W : World => check_any key g t v b s r A x.length c W)
  rw [he] at HRT
  have HAP := Lib.hid (fun (W : World) (hb : Below w.heap.size w W) => cipher_any hl key g t v b s r A c x W (hw.trans (hb.mono hw.size)) ht hs hr ((hi.below hb).more hb.size) hx hxl (by rw [← hxl]; exact hc) hks)
  have HTG := Lib.hid (fun (W : World) (hb : Below w.heap.size w W) => tag_any hl key g t v b s r A c x W (hw.trans (hb.mono hw.size)) ht ((hi.below hb).more hb.size) hx hxl (by rw [← hxl]; exact hc) hks)
  rw [hxl] at HRT ⊢
  have hts : (tagS key t v b s r x).size = 16 := by unfold tagS; rw [strOfNums_size, up_len, tagN_len]
  have hgm : g.size ≤ maxLen := by rw [hg, hts]; unfold maxLen; decide
  obtain ⟨T, hT⟩ : ∃ T, T = tagS key t v b s r x := ⟨_, rfl⟩
  rw [← hT] at HTG hg hts
  have hbe : (textN g == textN T) = true := by rw [hg, beq_self_eq_true]
  have HSM := Lib.hid (fun (W : World) A0 A1 c0 c1 h0 h1 (_ : g.size ≤ c0) (_ : 16 ≤ c1) => same_texts g T hts W A0 A1 c0 c1 h0 h1)
  rw [hbe] at HSM
  have HVG := Lib.hid (conv_text g hgm)
  have HVT := Lib.hid (conv_text T (by rw [hts]; unfold maxLen; decide))
  rw [hts] at HVT
  clear hi hx he hks hxl hl hw ht hs hr hc hT hbe hg hts hgm
  obtain ⟨W1, hW1⟩ : ∃ W, W = w.alloc (.cells #[.int .i64 t, .int .i64 v, .int .i64 b, .int .i64 s, .int .i64 r, .string g] 23) := ⟨_, rfl⟩
  obtain ⟨q, hq⟩ : ∃ q, q = w.heap.size := ⟨_, rfl⟩
  have hrow : W1.heap[q]? = some (.cells #[.int .i64 t, .int .i64 v, .int .i64 b, .int .i64 s, .int .i64 r, .string g] 23 (0, 0)) := by rw [hW1, hq]; exact heap_alloc_new _ _
  have hbW : Below w.heap.size w W1 := by rw [hW1]; exact (Below.refl _ _).alloc (Nat.le_refl _) _
  have hql : q < W1.heap.size := lt_row hrow
  have HSS := Lib.hid (fun (W : World) (hb : Below W1.heap.size W1 W) => headCells hrow hql hb)
  obtain ⟨x0, x1, x2, x3, x4, x5⟩ := HSS.out _ (Below.refl _ _)
  have HBW := Lib.hid hbW
  clear hrow hbW hql
  go_enter Tryd.func11, Tryd.ntmps11
  go_wp2_with fail
  rw [← hW1, ← hq]
  clear hW1 hq
  go_wp2_with (go_at_call 13; with_reducible (refine Calls.mono (HRT.out _) ?_); rintro e w2 ⟨rfl, hb2⟩; have hbs := hb2; obtain ⟨y0, y1, y2, y3, y4, y5⟩ := HSS.out _ hbs)
  clear x0 x1 x2 x3 x4 x5 y0 y1 y2 y3 y4 y5
  obtain ⟨W2, hW2⟩ : ∃ W, W = w2 := ⟨_, rfl⟩
  rw [← hW2] at hbs ⊢
  clear hW2
  have hbs := hbs.drew
  refine wp_region_held_drew (S := (fun W => W.cell? ⟨q, 0, none⟩ = some (.int .i64 t) ∧ W.cell? ⟨q, 1, none⟩ = some (.int .i64 v) ∧ W.cell? ⟨q, 2, none⟩ = some (.int .i64 b) ∧ W.cell? ⟨q, 3, none⟩ = some (.int .i64 s) ∧ W.cell? ⟨q, 4, none⟩ = some (.int .i64 r) ∧ W.cell? ⟨q, 5, none⟩ = some (.string g))) (by kernel_rfl) (HSS.out _ hbs) (fun hHeld => ?_)
  refine wpAnyH_take (i := 0) (oi := _) (v := ?_) rfl (by kernel_rfl) (by kernel_rfl) (by kernel_rfl) (fun _ _ _ h => h) (Or.inl ⟨by rfl, ?_⟩) (by assumption) ?_
  rotate_left 1
  · intro w hSw; (try dsimp only at hSw); (try obtain ⟨m0, m1, m2, m3, m4, m5⟩ := hSw); first | (go_simp; done) | (go_simp; with_reducible rfl)
  change wpAnyH _ _ _ _ _ _ _ (Act.put _ (some 16) _) _
  (try simp only [Act.put, List.setIfInBounds_toArray, List.set_cons_zero, List.set_cons_succ])
  refine wpAnyH_take (i := 1) (oi := _) (v := ?_) rfl (by kernel_rfl) (by kernel_rfl) (by kernel_rfl) (fun _ _ _ h => h) (Or.inl ⟨by rfl, ?_⟩) (by assumption) ?_
  rotate_left 1
  · intro w hSw; (try dsimp only at hSw); (try obtain ⟨m0, m1, m2, m3, m4, m5⟩ := hSw); first | (go_simp; done) | (go_simp; with_reducible rfl)
  change wpAnyH _ _ _ _ _ _ _ (Act.put _ (some 17) _) _
  (try simp only [Act.put, List.setIfInBounds_toArray, List.set_cons_zero, List.set_cons_succ])
  refine wpAnyH_take (i := 3) (oi := _) (v := ?_) rfl (by kernel_rfl) (by kernel_rfl) (by kernel_rfl) (fun _ _ _ h => h) (Or.inl ⟨by rfl, ?_⟩) (by assumption) ?_
  rotate_left 1
  · intro w hSw; (try dsimp only at hSw); (try obtain ⟨m0, m1, m2, m3, m4, m5⟩ := hSw); first | (go_simp; done) | (go_simp; with_reducible rfl)
  change wpAnyH _ _ _ _ _ _ _ (Act.put _ (some 19) _) _
  (try simp only [Act.put, List.setIfInBounds_toArray, List.set_cons_zero, List.set_cons_succ])
  refine wpAnyH_take (i := 4) (oi := _) (v := ?_) rfl (by kernel_rfl) (by kernel_rfl) (by kernel_rfl) (fun _ _ _ h => h) (Or.inl ⟨by rfl, ?_⟩) (by assumption) ?_
  rotate_left 1
  · intro w hSw; (try dsimp only at hSw); (try obtain ⟨m0, m1, m2, m3, m4, m5⟩ := hSw); first | (go_simp; done) | (go_simp; with_reducible rfl)
  change wpAnyH _ _ _ _ _ _ _ (Act.put _ (some 20) _) _
  (try simp only [Act.put, List.setIfInBounds_toArray, List.set_cons_zero, List.set_cons_succ])
  refine wpAnyH_take (i := 5) (oi := _) (v := ?_) rfl (by kernel_rfl) (by kernel_rfl) (by kernel_rfl) (fun _ _ _ h => h) (Or.inl ⟨by rfl, ?_⟩) (by assumption) ?_
  rotate_left 1
  · intro w hSw; (try dsimp only at hSw); (try obtain ⟨m0, m1, m2, m3, m4, m5⟩ := hSw); first | (go_simp; done) | (go_simp; with_reducible rfl)
  change wpAnyH _ _ _ _ _ _ _ (Act.put _ (some 21) _) _
  (try simp only [Act.put, List.setIfInBounds_toArray, List.set_cons_zero, List.set_cons_succ])
  refine wpAnyH_ready (rs := [2, 6]) (by kernel_rfl) (by simp) ?_
  refine AllReadyH.cons (o := _) rfl (fun K hK => ?_) (AllReadyH.cons (o := _) rfl (fun K hK => ?_) (AllReadyH.nil))
  · obtain ⟨cG, WG, hcG, hccG, hbG, hiG⟩ := HVG.out W2.drew
    go_simp
    have hbs := chain hbs hbG
    refine hK.out _ _ (HSS.out _ hbs) (fun hHeld2 => ?_)
    (try simp only [Act.put, List.setIfInBounds_toArray, List.set_cons_zero, List.set_cons_succ])
    clear hK K
    replace hiG : Ints WG WG.heap.size .u8 (some ⟨W2.heap.size, 0, none⟩) (up (textN g)) := hiG
    refine wpAnyH_ready (rs := [6]) (by kernel_rfl) (by simp) ?_
    refine AllReadyH.cons (o := _) rfl (fun K hK => ?_) (AllReadyH.nil)
    go_simp
    (go_at_call 15; with_reducible (refine Calls.mono (HTG.out _ (HBW.out.trans (hbs.mono HBW.out.size))) ?_); rintro e wt ⟨rfl, hbt⟩; have hbs := chain hbs hbt)
    refine hK.out _ _ (HSS.out _ hbs) (fun hHeld6 => ?_)
    (try simp only [Act.put, List.setIfInBounds_toArray, List.set_cons_zero, List.set_cons_succ])
    clear hK K
    refine wpAnyH_ready (rs := [7]) (by kernel_rfl) (by simp) ?_
    refine AllReadyH.cons (o := _) rfl (fun K hK => ?_) (AllReadyH.nil)
    obtain ⟨cT, WT, hcT, hccT, hbT, hiT⟩ := HVT.out wt
    go_simp
    have hbs := chain hbs hbT
    refine hK.out _ _ (HSS.out _ hbs) (fun hHeld7 => ?_)
    (try simp only [Act.put, List.setIfInBounds_toArray, List.set_cons_zero, List.set_cons_succ])
    clear hK K
    refine wpAnyH_ready (rs := [8]) (by kernel_rfl) (by simp) ?_
    refine AllReadyH.cons (o := _) rfl (fun K hK => ?_) (AllReadyH.nil)
    go_simp
    (go_at_call 19; with_reducible (refine Calls.mono (HSM.out _ _ _ _ _ ((hiG.below (hbt.trans (hbT.mono hbt.size))).more (hbt.trans (hbT.mono hbt.size)).size) hiT hccG hccT) ?_); rintro e wl ⟨rfl, hbl⟩; have hbs := chain hbs hbl)
    refine hK.out _ _ (HSS.out _ hbs) (fun hHeld8 => ?_)
    (try simp only [Act.put, List.setIfInBounds_toArray, List.set_cons_zero, List.set_cons_succ])
    clear hK K
    refine wpAnyH_take (i := 9) (oi := _) (v := ?_) rfl (by kernel_rfl) (by kernel_rfl) (by kernel_rfl) (fun _ _ _ h => h) (Or.inl ⟨by rfl, ?_⟩) (by assumption) ?_
    rotate_left 1
    · intro w hSw; (try dsimp only at hSw); (try obtain ⟨m0, m1, m2, m3, m4, m5⟩ := hSw); first | (go_simp; done) | (go_simp; with_reducible rfl)
    change wpAnyH _ _ _ _ _ _ _ (Act.put _ (some 25) _) _
    (try simp only [Act.put, List.setIfInBounds_toArray, List.set_cons_zero, List.set_cons_succ])
    refine wpAnyH_done (by kernel_rfl) ?_ _
    obtain ⟨z0, z1, z2, z3, z4, z5⟩ := HSS.out _ hbs
    go_wp2_with (go_at_call 14; with_reducible (refine Calls.mono (HAP.out _ (HBW.out.trans (hbs.mono HBW.out.size))) ?_); rintro e w4 ⟨A4, c4, rfl, hc4, hi4, hb4⟩; have hbs := chain hbs hb4)
    go_ret2
    exact ⟨_, _, rfl, hc4, hi4, HBW.out.trans (hbs.mono HBW.out.size)⟩
  · go_simp
    (go_at_call 15; with_reducible (refine Calls.mono (HTG.out _ (HBW.out.trans (hbs.mono HBW.out.size))) ?_); rintro e wt ⟨rfl, hbt⟩; have hbs := chain hbs hbt)
    refine hK.out _ _ (HSS.out _ hbs) (fun hHeld6 => ?_)
    (try simp only [Act.put, List.setIfInBounds_toArray, List.set_cons_zero, List.set_cons_succ])
    clear hK K
    refine wpAnyH_ready (rs := [2, 7]) (by kernel_rfl) (by simp) ?_
    refine AllReadyH.cons (o := _) rfl (fun K hK => ?_) (AllReadyH.cons (o := _) rfl (fun K hK => ?_) (AllReadyH.nil))
    · obtain ⟨cG, WG, hcG, hccG, hbG, hiG⟩ := HVG.out wt
      go_simp
      have hbs := chain hbs hbG
      refine hK.out _ _ (HSS.out _ hbs) (fun hHeld2 => ?_)
      (try simp only [Act.put, List.setIfInBounds_toArray, List.set_cons_zero, List.set_cons_succ])
      clear hK K
      refine wpAnyH_ready (rs := [7]) (by kernel_rfl) (by simp) ?_
      refine AllReadyH.cons (o := _) rfl (fun K hK => ?_) (AllReadyH.nil)
      obtain ⟨cT, WT, hcT, hccT, hbT, hiT⟩ := HVT.out WG
      go_simp
      have hbs := chain hbs hbT
      refine hK.out _ _ (HSS.out _ hbs) (fun hHeld7 => ?_)
      (try simp only [Act.put, List.setIfInBounds_toArray, List.set_cons_zero, List.set_cons_succ])
      clear hK K
      refine wpAnyH_ready (rs := [8]) (by kernel_rfl) (by simp) ?_
      refine AllReadyH.cons (o := _) rfl (fun K hK => ?_) (AllReadyH.nil)
      go_simp
      (go_at_call 19; with_reducible (refine Calls.mono (HSM.out _ _ _ _ _ ((hiG.below hbT).more hbT.size) hiT hccG hccT) ?_); rintro e wl ⟨rfl, hbl⟩; have hbs := chain hbs hbl)
      refine hK.out _ _ (HSS.out _ hbs) (fun hHeld8 => ?_)
      (try simp only [Act.put, List.setIfInBounds_toArray, List.set_cons_zero, List.set_cons_succ])
      clear hK K
      refine wpAnyH_take (i := 9) (oi := _) (v := ?_) rfl (by kernel_rfl) (by kernel_rfl) (by kernel_rfl) (fun _ _ _ h => h) (Or.inl ⟨by rfl, ?_⟩) (by assumption) ?_
      rotate_left 1
      · intro w hSw; (try dsimp only at hSw); (try obtain ⟨m0, m1, m2, m3, m4, m5⟩ := hSw); first | (go_simp; done) | (go_simp; with_reducible rfl)
      change wpAnyH _ _ _ _ _ _ _ (Act.put _ (some 25) _) _
      (try simp only [Act.put, List.setIfInBounds_toArray, List.set_cons_zero, List.set_cons_succ])
      refine wpAnyH_done (by kernel_rfl) ?_ _
      obtain ⟨z0, z1, z2, z3, z4, z5⟩ := HSS.out _ hbs
      go_wp2_with (go_at_call 14; with_reducible (refine Calls.mono (HAP.out _ (HBW.out.trans (hbs.mono HBW.out.size))) ?_); rintro e w4 ⟨A4, c4, rfl, hc4, hi4, hb4⟩; have hbs := chain hbs hb4)
      go_ret2
      exact ⟨_, _, rfl, hc4, hi4, HBW.out.trans (hbs.mono HBW.out.size)⟩
    · obtain ⟨cT, WT, hcT, hccT, hbT, hiT⟩ := HVT.out wt
      go_simp
      have hbs := chain hbs hbT
      refine hK.out _ _ (HSS.out _ hbs) (fun hHeld7 => ?_)
      (try simp only [Act.put, List.setIfInBounds_toArray, List.set_cons_zero, List.set_cons_succ])
      clear hK K
      refine wpAnyH_ready (rs := [2]) (by kernel_rfl) (by simp) ?_
      refine AllReadyH.cons (o := _) rfl (fun K hK => ?_) (AllReadyH.nil)
      obtain ⟨cG, WG, hcG, hccG, hbG, hiG⟩ := HVG.out WT
      go_simp
      have hbs := chain hbs hbG
      refine hK.out _ _ (HSS.out _ hbs) (fun hHeld2 => ?_)
      (try simp only [Act.put, List.setIfInBounds_toArray, List.set_cons_zero, List.set_cons_succ])
      clear hK K
      refine wpAnyH_ready (rs := [8]) (by kernel_rfl) (by simp) ?_
      refine AllReadyH.cons (o := _) rfl (fun K hK => ?_) (AllReadyH.nil)
      go_simp
      (go_at_call 19; with_reducible (refine Calls.mono (HSM.out _ _ _ _ _ hiG ((hiT.below hbG).more hbG.size) hccG hccT) ?_); rintro e wl ⟨rfl, hbl⟩; have hbs := chain hbs hbl)
      refine hK.out _ _ (HSS.out _ hbs) (fun hHeld8 => ?_)
      (try simp only [Act.put, List.setIfInBounds_toArray, List.set_cons_zero, List.set_cons_succ])
      clear hK K
      refine wpAnyH_take (i := 9) (oi := _) (v := ?_) rfl (by kernel_rfl) (by kernel_rfl) (by kernel_rfl) (fun _ _ _ h => h) (Or.inl ⟨by rfl, ?_⟩) (by assumption) ?_
      rotate_left 1
      · intro w hSw; (try dsimp only at hSw); (try obtain ⟨m0, m1, m2, m3, m4, m5⟩ := hSw); first | (go_simp; done) | (go_simp; with_reducible rfl)
      change wpAnyH _ _ _ _ _ _ _ (Act.put _ (some 25) _) _
      (try simp only [Act.put, List.setIfInBounds_toArray, List.set_cons_zero, List.set_cons_succ])
      refine wpAnyH_done (by kernel_rfl) ?_ _
      obtain ⟨z0, z1, z2, z3, z4, z5⟩ := HSS.out _ hbs
      go_wp2_with (go_at_call 14; with_reducible (refine Calls.mono (HAP.out _ (HBW.out.trans (hbs.mono HBW.out.size))) ?_); rintro e w4 ⟨A4, c4, rfl, hc4, hi4, hb4⟩; have hbs := chain hbs hb4)
      go_ret2
      exact ⟨_, _, rfl, hc4, hi4, HBW.out.trans (hbs.mono HBW.out.size)⟩

set_option maxHeartbeats 1600000 in
set_option maxRecDepth 20000 in
theorem open_tag {w0 : World} (hl : Laid w0) (key g : ByteArray) (t v b s r : Int) (A : Option Addr) (c : Nat) (x : List Nat) (w : World) (hw : Below w0.heap.size w0 w) (ht : I64 t) (hs : I64 s) (hr : I64 r) (hi : Ints w w.heap.size .u8 A (up x)) (hx : ∀ y ∈ x, y < 256) (hc : x.length ≤ c) (he : sealE key.size x.length t v b s r = 0) (hgm : g.size ≤ maxLen) (hg : g ≠ tagS key t v b s r x) :
    Calls Tryd.prog 11 #[.string key, .agg #[.int .i64 t, .int .i64 v, .int .i64 b, .int .i64 s, .int .i64 r, .string g], .slice A x.length c] w fun e w' =>
      e = .returned (.tuple #[.slice none 0 0, .int .i64 9]) ∧ Below w.heap.size w w' := by
  obtain ⟨hks, hxl⟩ := sealE_zero he
  have HRT := Lib.hid (fun W : World => check_any key g t v b s r A x.length c W)
  rw [he] at HRT
  have HAP := Lib.hid (fun (W : World) (hb : Below w.heap.size w W) => cipher_any hl key g t v b s r A c x W (hw.trans (hb.mono hw.size)) ht hs hr ((hi.below hb).more hb.size) hx hxl (by rw [← hxl]; exact hc) hks)
  have HTG := Lib.hid (fun (W : World) (hb : Below w.heap.size w W) => tag_any hl key g t v b s r A c x W (hw.trans (hb.mono hw.size)) ht ((hi.below hb).more hb.size) hx hxl (by rw [← hxl]; exact hc) hks)
  rw [hxl] at HRT ⊢
  have hts : (tagS key t v b s r x).size = 16 := by unfold tagS; rw [strOfNums_size, up_len, tagN_len]
  obtain ⟨T, hT⟩ : ∃ T, T = tagS key t v b s r x := ⟨_, rfl⟩
  rw [← hT] at HTG hg hts
  have hbe : (textN g == textN T) = false := by rw [beq_eq_false_iff_ne]; intro h; exact hg (textN_inj h)
  have HSM := Lib.hid (fun (W : World) A0 A1 c0 c1 h0 h1 (_ : g.size ≤ c0) (_ : 16 ≤ c1) => same_texts g T hts W A0 A1 c0 c1 h0 h1)
  rw [hbe] at HSM
  have HVG := Lib.hid (conv_text g hgm)
  have HVT := Lib.hid (conv_text T (by rw [hts]; unfold maxLen; decide))
  rw [hts] at HVT
  clear hi hx he hks hxl hl hw ht hs hr hc hT hbe hg hts hgm
  obtain ⟨W1, hW1⟩ : ∃ W, W = w.alloc (.cells #[.int .i64 t, .int .i64 v, .int .i64 b, .int .i64 s, .int .i64 r, .string g] 23) := ⟨_, rfl⟩
  obtain ⟨q, hq⟩ : ∃ q, q = w.heap.size := ⟨_, rfl⟩
  have hrow : W1.heap[q]? = some (.cells #[.int .i64 t, .int .i64 v, .int .i64 b, .int .i64 s, .int .i64 r, .string g] 23 (0, 0)) := by rw [hW1, hq]; exact heap_alloc_new _ _
  have hbW : Below w.heap.size w W1 := by rw [hW1]; exact (Below.refl _ _).alloc (Nat.le_refl _) _
  have hql : q < W1.heap.size := lt_row hrow
  have HSS := Lib.hid (fun (W : World) (hb : Below W1.heap.size W1 W) => headCells hrow hql hb)
  obtain ⟨x0, x1, x2, x3, x4, x5⟩ := HSS.out _ (Below.refl _ _)
  have HBW := Lib.hid hbW
  clear hrow hbW hql
  go_enter Tryd.func11, Tryd.ntmps11
  go_wp2_with fail
  rw [← hW1, ← hq]
  clear hW1 hq
  go_wp2_with (go_at_call 13; with_reducible (refine Calls.mono (HRT.out _) ?_); rintro e w2 ⟨rfl, hb2⟩; have hbs := hb2; obtain ⟨y0, y1, y2, y3, y4, y5⟩ := HSS.out _ hbs)
  clear x0 x1 x2 x3 x4 x5 y0 y1 y2 y3 y4 y5
  obtain ⟨W2, hW2⟩ : ∃ W, W = w2 := ⟨_, rfl⟩
  rw [← hW2] at hbs ⊢
  clear hW2
  have hbs := hbs.drew
  refine wp_region_held_drew (S := (fun W => W.cell? ⟨q, 0, none⟩ = some (.int .i64 t) ∧ W.cell? ⟨q, 1, none⟩ = some (.int .i64 v) ∧ W.cell? ⟨q, 2, none⟩ = some (.int .i64 b) ∧ W.cell? ⟨q, 3, none⟩ = some (.int .i64 s) ∧ W.cell? ⟨q, 4, none⟩ = some (.int .i64 r) ∧ W.cell? ⟨q, 5, none⟩ = some (.string g))) (by kernel_rfl) (HSS.out _ hbs) (fun hHeld => ?_)
  refine wpAnyH_take (i := 0) (oi := _) (v := ?_) rfl (by kernel_rfl) (by kernel_rfl) (by kernel_rfl) (fun _ _ _ h => h) (Or.inl ⟨by rfl, ?_⟩) (by assumption) ?_
  rotate_left 1
  · intro w hSw; (try dsimp only at hSw); (try obtain ⟨m0, m1, m2, m3, m4, m5⟩ := hSw); first | (go_simp; done) | (go_simp; with_reducible rfl)
  change wpAnyH _ _ _ _ _ _ _ (Act.put _ (some 16) _) _
  (try simp only [Act.put, List.setIfInBounds_toArray, List.set_cons_zero, List.set_cons_succ])
  refine wpAnyH_take (i := 1) (oi := _) (v := ?_) rfl (by kernel_rfl) (by kernel_rfl) (by kernel_rfl) (fun _ _ _ h => h) (Or.inl ⟨by rfl, ?_⟩) (by assumption) ?_
  rotate_left 1
  · intro w hSw; (try dsimp only at hSw); (try obtain ⟨m0, m1, m2, m3, m4, m5⟩ := hSw); first | (go_simp; done) | (go_simp; with_reducible rfl)
  change wpAnyH _ _ _ _ _ _ _ (Act.put _ (some 17) _) _
  (try simp only [Act.put, List.setIfInBounds_toArray, List.set_cons_zero, List.set_cons_succ])
  refine wpAnyH_take (i := 3) (oi := _) (v := ?_) rfl (by kernel_rfl) (by kernel_rfl) (by kernel_rfl) (fun _ _ _ h => h) (Or.inl ⟨by rfl, ?_⟩) (by assumption) ?_
  rotate_left 1
  · intro w hSw; (try dsimp only at hSw); (try obtain ⟨m0, m1, m2, m3, m4, m5⟩ := hSw); first | (go_simp; done) | (go_simp; with_reducible rfl)
  change wpAnyH _ _ _ _ _ _ _ (Act.put _ (some 19) _) _
  (try simp only [Act.put, List.setIfInBounds_toArray, List.set_cons_zero, List.set_cons_succ])
  refine wpAnyH_take (i := 4) (oi := _) (v := ?_) rfl (by kernel_rfl) (by kernel_rfl) (by kernel_rfl) (fun _ _ _ h => h) (Or.inl ⟨by rfl, ?_⟩) (by assumption) ?_
  rotate_left 1
  · intro w hSw; (try dsimp only at hSw); (try obtain ⟨m0, m1, m2, m3, m4, m5⟩ := hSw); first | (go_simp; done) | (go_simp; with_reducible rfl)
  change wpAnyH _ _ _ _ _ _ _ (Act.put _ (some 20) _) _
  (try simp only [Act.put, List.setIfInBounds_toArray, List.set_cons_zero, List.set_cons_succ])
  refine wpAnyH_take (i := 5) (oi := _) (v := ?_) rfl (by kernel_rfl) (by kernel_rfl) (by kernel_rfl) (fun _ _ _ h => h) (Or.inl ⟨by rfl, ?_⟩) (by assumption) ?_
  rotate_left 1
  · intro w hSw; (try dsimp only at hSw); (try obtain ⟨m0, m1, m2, m3, m4, m5⟩ := hSw); first | (go_simp; done) | (go_simp; with_reducible rfl)
  change wpAnyH _ _ _ _ _ _ _ (Act.put _ (some 21) _) _
  (try simp only [Act.put, List.setIfInBounds_toArray, List.set_cons_zero, List.set_cons_succ])
  refine wpAnyH_ready (rs := [2, 6]) (by kernel_rfl) (by simp) ?_
  refine AllReadyH.cons (o := _) rfl (fun K hK => ?_) (AllReadyH.cons (o := _) rfl (fun K hK => ?_) (AllReadyH.nil))
  · obtain ⟨cG, WG, hcG, hccG, hbG, hiG⟩ := HVG.out W2.drew
    go_simp
    have hbs := chain hbs hbG
    refine hK.out _ _ (HSS.out _ hbs) (fun hHeld2 => ?_)
    (try simp only [Act.put, List.setIfInBounds_toArray, List.set_cons_zero, List.set_cons_succ])
    clear hK K
    replace hiG : Ints WG WG.heap.size .u8 (some ⟨W2.heap.size, 0, none⟩) (up (textN g)) := hiG
    refine wpAnyH_ready (rs := [6]) (by kernel_rfl) (by simp) ?_
    refine AllReadyH.cons (o := _) rfl (fun K hK => ?_) (AllReadyH.nil)
    go_simp
    (go_at_call 15; with_reducible (refine Calls.mono (HTG.out _ (HBW.out.trans (hbs.mono HBW.out.size))) ?_); rintro e wt ⟨rfl, hbt⟩; have hbs := chain hbs hbt)
    refine hK.out _ _ (HSS.out _ hbs) (fun hHeld6 => ?_)
    (try simp only [Act.put, List.setIfInBounds_toArray, List.set_cons_zero, List.set_cons_succ])
    clear hK K
    refine wpAnyH_ready (rs := [7]) (by kernel_rfl) (by simp) ?_
    refine AllReadyH.cons (o := _) rfl (fun K hK => ?_) (AllReadyH.nil)
    obtain ⟨cT, WT, hcT, hccT, hbT, hiT⟩ := HVT.out wt
    go_simp
    have hbs := chain hbs hbT
    refine hK.out _ _ (HSS.out _ hbs) (fun hHeld7 => ?_)
    (try simp only [Act.put, List.setIfInBounds_toArray, List.set_cons_zero, List.set_cons_succ])
    clear hK K
    refine wpAnyH_ready (rs := [8]) (by kernel_rfl) (by simp) ?_
    refine AllReadyH.cons (o := _) rfl (fun K hK => ?_) (AllReadyH.nil)
    go_simp
    (go_at_call 19; with_reducible (refine Calls.mono (HSM.out _ _ _ _ _ ((hiG.below (hbt.trans (hbT.mono hbt.size))).more (hbt.trans (hbT.mono hbt.size)).size) hiT hccG hccT) ?_); rintro e wl ⟨rfl, hbl⟩; have hbs := chain hbs hbl)
    refine hK.out _ _ (HSS.out _ hbs) (fun hHeld8 => ?_)
    (try simp only [Act.put, List.setIfInBounds_toArray, List.set_cons_zero, List.set_cons_succ])
    clear hK K
    refine wpAnyH_take (i := 9) (oi := _) (v := ?_) rfl (by kernel_rfl) (by kernel_rfl) (by kernel_rfl) (fun _ _ _ h => h) (Or.inl ⟨by rfl, ?_⟩) (by assumption) ?_
    rotate_left 1
    · intro w hSw; (try dsimp only at hSw); (try obtain ⟨m0, m1, m2, m3, m4, m5⟩ := hSw); first | (go_simp; done) | (go_simp; with_reducible rfl)
    change wpAnyH _ _ _ _ _ _ _ (Act.put _ (some 25) _) _
    (try simp only [Act.put, List.setIfInBounds_toArray, List.set_cons_zero, List.set_cons_succ])
    refine wpAnyH_done (by kernel_rfl) ?_ _
    go_wp2
    go_ret2
    exact ⟨rfl, HBW.out.trans (hbs.mono HBW.out.size)⟩
  · go_simp
    (go_at_call 15; with_reducible (refine Calls.mono (HTG.out _ (HBW.out.trans (hbs.mono HBW.out.size))) ?_); rintro e wt ⟨rfl, hbt⟩; have hbs := chain hbs hbt)
    refine hK.out _ _ (HSS.out _ hbs) (fun hHeld6 => ?_)
    (try simp only [Act.put, List.setIfInBounds_toArray, List.set_cons_zero, List.set_cons_succ])
    clear hK K
    refine wpAnyH_ready (rs := [2, 7]) (by kernel_rfl) (by simp) ?_
    refine AllReadyH.cons (o := _) rfl (fun K hK => ?_) (AllReadyH.cons (o := _) rfl (fun K hK => ?_) (AllReadyH.nil))
    · obtain ⟨cG, WG, hcG, hccG, hbG, hiG⟩ := HVG.out wt
      go_simp
      have hbs := chain hbs hbG
      refine hK.out _ _ (HSS.out _ hbs) (fun hHeld2 => ?_)
      (try simp only [Act.put, List.setIfInBounds_toArray, List.set_cons_zero, List.set_cons_succ])
      clear hK K
      refine wpAnyH_ready (rs := [7]) (by kernel_rfl) (by simp) ?_
      refine AllReadyH.cons (o := _) rfl (fun K hK => ?_) (AllReadyH.nil)
      obtain ⟨cT, WT, hcT, hccT, hbT, hiT⟩ := HVT.out WG
      go_simp
      have hbs := chain hbs hbT
      refine hK.out _ _ (HSS.out _ hbs) (fun hHeld7 => ?_)
      (try simp only [Act.put, List.setIfInBounds_toArray, List.set_cons_zero, List.set_cons_succ])
      clear hK K
      refine wpAnyH_ready (rs := [8]) (by kernel_rfl) (by simp) ?_
      refine AllReadyH.cons (o := _) rfl (fun K hK => ?_) (AllReadyH.nil)
      go_simp
      (go_at_call 19; with_reducible (refine Calls.mono (HSM.out _ _ _ _ _ ((hiG.below hbT).more hbT.size) hiT hccG hccT) ?_); rintro e wl ⟨rfl, hbl⟩; have hbs := chain hbs hbl)
      refine hK.out _ _ (HSS.out _ hbs) (fun hHeld8 => ?_)
      (try simp only [Act.put, List.setIfInBounds_toArray, List.set_cons_zero, List.set_cons_succ])
      clear hK K
      refine wpAnyH_take (i := 9) (oi := _) (v := ?_) rfl (by kernel_rfl) (by kernel_rfl) (by kernel_rfl) (fun _ _ _ h => h) (Or.inl ⟨by rfl, ?_⟩) (by assumption) ?_
      rotate_left 1
      · intro w hSw; (try dsimp only at hSw); (try obtain ⟨m0, m1, m2, m3, m4, m5⟩ := hSw); first | (go_simp; done) | (go_simp; with_reducible rfl)
      change wpAnyH _ _ _ _ _ _ _ (Act.put _ (some 25) _) _
      (try simp only [Act.put, List.setIfInBounds_toArray, List.set_cons_zero, List.set_cons_succ])
      refine wpAnyH_done (by kernel_rfl) ?_ _
      go_wp2
      go_ret2
      exact ⟨rfl, HBW.out.trans (hbs.mono HBW.out.size)⟩
    · obtain ⟨cT, WT, hcT, hccT, hbT, hiT⟩ := HVT.out wt
      go_simp
      have hbs := chain hbs hbT
      refine hK.out _ _ (HSS.out _ hbs) (fun hHeld7 => ?_)
      (try simp only [Act.put, List.setIfInBounds_toArray, List.set_cons_zero, List.set_cons_succ])
      clear hK K
      refine wpAnyH_ready (rs := [2]) (by kernel_rfl) (by simp) ?_
      refine AllReadyH.cons (o := _) rfl (fun K hK => ?_) (AllReadyH.nil)
      obtain ⟨cG, WG, hcG, hccG, hbG, hiG⟩ := HVG.out WT
      go_simp
      have hbs := chain hbs hbG
      refine hK.out _ _ (HSS.out _ hbs) (fun hHeld2 => ?_)
      (try simp only [Act.put, List.setIfInBounds_toArray, List.set_cons_zero, List.set_cons_succ])
      clear hK K
      refine wpAnyH_ready (rs := [8]) (by kernel_rfl) (by simp) ?_
      refine AllReadyH.cons (o := _) rfl (fun K hK => ?_) (AllReadyH.nil)
      go_simp
      (go_at_call 19; with_reducible (refine Calls.mono (HSM.out _ _ _ _ _ hiG ((hiT.below hbG).more hbG.size) hccG hccT) ?_); rintro e wl ⟨rfl, hbl⟩; have hbs := chain hbs hbl)
      refine hK.out _ _ (HSS.out _ hbs) (fun hHeld8 => ?_)
      (try simp only [Act.put, List.setIfInBounds_toArray, List.set_cons_zero, List.set_cons_succ])
      clear hK K
      refine wpAnyH_take (i := 9) (oi := _) (v := ?_) rfl (by kernel_rfl) (by kernel_rfl) (by kernel_rfl) (fun _ _ _ h => h) (Or.inl ⟨by rfl, ?_⟩) (by assumption) ?_
      rotate_left 1
      · intro w hSw; (try dsimp only at hSw); (try obtain ⟨m0, m1, m2, m3, m4, m5⟩ := hSw); first | (go_simp; done) | (go_simp; with_reducible rfl)
      change wpAnyH _ _ _ _ _ _ _ (Act.put _ (some 25) _) _
      (try simp only [Act.put, List.setIfInBounds_toArray, List.set_cons_zero, List.set_cons_succ])
      refine wpAnyH_done (by kernel_rfl) ?_ _
      go_wp2
      go_ret2
      exact ⟨rfl, HBW.out.trans (hbs.mono HBW.out.size)⟩

theorem seal_spec {w0 : World} (hl : Laid w0) : SealSpec w0 where
  sealGo := fun key g t v b s r A c x w hw ht _ _ hs hr hi hx hc he => seal_go hl key g t v b s r A c x w hw ht hs hr hi hx hc he
  sealNo := fun key g t v b s r A c x w _ _ _ _ _ _ _ _ _ _ _ he => (seal_no key g t v b s r A c x w he).mono fun _ _ h => ⟨none, 0, h⟩
  openGo := fun key t v b s r A c x w hw ht _ _ hs hr hi hx hc he => open_go hl key (tagS key t v b s r x) t v b s r A c x w hw ht hs hr hi hx hc he rfl
  openTag := fun key g t v b s r A c x w hw ht _ _ hs hr hi hx hc hgm he hg => (open_tag hl key g t v b s r A c x w hw ht hs hr hi hx hc he hgm hg).mono fun _ _ h => ⟨none, 0, h⟩
  openNo := fun key g t v b s r A c x w _ _ _ _ _ _ _ _ _ _ _ _ he => (open_no key g t v b s r A c x w he).mono fun _ _ h => ⟨none, 0, h⟩

end Go.Proofs.YtanpfodmmeagaaaDoor
