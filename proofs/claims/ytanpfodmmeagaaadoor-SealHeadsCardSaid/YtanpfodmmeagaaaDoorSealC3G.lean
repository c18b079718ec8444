/-
  The program's seal: a sector enciphered; its tag. The program's seal: a sector's tag.
-/
import Derived.Test.YtanpfodmmeagaaaDoorSealC1G
import Derived.Test.YtanpfodmmeagaaaDoorStrCodeG
import Derived.Test.YtanpfodmmeagaaaDoorMacAskG
namespace Go.Proofs.YtanpfodmmeagaaaDoor
open Go.RowKit

theorem conv_key (key : ByteArray) (hks : key.size = 16) (W : World) : ∃ cv WB, Sem.run Tryd.prog (convert 9 24 (.string key)) W = .ok (.slice (some ⟨W.heap.size, 0, none⟩) 16 cv) WB ∧ 16 ≤ cv ∧ Below W.heap.size W WB ∧ Ints WB WB.heap.size .u8 (some ⟨W.heap.size, 0, none⟩) (up (textN key)) := by
  have hrt := room_of_text W 5 key (by rw [hks]; unfold maxLen; decide)
  have hrun := Lib.run_convert_string_bytes (P := Tryd.prog) W 9 24 5 key Tryd.underlying9 Tryd.underlying24 Tryd.underlying5
  have hge := grownCap_ge W key.size 0 5
  obtain ⟨A2, c2, h2, _, hi2, _⟩ := hrt.1.form
  injection h2 with h2 _ _
  rw [hks] at hrun hge
  refine ⟨_, _, hrun, hge, hrt.2, ?_⟩
  rw [← h2] at hi2
  exact hi2

set_option maxHeartbeats 1600000 in
set_option maxRecDepth 20000 in
/-- 'cipher'. -/
theorem cipher_any {w0 : World} (hl : Laid w0) (key g : ByteArray) (t v b s r : Int) (A : Option Addr) (c : Nat) (x : List Nat) (w : World) (hw0 : Below w0.heap.size w0 w) (ht : I64 t) (hs : I64 s) (hr : I64 r) (hi : Ints w w.heap.size .u8 A (up x)) (hx : ∀ y ∈ x, y < 256) (hxl : x.length = 64) (hc : 64 ≤ c) (hks : key.size = 16) :
    Calls Tryd.prog 14 #[.string key, .agg #[.int .i64 t, .int .i64 v, .int .i64 b, .int .i64 s, .int .i64 r, .string g], .slice A 64 c] w fun e w' =>
      ∃ A' c', e = .returned (.tuple #[.slice A' 64 c', .int .i64 0]) ∧ 64 ≤ c' ∧ Ints w' w'.heap.size .u8 A' (up (sealN (textN key) t s r x)) ∧ Below w.heap.size w w' := by
  have hkl : (textN key).length = 16 := by rw [textN_len, hks]
  have HD : Hid (∀ (W : World) (A0 : Option Addr) (c0 : Nat), Below w.heap.size w W → Ints W W.heap.size .u8 A0 (up (textN key)) → 16 ≤ c0 →
      Calls Tryd.prog 20 #[.slice A0 16 c0, .string ⟨#[99, 105, 112, 104, 101, 114]⟩, .int .i64 t] W fun e w' => ∃ A c, e = .returned (.slice A 16 c) ∧ 16 ≤ c ∧ Ints w' w'.heap.size .u8 A (up (deriveN (textN key) cipherP t)) ∧ Below W.heap.size W w') := fun W A0 c0 hb h0 hc0 => by
    have h := mac_derive hl A0 c0 (textN key) ⟨#[99, 105, 112, 104, 101, 114]⟩ t W (hw0.trans (hb.mono hw0.size)) h0 (nil_of_ints h0 (by rw [up_len, hkl]; decide)) (textN_lt key) (by rw [hkl]; exact hc0) (by rw [hkl]; decide) (by decide) ht.1 ht.2
    rw [hkl] at h
    exact h
  have HC : Hid (∀ (W : World), Below w.heap.size w W → Calls Tryd.prog 22 #[.int .i64 s, .int .i64 r] W fun e w' => ∃ A c, e = .returned (.slice A 16 c) ∧ 16 ≤ c ∧ Ints w' w'.heap.size .u8 A (up (counterOf s r)) ∧ Below W.heap.size W w') := fun W hb =>
    ((str_spec w0).counter s r W (hw0.trans (hb.mono hw0.size)) hs.1 hs.2 hr.1 hr.2).mono fun e w' ⟨g, o, c, q1, q2, _, q4, _, q6⟩ => ⟨some ⟨g, o, none⟩, c, q1, q2, q4, q6⟩
  have HAP : Hid (∀ (W : World) (A0 A1 : Option Addr) (c0 c1 : Nat), Below w.heap.size w W → Ints W W.heap.size .u8 A0 (up (deriveN (textN key) cipherP t)) → Ints W W.heap.size .u8 A1 (up (counterOf s r)) → 16 ≤ c0 → 16 ≤ c1 →
      Calls Tryd.prog 21 #[.slice A0 16 c0, .slice A1 16 c1, .slice A 64 c] W fun e w' => ∃ A' c', e = .returned (.tuple #[.slice A' 64 c', .int .i64 0]) ∧ 64 ≤ c' ∧ Ints w' w'.heap.size .u8 A' (up (sealN (textN key) t s r x)) ∧ Below W.heap.size W w') := fun W A0 A1 c0 c1 hb h0 h1 hc0 hc1 => by
    have h := (str_spec w0).apply A0 A1 A c0 c1 c (deriveN (textN key) cipherP t) (counterOf s r) x W (hw0.trans (hb.mono hw0.size)) h0 h1 ((hi.below hb).more hb.size) (nil_of_ints hi (by rw [up_len, hxl]; decide)) (deriveN_lt _ _ _) (counterOf_ok s r).lt hx (deriveN_len _ _ _) (counterOf_ok s r).len hc0 hc1 (by rw [hxl]; exact hc) (by rw [hxl]; decide)
    rw [hxl] at h
    exact h.mono fun e w' ⟨A', c', q1, q2, _, q4, q5⟩ => ⟨A', c', q1, q2, q4, q5⟩
  obtain ⟨W1, hW1⟩ : ∃ W, W = w.alloc (.cells #[.int .i64 t, .int .i64 v, .int .i64 b, .int .i64 s, .int .i64 r, .string g] 23) := ⟨_, rfl⟩
  obtain ⟨q, hq⟩ : ∃ q, q = w.heap.size := ⟨_, rfl⟩
  have hrow : W1.heap[q]? = some (.cells #[.int .i64 t, .int .i64 v, .int .i64 b, .int .i64 s, .int .i64 r, .string g] 23 (0, 0)) := by rw [hW1, hq]; exact heap_alloc_new _ _
  have hbW : Below w.heap.size w W1 := by rw [hW1]; exact (Below.refl _ _).alloc (Nat.le_refl _) _
  have hql : q < W1.heap.size := lt_row hrow
  have HSS := Lib.hid (fun (W : World) (hb : Below W1.heap.size W1 W) => headCells hrow hql hb)
  obtain ⟨cv, WB, hcv, hcc, hbB, hiB⟩ := conv_key key hks W1
  obtain ⟨y0, y1, y2, y3, y4, y5⟩ := HSS.out _ hbB
  have HBB := Lib.hid hbB
  have HIB := Lib.hid hiB
  have HBW := Lib.hid hbW
  have HCC := Lib.hid hcc
  clear hi hx hbW hrow hkl hbB hiB hl hw0 ht hs hr hxl hc hks hcc hql
  go_enter Tryd.func14, Tryd.ntmps14
  go_wp2_with fail
  rw [← hW1, ← hq]
  clear hW1 hq
  go_simp
  go_wp2_with (first
    | (go_at_call 20; with_reducible (refine Calls.mono (HD.out _ _ _ (HBW.out.trans (HBB.out.mono HBW.out.size)) HIB.out HCC.out) ?_); rintro e w3 ⟨A3, c3, rfl, hc3, hi3, hb3⟩; have hbs := chain HBB.out hb3; obtain ⟨z0, z1, z2, z3, z4, z5⟩ := HSS.out _ hbs)
    | (go_at_call 22; with_reducible (refine Calls.mono (HC.out _ (HBW.out.trans (hbs.mono HBW.out.size))) ?_); rintro e w4 ⟨A4, c4, rfl, hc4, hi4, hb4⟩; have hi34 := (hi3.below hb4).more hb4.size; have hbs4 := chain hbs hb4)
    | (go_at_call 21; with_reducible (refine Calls.mono (HAP.out _ _ _ _ _ (HBW.out.trans (hbs4.mono HBW.out.size)) hi34 hi4 hc3 hc4) ?_); rintro e w5 ⟨A5, c5, rfl, hc5, hi5, hb5⟩; have hbs5 := chain hbs4 hb5))
  go_ret2
  exact ⟨A5, c5, rfl, hc5, hi5, HBW.out.trans (hbs5.mono HBW.out.size)⟩

end Go.Proofs.YtanpfodmmeagaaaDoor

namespace Go.Proofs.YtanpfodmmeagaaaDoor
open Go.RowKit

set_option maxHeartbeats 1600000 in
set_option maxRecDepth 100000 in
/-- 'tag'. -/
theorem tag_any {w0 : World} (hl : Laid w0) (key g : ByteArray) (t v b s r : Int) (A : Option Addr) (c : Nat) (x : List Nat) (w : World) (hw0 : Below w0.heap.size w0 w) (ht : I64 t) (hi : Ints w w.heap.size .u8 A (up x)) (hx : ∀ y ∈ x, y < 256) (hxl : x.length = 64) (hc : 64 ≤ c) (hks : key.size = 16) :
    Calls Tryd.prog 15 #[.string key, .agg #[.int .i64 t, .int .i64 v, .int .i64 b, .int .i64 s, .int .i64 r, .string g], .slice A 64 c] w fun e w' =>
      e = .returned (.string (tagS key t v b s r x)) ∧ Below w.heap.size w w' := by
  have hkl : (textN key).length = 16 := by rw [textN_len, hks]
  have hdl := deriveN_len (textN key) tagP t
  have HD : Hid (∀ (W : World) (A0 : Option Addr) (c0 : Nat), Below w.heap.size w W → Ints W W.heap.size .u8 A0 (up (textN key)) → 16 ≤ c0 →
      Calls Tryd.prog 20 #[.slice A0 16 c0, .string ⟨#[116, 97, 103]⟩, .int .i64 t] W fun e w' => ∃ A c, e = .returned (.slice A 16 c) ∧ 16 ≤ c ∧ Ints w' w'.heap.size .u8 A (up (deriveN (textN key) tagP t)) ∧ Below W.heap.size W w') := fun W A0 c0 hb h0 hc0 => by
    have h := mac_derive hl A0 c0 (textN key) ⟨#[116, 97, 103]⟩ t W (hw0.trans (hb.mono hw0.size)) h0 (nil_of_ints h0 (by rw [up_len, hkl]; decide)) (textN_lt key) (by rw [hkl]; exact hc0) (by rw [hkl]; decide) (by decide) ht.1 ht.2
    rw [hkl] at h
    exact h
  have HPL : Hid (∀ (W : World), Calls Tryd.prog 24 #[.agg #[.int .i64 t, .int .i64 v, .int .i64 b, .int .i64 s, .int .i64 r, .string g]] W fun e w' => ∃ A c, e = .returned (.slice A 40 c) ∧ 40 ≤ c ∧ Ints w' w'.heap.size .u8 A (up (headN t v b s r)) ∧ Below W.heap.size W w') := fun W => place_any g t v b s r W
  have HCO : Hid (∀ (W : World) (A0 A1 : Option Addr) (c0 c1 : Nat) (ty : TypeId), Below w.heap.size w W → Ints W W.heap.size .u8 A0 (up (deriveN (textN key) tagP t)) → Ints W W.heap.size .u8 A1 (up (headN t v b s r)) → 16 ≤ c0 → 40 ≤ c1 →
      Calls Tryd.prog 23 #[.slice A0 16 c0, .slice (some ⟨W.heap.size, 0, none⟩) 2 2] (W.alloc (.cells #[.slice A1 40 c1, .slice A 64 c] ty)) fun e w' => e = .returned (.agg (BA (macN (deriveN (textN key) tagP t) (headN t v b s r ++ x)))) ∧ Below W.heap.size W w') := fun W A0 A1 c0 c1 ty hb h0 h1 hc0 hc1 => by
    have hbA : Below W.heap.size W (W.alloc (.cells #[.slice A1 40 c1, .slice A 64 c] ty)) := (Below.refl _ _).alloc (Nat.le_refl _) _
    have hX := fun (A : Option Addr) (zs : List Int) (h : Ints W W.heap.size .u8 A zs) => (h.below hbA).more hbA.size
    have hcat : cat [⟨A1, c1, headN t v b s r⟩, ⟨A, c, x⟩] = headN t v b s r ++ x := by simp [cat]
    have h := mac_code hl A0 c0 (deriveN (textN key) tagP t) (some ⟨W.heap.size, 0, none⟩) 2 [⟨A1, c1, headN t v b s r⟩, ⟨A, c, x⟩] (W.alloc (.cells #[.slice A1 40 c1, .slice A 64 c] ty))
      (hw0.trans ((hb.trans (hbA.mono hb.size)).mono hw0.size)) (hX _ _ h0) (nil_of_ints h0 (by rw [up_len, hdl]; decide)) (deriveN_lt _ _ _) (by rw [hdl]; exact hc0) (by rw [hdl]; decide)
      (parts_of_row (heap_alloc_new _ _) (by simp [headN_len, hxl]) (fun p hp => by
        simp only [List.mem_cons, List.not_mem_nil, or_false] at hp
        rcases hp with rfl | rfl
        · exact ⟨hX _ _ h1, nil_of_ints h1 (by rw [up_len, headN_len]; decide), headN_lt _ _ _ _ _, by show (headN t v b s r).length ≤ c1; rw [headN_len]; exact hc1⟩
        · exact ⟨hX _ _ ((hi.below hb).more hb.size), nil_of_ints hi (by rw [up_len, hxl]; decide), hx, by show x.length ≤ c; rw [hxl]; exact hc⟩))
      (by simp) (by simp) (by rw [hcat, List.length_append, headN_len, hxl]; decide)
    rw [hcat, hdl] at h
    exact h.mono fun e w' ⟨q1, q2⟩ => ⟨q1, hbA.trans (q2.mono hbA.size)⟩
  have htk : (up (macN (deriveN (textN key) tagP t) (headN t v b s r ++ x))).take 16 = up (tagN (textN key) t v b s r x) := by simp [up, tagN]
  have hlm : (macN (deriveN (textN key) tagP t) (headN t v b s r ++ x)).length = 32 := macN_len _ _
  have HTX : Hid (∀ (W : World) (p : Nat), W.heap[p]? = some (.cells (BA (macN (deriveN (textN key) tagP t) (headN t v b s r ++ x))) 41 (0, 0)) → (convert 24 9 (.slice (some ⟨p, 0, none⟩) 16 32)).run Tryd.prog W = .ok (.string (tagS key t v b s r x)) W) := fun W p hp => by
    have h16 := (ints_of_BA (B := W.heap.size) hp (lt_of_row hp)).take 16
    rw [htk] at h16
    exact h16.textAs Tryd.underlying24 Tryd.underlying5 Tryd.underlying9 (by rw [up_len, tagN_len]) rfl 32
  have hu := Tryd.underlying41
  have hz := (zero_of_info (P := Tryd.prog) (t := 41) (v := .agg zero32) (n := 32) (by kernel_rfl)).1
  obtain ⟨X, hX⟩ : ∃ X, X = macN (deriveN (textN key) tagP t) (headN t v b s r ++ x) := ⟨_, rfl⟩
  have him : (Tryd.prog.info? 41).map (·.size) = some (BA X).size := by rw [BA_size, hX, hlm]; kernel_rfl
  have hzm : zero32.size = (BA X).size := by rw [BA_size, hX, hlm]; rfl
  have h1m := BA_one X
  rw [← hX] at HCO HTX
  obtain ⟨T, hT⟩ : ∃ T, T = tagS key t v b s r x := ⟨_, rfl⟩
  rw [← hT] at HTX ⊢
  obtain ⟨Z, hZ⟩ : ∃ Z, Z = zero32 := ⟨_, rfl⟩
  rw [← hZ] at hz hzm
  obtain ⟨W1, hW1⟩ : ∃ W, W = w.alloc (.cells #[.int .i64 t, .int .i64 v, .int .i64 b, .int .i64 s, .int .i64 r, .string g] 23) := ⟨_, rfl⟩
  obtain ⟨q, hq⟩ : ∃ q, q = w.heap.size := ⟨_, rfl⟩
  have hrow : W1.heap[q]? = some (.cells #[.int .i64 t, .int .i64 v, .int .i64 b, .int .i64 s, .int .i64 r, .string g] 23 (0, 0)) := by rw [hW1, hq]; exact heap_alloc_new _ _
  have hbW : Below w.heap.size w W1 := by rw [hW1]; exact (Below.refl _ _).alloc (Nat.le_refl _) _
  have hql : q < W1.heap.size := lt_row hrow
  have HSS := Lib.hid (fun (W : World) (hb : Below W1.heap.size W1 W) => headCells hrow hql hb)
  obtain ⟨cv, WB, hcv, hcc, hbB, hiB⟩ := conv_key key hks W1
  obtain ⟨y0, y1, y2, y3, y4, y5⟩ := HSS.out _ hbB
  have HBB := Lib.hid hbB
  have HIB := Lib.hid hiB
  have HBW := Lib.hid hbW
  have HCC := Lib.hid hcc
  clear hi hx hbW hrow hkl hbB hiB hl hw0 ht hxl hc hks hcc hql htk hlm hX hT hZ hdl
  go_enter Tryd.func15, Tryd.ntmps15
  go_wp2_with fail
  rw [← hW1, ← hq]
  clear hW1 hq
  go_simp
  go_wp2_with (first
    | (go_at_call 20; with_reducible (refine Calls.mono (HD.out _ _ _ (HBW.out.trans (HBB.out.mono HBW.out.size)) HIB.out HCC.out) ?_); rintro e w3 ⟨A3, c3, rfl, hc3, hi3, hb3⟩; have hbs := chain HBB.out hb3; obtain ⟨z0, z1, z2, z3, z4, z5⟩ := HSS.out _ hbs)
    | (go_at_call 24; with_reducible (refine Calls.mono (HPL.out _) ?_); rintro e w4 ⟨A4, c4, rfl, hc4, hi4, hb4⟩; have hi34 := (hi3.below hb4).more hb4.size; have hbs4 := chain hbs hb4; have hbw4 := HBW.out.trans (hbs4.mono HBW.out.size))
    | (go_at_call 23; with_reducible (refine Calls.mono (HCO.out _ _ _ _ _ _ hbw4 hi34 hi4 hc3 hc4) ?_); rintro e w5 ⟨rfl, hb5⟩; have hbw5 := hbw4.trans (hb5.mono hbw4.size))
    | (refine wpList_store_fresh rfl 41 _ _ rfl w5.heap.size (BA X) rfl rfl 41 Z (heap_alloc_new _ _) him hzm h1m (hbw5.alloc hbw5.size _) hbw5.size ?_; intro W hW hbW hkW hsW; clear hkW; simp only [World.size_alloc] at hsW; have hcx := HTX.out _ _ hW))
  go_ret
  exact ⟨rfl, hbW⟩

end Go.Proofs.YtanpfodmmeagaaaDoor
