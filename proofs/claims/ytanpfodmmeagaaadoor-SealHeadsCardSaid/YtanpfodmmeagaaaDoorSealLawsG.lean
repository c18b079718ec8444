/-
  Laws of layer 7 as walks, from what is asked of the layer's calls. Laws of layer 7 as walks, where a head's tag is set.
-/
import Derived.Test.YtanpfodmmeagaaaDoorSealOwnG
namespace Go.Proofs.YtanpfodmmeagaaaDoor
open Go.RowKit

theorem conv_up (l : List Nat) (W : World) (A : Option Addr) (c : Nat) (h : Ints W W.heap.size .u8 A (up l)) : (convert 24 9 (.slice A l.length c)).run Tryd.prog W = .ok (.string (strOfNums (up l))) W :=
  h.textAs Tryd.underlying24 Tryd.underlying5 Tryd.underlying9 (up_len l) rfl c
theorem heap_sixth {w : World} {q : Nat} {a0 a1 a2 a3 a4 a5 : Value} {ty : TypeId} {fr : Nat × Nat} (v : Value) (h : w.heap[q]? = some (.cells #[a0, a1, a2, a3, a4, a5] ty fr)) : (w.setCell ⟨q, 5, none⟩ v).heap[q]? = some (.cells #[a0, a1, a2, a3, a4, v] ty fr) := by
  simp [World.setCell, Array.getElem?_modify, h]

set_option maxHeartbeats 1600000 in
set_option maxRecDepth 20000 in
/-- SealSeals. -/
theorem sealSeals_go (key g : ByteArray) (t v b s r : Int) (A : Option Addr) (c : Nat) (x : List Nat) (w : World) (HS : SealSpec w) (HR : RefSpec) (ht : I64 t) (hv : I64 v) (hb : I64 b) (hs : I64 s) (hr : I64 r) (hi : Ints w w.heap.size .u8 A (up x)) (hx : ∀ y ∈ x, y < 256) (hc : x.length ≤ c) (hm : x.length ≤ 140737488355328) (hk : key.size ≤ maxLen) :
    Calls Tryd.prog 3 #[.string key, .agg #[.int .i64 t, .int .i64 v, .int .i64 b, .int .i64 s, .int .i64 r, .string g], .slice A x.length c] w fun e w' => e = .returned (.bool true) ∧ Below w.heap.size w w' := by
  have HA := Lib.hid (sealAwake HS)
  have H1 := Lib.hid (fun (W : World) (hw : Below w.heap.size w W) => sealAny HS key g t v b s r A c x W hw ht hv hb hs hr ((hi.below hw).more hw.size) hx hc hm hk)
  have H2 := Lib.hid (fun (W : World) (hw : Below w.heap.size w W) => refSealAny HR key g t v b s r A c x W ((hi.below hw).more hw.size) hx)
  have HCV := Lib.hid (conv_up (sealR key t v b s r x).2.1)
  obtain ⟨y, hy⟩ : ∃ y, y = (sealR key t v b s r x).2.1 := ⟨_, rfl⟩
  obtain ⟨T, hT⟩ : ∃ y, y = (sealR key t v b s r x).2.2 := ⟨_, rfl⟩
  obtain ⟨E, hE⟩ : ∃ y, y = (sealR key t v b s r x).1 := ⟨_, rfl⟩
  simp only [← hy, ← hT, ← hE] at H1 H2 HCV
  obtain ⟨u, hu⟩ : ∃ u, u = strOfNums (up y) := ⟨_, rfl⟩
  simp only [← hu] at HCV
  clear hy hT hE hu HS HR ht hv hb hs hr hi hx hc hm hk
  obtain ⟨W1, hW1⟩ : ∃ W, W = w.alloc (.cells #[.int .i64 t, .int .i64 v, .int .i64 b, .int .i64 s, .int .i64 r, .string g] 23) := ⟨_, rfl⟩
  obtain ⟨q, hq⟩ : ∃ q, q = w.heap.size := ⟨_, rfl⟩
  have hrow : W1.heap[q]? = some (.cells #[.int .i64 t, .int .i64 v, .int .i64 b, .int .i64 s, .int .i64 r, .string g] 23 (0, 0)) := by rw [hW1, hq]; exact heap_alloc_new _ _
  have hbW : Below w.heap.size w W1 := by rw [hW1]; exact (Below.refl _ _).alloc (Nat.le_refl _) _
  have hql : q < W1.heap.size := lt_row hrow
  have hqw : w.heap.size ≤ q := by rw [hq]; exact Nat.le_refl _
  have HSS := Lib.hid (fun (W : World) (hb : Below W1.heap.size W1 W) => headCells hrow hql hb)
  have HBW := Lib.hid hbW
  clear hrow hbW hql hqw
  go_enter Tryd.func3, Tryd.ntmps3
  go_wp2_with fail
  rw [← hW1, ← hq]
  clear hW1 hq
  go_wp2_with (first
    | (go_at_call 8; with_reducible (refine Calls.mono (H1.out _ HBW.out) ?_); rintro e w2 ⟨A2, c2, rfl, _, hi2, hb2⟩; have hbs := hb2; obtain ⟨y0, y1, y2, y3, y4, y5⟩ := HSS.out _ hbs)
    | (go_at_call 9; with_reducible (refine Calls.mono (H2.out _ (HBW.out.trans (hbs.mono HBW.out.size))) ?_); rintro e w3 ⟨A3, c3, rfl, hi3, hb3⟩; have hi2b := (hi2.below hb3).more hb3.size; have hbs := chain hbs hb3)
    | (go_at_call 10; with_reducible (refine Calls.mono (HA.out _ (HBW.out.trans (hbs.mono HBW.out.size))) ?_); rintro e w4 ⟨rfl, hb4⟩; have hbs := chain hbs hb4; have k1 := HCV.out _ _ c2 ((hi2b.below hb4).more hb4.size); have k2 := HCV.out _ _ c3 ((hi3.below hb4).more hb4.size)))
  go_ret
  exact ⟨rfl, (HBW.out.trans (hbs.mono HBW.out.size))⟩

set_option maxHeartbeats 1600000 in
set_option maxRecDepth 20000 in
/-- SealOpens. -/
theorem sealOpens_go (key g : ByteArray) (t v b s r : Int) (A : Option Addr) (c : Nat) (x : List Nat) (w : World) (HS : SealSpec w) (HR : RefSpec) (ht : I64 t) (hv : I64 v) (hb : I64 b) (hs : I64 s) (hr : I64 r) (hi : Ints w w.heap.size .u8 A (up x)) (hx : ∀ y ∈ x, y < 256) (hc : x.length ≤ c) (hm : x.length ≤ 140737488355328) (hk : key.size ≤ maxLen) (hg : g.size ≤ maxLen) :
    Calls Tryd.prog 4 #[.string key, .agg #[.int .i64 t, .int .i64 v, .int .i64 b, .int .i64 s, .int .i64 r, .string g], .slice A x.length c] w fun e w' => e = .returned (.bool true) ∧ Below w.heap.size w w' := by
  have HA := Lib.hid (sealAwake HS)
  have H1 := Lib.hid (fun (W : World) (hw : Below w.heap.size w W) => openAny HS key g t v b s r A c x W hw ht hv hb hs hr ((hi.below hw).more hw.size) hx hc hm hk hg)
  have H2 := Lib.hid (fun (W : World) (hw : Below w.heap.size w W) => refOpenAny HR key g t v b s r A c x W ((hi.below hw).more hw.size) hx)
  have HCV := Lib.hid (conv_up (openR key g t v b s r x).2)
  obtain ⟨y, hy⟩ : ∃ y, y = (openR key g t v b s r x).2 := ⟨_, rfl⟩
  obtain ⟨E, hE⟩ : ∃ y, y = (openR key g t v b s r x).1 := ⟨_, rfl⟩
  simp only [← hy, ← hE] at H1 H2 HCV
  obtain ⟨u, hu⟩ : ∃ u, u = strOfNums (up y) := ⟨_, rfl⟩
  simp only [← hu] at HCV
  clear hy hE hu HS HR ht hv hb hs hr hi hx hc hm hk hg
  obtain ⟨W1, hW1⟩ : ∃ W, W = w.alloc (.cells #[.int .i64 t, .int .i64 v, .int .i64 b, .int .i64 s, .int .i64 r, .string g] 23) := ⟨_, rfl⟩
  obtain ⟨q, hq⟩ : ∃ q, q = w.heap.size := ⟨_, rfl⟩
  have hrow : W1.heap[q]? = some (.cells #[.int .i64 t, .int .i64 v, .int .i64 b, .int .i64 s, .int .i64 r, .string g] 23 (0, 0)) := by rw [hW1, hq]; exact heap_alloc_new _ _
  have hbW : Below w.heap.size w W1 := by rw [hW1]; exact (Below.refl _ _).alloc (Nat.le_refl _) _
  have hql : q < W1.heap.size := lt_row hrow
  have hqw : w.heap.size ≤ q := by rw [hq]; exact Nat.le_refl _
  have HSS := Lib.hid (fun (W : World) (hb : Below W1.heap.size W1 W) => headCells hrow hql hb)
  have HBW := Lib.hid hbW
  clear hrow hbW hql hqw
  go_enter Tryd.func4, Tryd.ntmps4
  go_wp2_with fail
  rw [← hW1, ← hq]
  clear hW1 hq
  go_wp2_with (first
    | (go_at_call 11; with_reducible (refine Calls.mono (H1.out _ HBW.out) ?_); rintro e w2 ⟨A2, c2, rfl, hi2, hb2⟩; have hbs := hb2; obtain ⟨y0, y1, y2, y3, y4, y5⟩ := HSS.out _ hbs)
    | (go_at_call 12; with_reducible (refine Calls.mono (H2.out _ (HBW.out.trans (hbs.mono HBW.out.size))) ?_); rintro e w3 ⟨A3, c3, rfl, hi3, hb3⟩; have hi2b := (hi2.below hb3).more hb3.size; have hbs := chain hbs hb3)
    | (go_at_call 10; with_reducible (refine Calls.mono (HA.out _ (HBW.out.trans (hbs.mono HBW.out.size))) ?_); rintro e w4 ⟨rfl, hb4⟩; have hbs := chain hbs hb4; have k1 := HCV.out _ _ c2 ((hi2b.below hb4).more hb4.size); have k2 := HCV.out _ _ c3 ((hi3.below hb4).more hb4.size)))
  go_ret
  exact ⟨rfl, (HBW.out.trans (hbs.mono HBW.out.size))⟩

end Go.Proofs.YtanpfodmmeagaaaDoor

namespace Go.Proofs.YtanpfodmmeagaaaDoor
open Go.RowKit

theorem ints_store {w : World} {q : Nat} {A : Option Addr} {y : List Nat} {a0 a1 a2 a3 a4 a5 : Value} {t : TypeId} {fr : Nat × Nat} (h : Ints w w.heap.size .u8 A (up y)) (hg : w.heap[q]? = some (.cells #[a0, a1, a2, a3, a4, a5] t fr)) (hl : 6 < y.length) (v : Value) :
    Ints (w.setCell ⟨q, 5, none⟩ v) (w.setCell ⟨q, 5, none⟩ v).heap.size .u8 A (up y) := by
  have e : (w.setCell ⟨q, 5, none⟩ v).heap.size = w.heap.size := by simp
  rw [e]
  exact ints_sixth h hg hl 5 v
theorem row_store {w W : World} {q : Nat} {a0 a1 a2 a3 a4 a5 v : Value} {t : TypeId} {fr : Nat × Nat} (hg : w.heap[q]? = some (.cells #[a0, a1, a2, a3, a4, a5] t fr)) (hb : Below (w.setCell ⟨q, 5, none⟩ v).heap.size (w.setCell ⟨q, 5, none⟩ v) W) :
    W.heap[q]? = some (.cells #[a0, a1, a2, a3, a4, v] t fr) := (hb.block q (lt_row (heap_sixth v hg))).trans (heap_sixth v hg)

set_option maxHeartbeats 1600000 in
set_option maxRecDepth 20000 in
/-- SealBack. -/
theorem sealBack_go (key g : ByteArray) (t v b s r : Int) (A : Option Addr) (c : Nat) (x : List Nat) (w : World) (HS : SealSpec w) (ht : I64 t) (hv : I64 v) (hb : I64 b) (hs : I64 s) (hr : I64 r) (hi : Ints w w.heap.size .u8 A (up x)) (hx : ∀ y ∈ x, y < 256) (hc : x.length ≤ c) (hm : x.length ≤ 140737488355328) (hk : key.size ≤ maxLen) :
    Calls Tryd.prog 5 #[.string key, .agg #[.int .i64 t, .int .i64 v, .int .i64 b, .int .i64 s, .int .i64 r, .string g], .slice A x.length c] w fun e w' => e = .returned (.bool true) ∧ Below w.heap.size w w' := by
  have HA := Lib.hid (sealAwake HS)
  by_cases he : sealE key.size x.length t v b s r = 0
  · obtain ⟨hks, hxl⟩ := sealE_zero he
    have hyl : (sealN (textN key) t s r x).length = 64 := by rw [sealN_len]; exact hxl
    have hyx : sealN (textN key) t s r (sealN (textN key) t s r x) = x := sealN_back _ _ _ _ _
    have hylt := sealN_lt (textN key) t s r hx
    have he' : sealE key.size (sealN (textN key) t s r x).length t v b s r = 0 := by rw [hyl, ← hxl]; exact he
    have hts := tagS_size key t v b s r (sealN (textN key) t s r x)
    have H1 := Lib.hid (fun (W : World) (g' : ByteArray) (hw : Below w.heap.size w W) => HS.sealGo key g' t v b s r A c x W hw ht hv hb hs hr ((hi.below hw).more hw.size) hx hc he)
    have H3 : Hid (∀ (W : World) (A' : Option Addr) (c' : Nat), Below w.heap.size w W → Ints W W.heap.size .u8 A' (up (sealN (textN key) t s r x)) → 64 ≤ c' →
        Calls Tryd.prog 11 #[.string key, .agg #[.int .i64 t, .int .i64 v, .int .i64 b, .int .i64 s, .int .i64 r, .string (tagS key t v b s r (sealN (textN key) t s r x))], .slice A' 64 c'] W fun e w' => ∃ A' c', e = .returned (.tuple #[.slice A' 64 c', .int .i64 0]) ∧ 64 ≤ c' ∧ Ints w' w'.heap.size .u8 A' (up x) ∧ Below W.heap.size W w') := fun W A' c' hw h hc' => by
      have q := HS.openGo key t v b s r A' c' _ W hw ht hv hb hs hr h hylt (by rw [hyl]; exact hc') he'
      rw [hyl, hyx] at q
      exact q
    have HCX := Lib.hid (conv_up x)
    have HCY := Lib.hid (conv_up (sealN (textN key) t s r x))
    rw [hyl] at HCY
    rw [hxl] at H1 HCX ⊢
    have HI := Lib.hid hi
    obtain ⟨y, hy⟩ : ∃ y, y = sealN (textN key) t s r x := ⟨_, rfl⟩
    simp only [← hy] at H1 H3 HCY hyl
    obtain ⟨T, hT⟩ : ∃ T0, T0 = tagS key t v b s r y := ⟨_, rfl⟩
    simp only [← hT] at H1 H3
    have HYL : Hid (6 < y.length) := by unfold Hid; rw [hyl]; decide
    obtain ⟨ux, hux⟩ : ∃ u, u = strOfNums (up x) := ⟨_, rfl⟩
    obtain ⟨uy, huy⟩ : ∃ u, u = strOfNums (up y) := ⟨_, rfl⟩
    simp only [← hux] at HCX
    simp only [← huy] at HCY
    clear hy hT hux huy HS ht hv hb hs hr hi hx hc hm hk he he' hks hxl hyl hyx hylt hts
    obtain ⟨W1, hW1⟩ : ∃ W, W = w.alloc (.cells #[.int .i64 t, .int .i64 v, .int .i64 b, .int .i64 s, .int .i64 r, .string g] 23) := ⟨_, rfl⟩
    obtain ⟨q, hq⟩ : ∃ q, q = w.heap.size := ⟨_, rfl⟩
    have hrow : W1.heap[q]? = some (.cells #[.int .i64 t, .int .i64 v, .int .i64 b, .int .i64 s, .int .i64 r, .string g] 23 (0, 0)) := by rw [hW1, hq]; exact heap_alloc_new _ _
    have hbW : Below w.heap.size w W1 := by rw [hW1]; exact (Below.refl _ _).alloc (Nat.le_refl _) _
    have hql : q < W1.heap.size := lt_row hrow
    have hqw : w.heap.size ≤ q := by rw [hq]; exact Nat.le_refl _
    have HRW : Hid (∀ W : World, Below W1.heap.size W1 W → W.heap[q]? = some (.cells #[.int .i64 t, .int .i64 v, .int .i64 b, .int .i64 s, .int .i64 r, .string g] 23 (0, 0))) := fun W hb => (hb.block q hql).trans hrow
    have HFZ : Hid (∀ W : World, Below W1.heap.size W1 W → W.frozen? ⟨q, 5, none⟩ = false) := fun W hb => frozen_of_row _ _ _ _ _ ((hb.block q hql).trans hrow)
    have HSS := Lib.hid (fun (W : World) (hb : Below W1.heap.size W1 W) => headCells hrow hql hb)
    have HBW := Lib.hid hbW
    clear hrow hbW hql
    go_enter Tryd.func5, Tryd.ntmps5
    go_wp2_with fail
    rw [← hW1, ← hq]
    clear hW1 hq
    go_wp2_with (first
      | (go_at_call 8; with_reducible (refine Calls.mono (H1.out _ _ HBW.out) ?_); rintro e w2 ⟨A2, c2, rfl, hc2, hi2, hb2⟩; have hbs := hb2)
      | (go_at_call 10; with_reducible (refine Calls.mono (HA.out _ (HBW.out.trans (hbs.mono HBW.out.size))) ?_); rintro e w3 ⟨rfl, hb3⟩; have hi3 := (hi2.below hb3).more hb3.size; have hbs := chain hbs hb3; have hz := HFZ.out _ hbs; obtain ⟨y0, y1, y2, y3, y4, y5⟩ := HSS.out _ hbs)
      | (go_at_call 11; have hb4 : Below w.heap.size w (w3.setCell ⟨q, 5, none⟩ (.string T)) := (HBW.out.trans (hbs.mono HBW.out.size)).setCell hqw _; have hi4 := ints_store hi3 (HRW.out _ hbs) HYL.out (.string T); with_reducible (refine Calls.mono (H3.out _ _ _ hb4 hi4 hc2) ?_); rintro e w5 ⟨A5, c5, rfl, hc5, hi5, hb5⟩; have hr5 := row_store (HRW.out _ hbs) hb5; obtain ⟨z0, z1, z2, z3, z4, z5⟩ := headCells hr5 (lt_row hr5) (Below.refl _ _); have hbx := hb4.trans (hb5.mono hb4.size))
      | (go_at_call 8; with_reducible (refine Calls.mono (H1.out _ _ hbx) ?_); rintro e w6 ⟨A6, c6, rfl, hc6, hi6, hb6⟩; have hbz := hbx.trans (hb6.mono hbx.size); have k1 := HCX.out _ _ c5 ((hi5.below hb6).more hb6.size); have k2 := HCX.out w6 A c ((HI.out.below hbz).more hbz.size); have k3 := HCY.out _ _ c6 hi6; have k4 := HCY.out w6 A2 c2 ((((hi4.below hb5).more hb5.size).below hb6).more hb6.size)))
    go_ret
    exact ⟨rfl, hbz⟩
  · have H1 := Lib.hid (fun (W : World) (hw : Below w.heap.size w W) => HS.sealNo key g t v b s r A c x W hw ht hv hb hs hr ((hi.below hw).more hw.size) hx hc hm hk he)
    obtain ⟨E, hE⟩ : ∃ E, E = sealE key.size x.length t v b s r := ⟨_, rfl⟩
    rw [← hE] at H1 he
    have he2 : (E != 0) = true := by simpa using he
    clear hE HS ht hv hb hs hr hi hx hc hm hk
    obtain ⟨W1, hW1⟩ : ∃ W, W = w.alloc (.cells #[.int .i64 t, .int .i64 v, .int .i64 b, .int .i64 s, .int .i64 r, .string g] 23) := ⟨_, rfl⟩
    obtain ⟨q, hq⟩ : ∃ q, q = w.heap.size := ⟨_, rfl⟩
    have hrow : W1.heap[q]? = some (.cells #[.int .i64 t, .int .i64 v, .int .i64 b, .int .i64 s, .int .i64 r, .string g] 23 (0, 0)) := by rw [hW1, hq]; exact heap_alloc_new _ _
    have hbW : Below w.heap.size w W1 := by rw [hW1]; exact (Below.refl _ _).alloc (Nat.le_refl _) _
    have hql : q < W1.heap.size := lt_row hrow
    have hqw : w.heap.size ≤ q := by rw [hq]; exact Nat.le_refl _
    have HBW := Lib.hid hbW
    clear hrow hbW hql hqw
    go_enter Tryd.func5, Tryd.ntmps5
    go_wp2_with fail
    rw [← hW1, ← hq]
    clear hW1 hq
    go_wp2_with (first
      | (go_at_call 8; with_reducible (refine Calls.mono (H1.out _ HBW.out) ?_); rintro e w2 ⟨A2, c2, rfl, hb2⟩; have hbs := hb2)
      | (go_at_call 10; with_reducible (refine Calls.mono (HA.out _ (HBW.out.trans (hbs.mono HBW.out.size))) ?_); rintro e w3 ⟨rfl, hb3⟩; replace hbs := chain hbs hb3))
    go_ret
    exact ⟨rfl, (HBW.out.trans (hbs.mono HBW.out.size))⟩

set_option maxHeartbeats 1600000 in
set_option maxRecDepth 20000 in
/-- SealTags. -/
theorem sealTags_go (key g : ByteArray) (t v b s r : Int) (A : Option Addr) (c : Nat) (x : List Nat) (w : World) (HS : SealSpec w) (ht : I64 t) (hv : I64 v) (hb : I64 b) (hs : I64 s) (hr : I64 r) (hi : Ints w w.heap.size .u8 A (up x)) (hx : ∀ y ∈ x, y < 256) (hc : x.length ≤ c) (hm : x.length ≤ 140737488355328) (hk : key.size ≤ maxLen) (tg : ByteArray) (htg : tg.size ≤ maxLen) :
    Calls Tryd.prog 6 #[.string key, .agg #[.int .i64 t, .int .i64 v, .int .i64 b, .int .i64 s, .int .i64 r, .string g], .slice A x.length c, .string tg] w fun e w' => e = .returned (.bool true) ∧ Below w.heap.size w w' := by
  have HA := Lib.hid (sealAwake HS)
  by_cases he : sealE key.size x.length t v b s r = 0
  · obtain ⟨hks, hxl⟩ := sealE_zero he
    have hyl : (sealN (textN key) t s r x).length = 64 := by rw [sealN_len]; exact hxl
    have hyx : sealN (textN key) t s r (sealN (textN key) t s r x) = x := sealN_back _ _ _ _ _
    have hylt := sealN_lt (textN key) t s r hx
    have he' : sealE key.size (sealN (textN key) t s r x).length t v b s r = 0 := by rw [hyl, ← hxl]; exact he
    have hts := tagS_size key t v b s r (sealN (textN key) t s r x)
    have H1 := Lib.hid (fun (W : World) (g' : ByteArray) (hw : Below w.heap.size w W) => HS.sealGo key g' t v b s r A c x W hw ht hv hb hs hr ((hi.below hw).more hw.size) hx hc he)
    by_cases htt : tg = tagS key t v b s r (sealN (textN key) t s r x)
    · have hq1 : ((tagS key t v b s r (sealN (textN key) t s r x)).toList == tg.toList) = true := by rw [htt]; exact beq_self_eq_true _
      rw [hxl] at H1 ⊢
      obtain ⟨y, hy⟩ : ∃ y, y = sealN (textN key) t s r x := ⟨_, rfl⟩
      simp only [← hy] at H1 hq1
      obtain ⟨T, hT⟩ : ∃ T0, T0 = tagS key t v b s r y := ⟨_, rfl⟩
      simp only [← hT] at H1 hq1
      clear hy hT HS ht hv hb hs hr hi hx hc hm hk he he' hks hxl hyl hyx hylt hts htt
      obtain ⟨W1, hW1⟩ : ∃ W, W = w.alloc (.cells #[.int .i64 t, .int .i64 v, .int .i64 b, .int .i64 s, .int .i64 r, .string g] 23) := ⟨_, rfl⟩
      obtain ⟨q, hq⟩ : ∃ q, q = w.heap.size := ⟨_, rfl⟩
      have hrow : W1.heap[q]? = some (.cells #[.int .i64 t, .int .i64 v, .int .i64 b, .int .i64 s, .int .i64 r, .string g] 23 (0, 0)) := by rw [hW1, hq]; exact heap_alloc_new _ _
      have hbW : Below w.heap.size w W1 := by rw [hW1]; exact (Below.refl _ _).alloc (Nat.le_refl _) _
      have hql : q < W1.heap.size := lt_row hrow
      have hqw : w.heap.size ≤ q := by rw [hq]; exact Nat.le_refl _
      have HBW := Lib.hid hbW
      clear hrow hbW hql hqw
      go_enter Tryd.func6, Tryd.ntmps6
      go_wp2_with fail
      rw [← hW1, ← hq]
      clear hW1 hq
      go_wp2_with (first
        | (go_at_call 8; with_reducible (refine Calls.mono (H1.out _ _ HBW.out) ?_); rintro e w2 ⟨A2, c2, rfl, hc2, hi2, hb2⟩; have hbs := hb2)
        | (go_at_call 10; with_reducible (refine Calls.mono (HA.out _ (HBW.out.trans (hbs.mono HBW.out.size))) ?_); rintro e w3 ⟨rfl, hb3⟩; replace hbs := chain hbs hb3))
      go_ret
      exact ⟨rfl, (HBW.out.trans (hbs.mono HBW.out.size))⟩
    · have hq1 : ((tagS key t v b s r (sealN (textN key) t s r x)).toList == tg.toList) = false := by rw [beq_eq_false_iff_ne]; exact fun h => htt (str_toList h).symm
      have H3 : Hid (∀ (W : World) (A' : Option Addr) (c' : Nat), Below w.heap.size w W → Ints W W.heap.size .u8 A' (up (sealN (textN key) t s r x)) → 64 ≤ c' →
          Calls Tryd.prog 11 #[.string key, .agg #[.int .i64 t, .int .i64 v, .int .i64 b, .int .i64 s, .int .i64 r, .string tg], .slice A' 64 c'] W fun e w' => ∃ A' c', e = .returned (.tuple #[.slice A' 0 c', .int .i64 9]) ∧ Below W.heap.size W w') := fun W A' c' hw h hc' => by
        have q := HS.openTag key tg t v b s r A' c' _ W hw ht hv hb hs hr h hylt (by rw [hyl]; exact hc') htg he' htt
        rw [hyl] at q
        exact q
      rw [hxl] at H1 ⊢
      obtain ⟨y, hy⟩ : ∃ y, y = sealN (textN key) t s r x := ⟨_, rfl⟩
      simp only [← hy] at H1 H3 hq1 hyl
      obtain ⟨T, hT⟩ : ∃ T0, T0 = tagS key t v b s r y := ⟨_, rfl⟩
      simp only [← hT] at H1 hq1
      have HYL : Hid (6 < y.length) := by unfold Hid; rw [hyl]; decide
      clear hy hT HS ht hv hb hs hr hi hx hc hm hk he he' hks hxl hyl hyx hylt hts htt
      obtain ⟨W1, hW1⟩ : ∃ W, W = w.alloc (.cells #[.int .i64 t, .int .i64 v, .int .i64 b, .int .i64 s, .int .i64 r, .string g] 23) := ⟨_, rfl⟩
      obtain ⟨q, hq⟩ : ∃ q, q = w.heap.size := ⟨_, rfl⟩
      have hrow : W1.heap[q]? = some (.cells #[.int .i64 t, .int .i64 v, .int .i64 b, .int .i64 s, .int .i64 r, .string g] 23 (0, 0)) := by rw [hW1, hq]; exact heap_alloc_new _ _
      have hbW : Below w.heap.size w W1 := by rw [hW1]; exact (Below.refl _ _).alloc (Nat.le_refl _) _
      have hql : q < W1.heap.size := lt_row hrow
      have hqw : w.heap.size ≤ q := by rw [hq]; exact Nat.le_refl _
      have HRW : Hid (∀ W : World, Below W1.heap.size W1 W → W.heap[q]? = some (.cells #[.int .i64 t, .int .i64 v, .int .i64 b, .int .i64 s, .int .i64 r, .string g] 23 (0, 0))) := fun W hb => (hb.block q hql).trans hrow
      have HFZ : Hid (∀ W : World, Below W1.heap.size W1 W → W.frozen? ⟨q, 5, none⟩ = false) := fun W hb => frozen_of_row _ _ _ _ _ ((hb.block q hql).trans hrow)
      have HSS := Lib.hid (fun (W : World) (hb : Below W1.heap.size W1 W) => headCells hrow hql hb)
      have HBW := Lib.hid hbW
      clear hrow hbW hql
      go_enter Tryd.func6, Tryd.ntmps6
      go_wp2_with fail
      rw [← hW1, ← hq]
      clear hW1 hq
      go_wp2_with (first
        | (go_at_call 8; with_reducible (refine Calls.mono (H1.out _ _ HBW.out) ?_); rintro e w2 ⟨A2, c2, rfl, hc2, hi2, hb2⟩; have hbs := hb2)
        | (go_at_call 10; with_reducible (refine Calls.mono (HA.out _ (HBW.out.trans (hbs.mono HBW.out.size))) ?_); rintro e w3 ⟨rfl, hb3⟩; have hi3 := (hi2.below hb3).more hb3.size; have hbs := chain hbs hb3; have hz := HFZ.out _ hbs; obtain ⟨y0, y1, y2, y3, y4, y5⟩ := HSS.out _ hbs)
        | (go_at_call 11; have hb4 : Below w.heap.size w (w3.setCell ⟨q, 5, none⟩ (.string tg)) := (HBW.out.trans (hbs.mono HBW.out.size)).setCell hqw _; have hi4 := ints_store hi3 (HRW.out _ hbs) HYL.out (.string tg); with_reducible (refine Calls.mono (H3.out _ _ _ hb4 hi4 hc2) ?_); rintro e w5 ⟨A5, c5, rfl, hb5⟩; have hbx := hb4.trans (hb5.mono hb4.size)))
      go_ret
      exact ⟨rfl, hbx⟩
  · have H1 := Lib.hid (fun (W : World) (hw : Below w.heap.size w W) => HS.sealNo key g t v b s r A c x W hw ht hv hb hs hr ((hi.below hw).more hw.size) hx hc hm hk he)
    obtain ⟨E, hE⟩ : ∃ E, E = sealE key.size x.length t v b s r := ⟨_, rfl⟩
    rw [← hE] at H1 he
    have he2 : (E != 0) = true := by simpa using he
    clear hE HS ht hv hb hs hr hi hx hc hm hk
    obtain ⟨W1, hW1⟩ : ∃ W, W = w.alloc (.cells #[.int .i64 t, .int .i64 v, .int .i64 b, .int .i64 s, .int .i64 r, .string g] 23) := ⟨_, rfl⟩
    obtain ⟨q, hq⟩ : ∃ q, q = w.heap.size := ⟨_, rfl⟩
    have hrow : W1.heap[q]? = some (.cells #[.int .i64 t, .int .i64 v, .int .i64 b, .int .i64 s, .int .i64 r, .string g] 23 (0, 0)) := by rw [hW1, hq]; exact heap_alloc_new _ _
    have hbW : Below w.heap.size w W1 := by rw [hW1]; exact (Below.refl _ _).alloc (Nat.le_refl _) _
    have hql : q < W1.heap.size := lt_row hrow
    have hqw : w.heap.size ≤ q := by rw [hq]; exact Nat.le_refl _
    have HBW := Lib.hid hbW
    clear hrow hbW hql hqw
    go_enter Tryd.func6, Tryd.ntmps6
    go_wp2_with fail
    rw [← hW1, ← hq]
    clear hW1 hq
    go_wp2_with (first
      | (go_at_call 8; with_reducible (refine Calls.mono (H1.out _ HBW.out) ?_); rintro e w2 ⟨A2, c2, rfl, hb2⟩; have hbs := hb2)
      | (go_at_call 10; with_reducible (refine Calls.mono (HA.out _ (HBW.out.trans (hbs.mono HBW.out.size))) ?_); rintro e w3 ⟨rfl, hb3⟩; replace hbs := chain hbs hb3))
    go_ret
    exact ⟨rfl, (HBW.out.trans (hbs.mono HBW.out.size))⟩

set_option maxHeartbeats 1600000 in
set_option maxRecDepth 20000 in
/-- SealHeads. -/
theorem sealHeads_go (key g : ByteArray) (t v b s r : Int) (A : Option Addr) (c : Nat) (x : List Nat) (w : World) (HS : SealSpec w) (HR : RefSpec) (ht : I64 t) (hv : I64 v) (hb : I64 b) (hs : I64 s) (hr : I64 r) (hi : Ints w w.heap.size .u8 A (up x)) (hx : ∀ y ∈ x, y < 256) (hc : x.length ≤ c) (hm : x.length ≤ 140737488355328) (hk : key.size ≤ maxLen) (t1 v1 b1 s1 r1 : Int) (g1 : ByteArray) (ht1 : I64 t1) (hv1 : I64 v1) (hb1 : I64 b1) (hs1 : I64 s1) (hr1 : I64 r1) :
    Calls Tryd.prog 7 #[.string key, .agg #[.int .i64 t, .int .i64 v, .int .i64 b, .int .i64 s, .int .i64 r, .string g], .agg #[.int .i64 t1, .int .i64 v1, .int .i64 b1, .int .i64 s1, .int .i64 r1, .string g1], .slice A x.length c] w fun e w' => e = .returned (.bool true) ∧ Below w.heap.size w w' := by
  have HA := Lib.hid (sealAwake HS)
  by_cases he : sealE key.size x.length t v b s r = 0
  · obtain ⟨hks, hxl⟩ := sealE_zero he
    have hyl : (sealN (textN key) t s r x).length = 64 := by rw [sealN_len]; exact hxl
    have hyx : sealN (textN key) t s r (sealN (textN key) t s r x) = x := sealN_back _ _ _ _ _
    have hylt := sealN_lt (textN key) t s r hx
    have he' : sealE key.size (sealN (textN key) t s r x).length t v b s r = 0 := by rw [hyl, ← hxl]; exact he
    have hts := tagS_size key t v b s r (sealN (textN key) t s r x)
    have H1 := Lib.hid (fun (W : World) (g' : ByteArray) (hw : Below w.heap.size w W) => HS.sealGo key g' t v b s r A c x W hw ht hv hb hs hr ((hi.below hw).more hw.size) hx hc he)
    have H3 := Lib.hid (fun (W : World) (A' : Option Addr) (c' : Nat) (hw : Below w.heap.size w W) (h : Ints W W.heap.size .u8 A' (up (sealN (textN key) t s r x))) (hc' : 64 ≤ c') => openAny HS key (tagS key t v b s r (sealN (textN key) t s r x)) t1 v1 b1 s1 r1 A' c' _ W hw ht1 hv1 hb1 hs1 hr1 h hylt (by rw [hyl]; exact hc') (by rw [hyl]; decide) hk (by rw [hts]; unfold maxLen; decide))
    have H4 := Lib.hid (fun (W : World) (A' : Option Addr) (c' : Nat) (h : Ints W W.heap.size .u8 A' (up (sealN (textN key) t s r x))) => refOpenAny HR key (tagS key t v b s r (sealN (textN key) t s r x)) t1 v1 b1 s1 r1 A' c' _ W h hylt)
    rw [hxl] at H1 ⊢
    rw [hyl] at H3 H4
    obtain ⟨y, hy⟩ : ∃ y, y = sealN (textN key) t s r x := ⟨_, rfl⟩
    simp only [← hy] at H1 H3 H4 hyl
    obtain ⟨T, hT⟩ : ∃ T0, T0 = tagS key t v b s r y := ⟨_, rfl⟩
    simp only [← hT] at H1 H3 H4
    have HCV := Lib.hid (conv_up (openR key T t1 v1 b1 s1 r1 y).2)
    obtain ⟨z, hz'⟩ : ∃ z, z = (openR key T t1 v1 b1 s1 r1 y).2 := ⟨_, rfl⟩
    obtain ⟨E, hE⟩ : ∃ z, z = (openR key T t1 v1 b1 s1 r1 y).1 := ⟨_, rfl⟩
    simp only [← hz', ← hE] at H3 H4 HCV
    obtain ⟨uz, huz⟩ : ∃ u, u = strOfNums (up z) := ⟨_, rfl⟩
    simp only [← huz] at HCV
    have HYL : Hid (6 < y.length) := by unfold Hid; rw [hyl]; decide
    clear hy hT hz' hE huz HS HR ht hv hb hs hr hi hx hc hm hk he he' hks hxl hyl hyx hylt hts ht1 hv1 hb1 hs1 hr1
    obtain ⟨W1, hW1⟩ : ∃ W, W = (w.alloc (.cells #[.int .i64 t, .int .i64 v, .int .i64 b, .int .i64 s, .int .i64 r, .string g] 23)).alloc (.cells #[.int .i64 t1, .int .i64 v1, .int .i64 b1, .int .i64 s1, .int .i64 r1, .string g1] 23) := ⟨_, rfl⟩
    obtain ⟨q, hq⟩ : ∃ q, q = w.heap.size + 1 := ⟨_, rfl⟩
    have hrow : W1.heap[q]? = some (.cells #[.int .i64 t1, .int .i64 v1, .int .i64 b1, .int .i64 s1, .int .i64 r1, .string g1] 23 (0, 0)) := by
      rw [hW1, show q = (w.alloc (.cells #[.int .i64 t, .int .i64 v, .int .i64 b, .int .i64 s, .int .i64 r, .string g] 23)).heap.size by rw [hq]; simp]
      exact heap_alloc_new _ _
    have hbW : Below w.heap.size w W1 := by rw [hW1]; exact ((Below.refl _ _).alloc (Nat.le_refl _) _).alloc (by simp) _
    have hql : q < W1.heap.size := lt_row hrow
    have hqw : w.heap.size ≤ q := by omega
    have HRW : Hid (∀ W : World, Below W1.heap.size W1 W → W.heap[q]? = some (.cells #[.int .i64 t1, .int .i64 v1, .int .i64 b1, .int .i64 s1, .int .i64 r1, .string g1] 23 (0, 0))) := fun W hb => (hb.block q hql).trans hrow
    have HFZ : Hid (∀ W : World, Below W1.heap.size W1 W → W.frozen? ⟨q, 5, none⟩ = false) := fun W hb => frozen_of_row _ _ _ _ _ ((hb.block q hql).trans hrow)
    have HSS := Lib.hid (fun (W : World) (hb : Below W1.heap.size W1 W) => headCells hrow hql hb)
    have HBW := Lib.hid hbW
    clear hrow hbW hql
    go_enter Tryd.func7, Tryd.ntmps7
    go_wp2_with fail
    rw [← hW1, ← hq]
    clear hW1 hq
    go_wp2_with (first
      | (go_at_call 8; with_reducible (refine Calls.mono (H1.out _ _ HBW.out) ?_); rintro e w2 ⟨A2, c2, rfl, hc2, hi2, hb2⟩; have hbs := hb2)
      | (go_at_call 10; with_reducible (refine Calls.mono (HA.out _ (HBW.out.trans (hbs.mono HBW.out.size))) ?_); rintro e w3 ⟨rfl, hb3⟩; have hi3 := (hi2.below hb3).more hb3.size; have hbs := chain hbs hb3; have hz := HFZ.out _ hbs; obtain ⟨y0, y1, y2, y3, y4, y5⟩ := HSS.out _ hbs)
      | (go_at_call 11; have hb4 : Below w.heap.size w (w3.setCell ⟨q, 5, none⟩ (.string T)) := (HBW.out.trans (hbs.mono HBW.out.size)).setCell hqw _; have hi4 := ints_store hi3 (HRW.out _ hbs) HYL.out (.string T); with_reducible (refine Calls.mono (H3.out _ _ _ hb4 hi4 hc2) ?_); rintro e w5 ⟨A5, c5, rfl, hi5, hb5⟩; have hr5 := row_store (HRW.out _ hbs) hb5; obtain ⟨z0, z1, z2, z3, z4, z5⟩ := headCells hr5 (lt_row hr5) (Below.refl _ _); have hbx := hb4.trans (hb5.mono hb4.size); have hi4b := (hi4.below hb5).more hb5.size)
      | (go_at_call 12; with_reducible (refine Calls.mono (H4.out _ _ _ hi4b) ?_); rintro e w6 ⟨A6, c6, rfl, hi6, hb6⟩; have hbz := hbx.trans (hb6.mono hbx.size); have k1 := HCV.out _ _ c5 ((hi5.below hb6).more hb6.size); have k2 := HCV.out _ _ c6 hi6))
    go_ret
    exact ⟨rfl, hbz⟩
  · have H1 := Lib.hid (fun (W : World) (hw : Below w.heap.size w W) => HS.sealNo key g t v b s r A c x W hw ht hv hb hs hr ((hi.below hw).more hw.size) hx hc hm hk he)
    obtain ⟨E, hE⟩ : ∃ E, E = sealE key.size x.length t v b s r := ⟨_, rfl⟩
    rw [← hE] at H1 he
    have he2 : (E != 0) = true := by simpa using he
    clear hE HS HR ht hv hb hs hr hi hx hc hm hk ht1 hv1 hb1 hs1 hr1
    obtain ⟨W1, hW1⟩ : ∃ W, W = (w.alloc (.cells #[.int .i64 t, .int .i64 v, .int .i64 b, .int .i64 s, .int .i64 r, .string g] 23)).alloc (.cells #[.int .i64 t1, .int .i64 v1, .int .i64 b1, .int .i64 s1, .int .i64 r1, .string g1] 23) := ⟨_, rfl⟩
    have hbW : Below w.heap.size w W1 := by rw [hW1]; exact ((Below.refl _ _).alloc (Nat.le_refl _) _).alloc (by simp) _
    have HBW := Lib.hid hbW
    clear hbW
    go_enter Tryd.func7, Tryd.ntmps7
    go_wp2_with fail
    rw [← hW1]
    clear hW1
    go_wp2_with (first
      | (go_at_call 8; with_reducible (refine Calls.mono (H1.out _ HBW.out) ?_); rintro e w2 ⟨A2, c2, rfl, hb2⟩; have hbs := hb2)
      | (go_at_call 10; with_reducible (refine Calls.mono (HA.out _ (HBW.out.trans (hbs.mono HBW.out.size))) ?_); rintro e w3 ⟨rfl, hb3⟩; replace hbs := chain hbs hb3))
    go_ret
    exact ⟨rfl, (HBW.out.trans (hbs.mono HBW.out.size))⟩

end Go.Proofs.YtanpfodmmeagaaaDoor
