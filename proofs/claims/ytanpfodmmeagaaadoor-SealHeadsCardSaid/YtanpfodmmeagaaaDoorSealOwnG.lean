/-
  The document's own sealing and opening, walked. What sealing and opening answer, whatever they are asked: the layer's own and the document's.
-/
import Derived.Test.YtanpfodmmeagaaaDoorSealRefG
import Derived.OwnWalk
import Derived.Test.YtanpfodmmeagaaaDoorSealNumsG
namespace Go.Proofs.YtanpfodmmeagaaaDoor
open Go.RowKit

set_option maxHeartbeats 1600000 in
set_option maxRecDepth 20000 in
theorem refSealGo (HR : RefSpec) (key g : ByteArray) (t v b s r : Int) (A : Option Addr) (c : Nat) (x : List Nat) (w : World) (hi : Ints w w.heap.size .u8 A (up x)) (hx : ∀ y ∈ x, y < 256) (he : sealE key.size x.length t v b s r = 0) :
    Calls Tryd.prog 9 #[.string key, .agg #[.int .i64 t, .int .i64 v, .int .i64 b, .int .i64 s, .int .i64 r, .string g], .slice A x.length c] w fun e w' =>
      ∃ A' c', e = .returned (.tuple #[.slice A' 64 c', .string (tagS key t v b s r (sealN (textN key) t s r x)), .int .i64 0]) ∧ 64 ≤ c' ∧ Ints w' w'.heap.size .u8 A' (up (sealN (textN key) t s r x)) ∧ Below w.heap.size w w' := by
  obtain ⟨hks, hxl⟩ := sealE_zero he
  have HRT := Lib.hid (fun W : World => refRight key g t v b s r A x.length c W)
  rw [he] at HRT
  have HAP := Lib.hid (fun (W : World) (hb : Below w.heap.size w W) => refApply7 HR key g t v b s r A c x W ((hi.below hb).more hb.size) hx hxl hks)
  have HTG := Lib.hid (fun (W : World) (A' : Option Addr) (c' : Nat) (h : Ints W W.heap.size .u8 A' (up (sealN (textN key) t s r x))) => refTag HR key g t v b s r A' c' (sealN (textN key) t s r x) W h (sealN_lt _ _ _ _ hx) (by rw [sealN_len, hxl]) hks)
  rw [hxl] at HRT ⊢
  clear hi hx he hks hxl HR
  obtain ⟨W1, hW1⟩ : ∃ W, W = w.alloc (.cells #[.int .i64 t, .int .i64 v, .int .i64 b, .int .i64 s, .int .i64 r, .string g] 23) := ⟨_, rfl⟩
  obtain ⟨q, hq⟩ : ∃ q, q = w.heap.size := ⟨_, rfl⟩
  have hrow : W1.heap[q]? = some (.cells #[.int .i64 t, .int .i64 v, .int .i64 b, .int .i64 s, .int .i64 r, .string g] 23 (0, 0)) := by rw [hW1, hq]; exact heap_alloc_new _ _
  have hbW : Below w.heap.size w W1 := by rw [hW1]; exact (Below.refl _ _).alloc (Nat.le_refl _) _
  have hql : q < W1.heap.size := lt_row hrow
  have HSS := Lib.hid (fun (W : World) (hb : Below W1.heap.size W1 W) => headCells hrow hql hb)
  have HBW := Lib.hid hbW
  clear hrow hbW
  go_enter Tryd.func9, Tryd.ntmps9
  go_wp2_with fail
  rw [← hW1, ← hq]
  clear hW1 hq
  go_wp2_with (first
    | (go_at_call 16; with_reducible (refine Calls.mono (HRT.out _) ?_); rintro e w2 ⟨rfl, hb2⟩; have hbs := hb2; obtain ⟨y0, y1, y2, y3, y4, y5⟩ := HSS.out _ hbs)
    | (go_at_call 17; with_reducible (refine Calls.mono (HAP.out _ (HBW.out.trans (hbs.mono HBW.out.size))) ?_); rintro e w3 ⟨A3, c3, rfl, hc3, hi3, hb3⟩; have hbs := chain hbs hb3; obtain ⟨z0, z1, z2, z3, z4, z5⟩ := HSS.out _ hbs)
    | (go_at_call 18; with_reducible (refine Calls.mono (HTG.out _ _ _ hi3) ?_); rintro e w4 ⟨rfl, hb4⟩; have hi4 := (hi3.below hb4).more hb4.size; have hbs := chain hbs hb4))
  go_ret3
  exact ⟨_, _, rfl, hc3, hi4, HBW.out.trans (hbs.mono HBW.out.size)⟩

set_option maxHeartbeats 1600000 in
set_option maxRecDepth 20000 in
theorem refSealNo (key g : ByteArray) (t v b s r : Int) (A : Option Addr) (n c : Nat) (w : World) (he : sealE key.size n t v b s r ≠ 0) :
    Calls Tryd.prog 9 #[.string key, .agg #[.int .i64 t, .int .i64 v, .int .i64 b, .int .i64 s, .int .i64 r, .string g], .slice A n c] w fun e w' =>
      e = .returned (.tuple #[.slice none 0 0, .string ⟨#[]⟩, .int .i64 (sealE key.size n t v b s r)]) ∧ Below w.heap.size w w' := by
  have HRT := Lib.hid (fun W : World => refRight key g t v b s r A n c W)
  obtain ⟨E, hE⟩ : ∃ E, E = sealE key.size n t v b s r := ⟨_, rfl⟩
  rw [← hE] at HRT he ⊢
  clear hE
  obtain ⟨W1, hW1⟩ : ∃ W, W = w.alloc (.cells #[.int .i64 t, .int .i64 v, .int .i64 b, .int .i64 s, .int .i64 r, .string g] 23) := ⟨_, rfl⟩
  obtain ⟨q, hq⟩ : ∃ q, q = w.heap.size := ⟨_, rfl⟩
  have hrow : W1.heap[q]? = some (.cells #[.int .i64 t, .int .i64 v, .int .i64 b, .int .i64 s, .int .i64 r, .string g] 23 (0, 0)) := by rw [hW1, hq]; exact heap_alloc_new _ _
  have hbW : Below w.heap.size w W1 := by rw [hW1]; exact (Below.refl _ _).alloc (Nat.le_refl _) _
  have hql : q < W1.heap.size := lt_row hrow
  have HSS := Lib.hid (fun (W : World) (hb : Below W1.heap.size W1 W) => headCells hrow hql hb)
  have HBW := Lib.hid hbW
  clear hrow hbW
  go_enter Tryd.func9, Tryd.ntmps9
  go_wp2_with fail
  rw [← hW1, ← hq]
  clear hW1 hq
  go_wp2_with (go_at_call 16; with_reducible (refine Calls.mono (HRT.out _) ?_); rintro e w2 ⟨rfl, hb2⟩; have hbs := hb2; obtain ⟨y0, y1, y2, y3, y4, y5⟩ := HSS.out _ hbs)
  go_ret3
  exact ⟨rfl, HBW.out.trans (hbs.mono HBW.out.size)⟩

set_option maxHeartbeats 1600000 in
set_option maxRecDepth 20000 in
theorem refOpenNo (key g : ByteArray) (t v b s r : Int) (A : Option Addr) (n c : Nat) (w : World) (he : sealE key.size n t v b s r ≠ 0) :
    Calls Tryd.prog 12 #[.string key, .agg #[.int .i64 t, .int .i64 v, .int .i64 b, .int .i64 s, .int .i64 r, .string g], .slice A n c] w fun e w' =>
      e = .returned (.tuple #[.slice none 0 0, .int .i64 (sealE key.size n t v b s r)]) ∧ Below w.heap.size w w' := by
  have HRT := Lib.hid (fun W : World => refRight key g t v b s r A n c W)
  obtain ⟨E, hE⟩ : ∃ E, E = sealE key.size n t v b s r := ⟨_, rfl⟩
  rw [← hE] at HRT he ⊢
  clear hE
  obtain ⟨W1, hW1⟩ : ∃ W, W = w.alloc (.cells #[.int .i64 t, .int .i64 v, .int .i64 b, .int .i64 s, .int .i64 r, .string g] 23) := ⟨_, rfl⟩
  obtain ⟨q, hq⟩ : ∃ q, q = w.heap.size := ⟨_, rfl⟩
  have hrow : W1.heap[q]? = some (.cells #[.int .i64 t, .int .i64 v, .int .i64 b, .int .i64 s, .int .i64 r, .string g] 23 (0, 0)) := by rw [hW1, hq]; exact heap_alloc_new _ _
  have hbW : Below w.heap.size w W1 := by rw [hW1]; exact (Below.refl _ _).alloc (Nat.le_refl _) _
  have hql : q < W1.heap.size := lt_row hrow
  have HSS := Lib.hid (fun (W : World) (hb : Below W1.heap.size W1 W) => headCells hrow hql hb)
  have HBW := Lib.hid hbW
  clear hrow hbW
  go_enter Tryd.func12, Tryd.ntmps12
  go_wp2_with fail
  rw [← hW1, ← hq]
  clear hW1 hq
  go_wp2_with (go_at_call 16; with_reducible (refine Calls.mono (HRT.out _) ?_); rintro e w2 ⟨rfl, hb2⟩; have hbs := hb2; obtain ⟨y0, y1, y2, y3, y4, y5⟩ := HSS.out _ hbs)
  go_ret2
  exact ⟨rfl, HBW.out.trans (hbs.mono HBW.out.size)⟩

set_option maxHeartbeats 1600000 in
set_option maxRecDepth 20000 in
theorem refOpenGo (HR : RefSpec) (key g : ByteArray) (t v b s r : Int) (A : Option Addr) (c : Nat) (x : List Nat) (w : World) (hi : Ints w w.heap.size .u8 A (up x)) (hx : ∀ y ∈ x, y < 256) (he : sealE key.size x.length t v b s r = 0) (hg : g = tagS key t v b s r x) :
    Calls Tryd.prog 12 #[.string key, .agg #[.int .i64 t, .int .i64 v, .int .i64 b, .int .i64 s, .int .i64 r, .string g], .slice A x.length c] w fun e w' =>
      ∃ A' c', e = .returned (.tuple #[.slice A' 64 c', .int .i64 0]) ∧ 64 ≤ c' ∧ Ints w' w'.heap.size .u8 A' (up (sealN (textN key) t s r x)) ∧ Below w.heap.size w w' := by
  obtain ⟨hks, hxl⟩ := sealE_zero he
  have HRT := Lib.hid (fun W : World => refRight key g t v b s r A x.length c W)
  rw [he] at HRT
  have HAP := Lib.hid (fun (W : World) (hb : Below w.heap.size w W) => refApply7 HR key g t v b s r A c x W ((hi.below hb).more hb.size) hx hxl hks)
  have HTG := Lib.hid (fun (W : World) (hb : Below w.heap.size w W) => refTag HR key g t v b s r A c x W ((hi.below hb).more hb.size) hx hxl hks)
  rw [hxl] at HRT ⊢
  obtain ⟨T, hT⟩ : ∃ T, T = tagS key t v b s r x := ⟨_, rfl⟩
  rw [← hT] at HTG hg
  subst hg
  clear hi hx he hks hxl HR hT
  obtain ⟨W1, hW1⟩ : ∃ W, W = w.alloc (.cells #[.int .i64 t, .int .i64 v, .int .i64 b, .int .i64 s, .int .i64 r, .string g] 23) := ⟨_, rfl⟩
  obtain ⟨q, hq⟩ : ∃ q, q = w.heap.size := ⟨_, rfl⟩
  have hrow : W1.heap[q]? = some (.cells #[.int .i64 t, .int .i64 v, .int .i64 b, .int .i64 s, .int .i64 r, .string g] 23 (0, 0)) := by rw [hW1, hq]; exact heap_alloc_new _ _
  have hbW : Below w.heap.size w W1 := by rw [hW1]; exact (Below.refl _ _).alloc (Nat.le_refl _) _
  have hql : q < W1.heap.size := lt_row hrow
  have HSS := Lib.hid (fun (W : World) (hb : Below W1.heap.size W1 W) => headCells hrow hql hb)
  have HBW := Lib.hid hbW
  clear hrow hbW
  go_enter Tryd.func12, Tryd.ntmps12
  go_wp2_with fail
  rw [← hW1, ← hq]
  clear hW1 hq
  go_wp2_with (go_at_call 16; with_reducible (refine Calls.mono (HRT.out _) ?_); rintro e w2 ⟨rfl, hb2⟩; have hbs := hb2; obtain ⟨y0, y1, y2, y3, y4, y5⟩ := HSS.out _ hbs)
  clear y0 y1 y2 y3 y4 y5
  go_region_held3 (fun W => W.cell? ⟨q, 0, none⟩ = some (.int .i64 t) ∧ W.cell? ⟨q, 1, none⟩ = some (.int .i64 v) ∧ W.cell? ⟨q, 2, none⟩ = some (.int .i64 b) ∧ W.cell? ⟨q, 3, none⟩ = some (.int .i64 s) ∧ W.cell? ⟨q, 4, none⟩ = some (.int .i64 r) ∧ W.cell? ⟨q, 5, none⟩ = some (.string g))
    (first
      | exact HSS.out _ hbs.drew
      | exact HSS.out _ hbs)
    (first | (go_at_call 18; with_reducible (refine Calls.mono (HTG.out _ (HBW.out.trans (hbs.drew.mono HBW.out.size))) ?_); rintro e w3 ⟨rfl, hb3⟩; have hbs := chain hbs.drew hb3))
  obtain ⟨z0, z1, z2, z3, z4, z5⟩ := HSS.out _ hbs
  go_wp2_with (go_at_call 17; with_reducible (refine Calls.mono (HAP.out _ (HBW.out.trans (hbs.mono HBW.out.size))) ?_); rintro e w4 ⟨A4, c4, rfl, hc4, hi4, hb4⟩; have hbs := chain hbs hb4)
  go_ret2
  exact ⟨_, _, rfl, hc4, hi4, HBW.out.trans (hbs.mono HBW.out.size)⟩

set_option maxHeartbeats 1600000 in
set_option maxRecDepth 20000 in
theorem refOpenTag (HR : RefSpec) (key g : ByteArray) (t v b s r : Int) (A : Option Addr) (c : Nat) (x : List Nat) (w : World) (hi : Ints w w.heap.size .u8 A (up x)) (hx : ∀ y ∈ x, y < 256) (he : sealE key.size x.length t v b s r = 0) (hg : ((tagS key t v b s r x).toList == g.toList) = false) :
    Calls Tryd.prog 12 #[.string key, .agg #[.int .i64 t, .int .i64 v, .int .i64 b, .int .i64 s, .int .i64 r, .string g], .slice A x.length c] w fun e w' =>
      e = .returned (.tuple #[.slice none 0 0, .int .i64 9]) ∧ Below w.heap.size w w' := by
  obtain ⟨hks, hxl⟩ := sealE_zero he
  have HRT := Lib.hid (fun W : World => refRight key g t v b s r A x.length c W)
  rw [he] at HRT
  have _HAP := Lib.hid (fun (W : World) (hb : Below w.heap.size w W) => refApply7 HR key g t v b s r A c x W ((hi.below hb).more hb.size) hx hxl hks)
  have HTG := Lib.hid (fun (W : World) (hb : Below w.heap.size w W) => refTag HR key g t v b s r A c x W ((hi.below hb).more hb.size) hx hxl hks)
  rw [hxl] at HRT ⊢
  obtain ⟨T, hT⟩ : ∃ T, T = tagS key t v b s r x := ⟨_, rfl⟩
  rw [← hT] at HTG hg
  clear hi hx he hks hxl HR hT
  obtain ⟨W1, hW1⟩ : ∃ W, W = w.alloc (.cells #[.int .i64 t, .int .i64 v, .int .i64 b, .int .i64 s, .int .i64 r, .string g] 23) := ⟨_, rfl⟩
  obtain ⟨q, hq⟩ : ∃ q, q = w.heap.size := ⟨_, rfl⟩
  have hrow : W1.heap[q]? = some (.cells #[.int .i64 t, .int .i64 v, .int .i64 b, .int .i64 s, .int .i64 r, .string g] 23 (0, 0)) := by rw [hW1, hq]; exact heap_alloc_new _ _
  have hbW : Below w.heap.size w W1 := by rw [hW1]; exact (Below.refl _ _).alloc (Nat.le_refl _) _
  have hql : q < W1.heap.size := lt_row hrow
  have HSS := Lib.hid (fun (W : World) (hb : Below W1.heap.size W1 W) => headCells hrow hql hb)
  have HBW := Lib.hid hbW
  clear hrow hbW
  go_enter Tryd.func12, Tryd.ntmps12
  go_wp2_with fail
  rw [← hW1, ← hq]
  clear hW1 hq
  go_wp2_with (go_at_call 16; with_reducible (refine Calls.mono (HRT.out _) ?_); rintro e w2 ⟨rfl, hb2⟩; have hbs := hb2; obtain ⟨y0, y1, y2, y3, y4, y5⟩ := HSS.out _ hbs)
  clear y0 y1 y2 y3 y4 y5
  go_region_held3 (fun W => W.cell? ⟨q, 0, none⟩ = some (.int .i64 t) ∧ W.cell? ⟨q, 1, none⟩ = some (.int .i64 v) ∧ W.cell? ⟨q, 2, none⟩ = some (.int .i64 b) ∧ W.cell? ⟨q, 3, none⟩ = some (.int .i64 s) ∧ W.cell? ⟨q, 4, none⟩ = some (.int .i64 r) ∧ W.cell? ⟨q, 5, none⟩ = some (.string g))
    (first
      | exact HSS.out _ hbs.drew
      | exact HSS.out _ hbs)
    (first | (go_at_call 18; with_reducible (refine Calls.mono (HTG.out _ (HBW.out.trans (hbs.drew.mono HBW.out.size))) ?_); rintro e w3 ⟨rfl, hb3⟩; have hbs := chain hbs.drew hb3))
  go_wp2
  go_ret2
  exact ⟨rfl, HBW.out.trans (hbs.mono HBW.out.size)⟩

end Go.Proofs.YtanpfodmmeagaaaDoor

namespace Go.Proofs.YtanpfodmmeagaaaDoor
open Go.RowKit

theorem str_toList {a b : ByteArray} (h : a.toList = b.toList) : a = b := by
  rw [ByteArray.toList_eq, ByteArray.toList_eq] at h
  cases a; cases b
  congr
  exact Array.toList_inj.1 h
/-- Sealed: the error, the bytes, the tag. -/
def sealR (key : ByteArray) (t v b s r : Int) (x : List Nat) : Int × List Nat × ByteArray :=
  if sealE key.size x.length t v b s r = 0 then (0, sealN (textN key) t s r x, tagS key t v b s r (sealN (textN key) t s r x)) else (sealE key.size x.length t v b s r, [], ⟨#[]⟩)
/-- Opened: the error, the bytes. -/
def openR (key g : ByteArray) (t v b s r : Int) (x : List Nat) : Int × List Nat :=
  if sealE key.size x.length t v b s r = 0 then (if (tagS key t v b s r x).toList = g.toList then (0, sealN (textN key) t s r x) else (9, [])) else (sealE key.size x.length t v b s r, [])
theorem ints_nil (w : World) (B : Nat) (A : Option Addr) : Ints w B .u8 A (up []) := fun i hi => absurd hi (Nat.not_lt_zero i)
theorem sealR_lt (key : ByteArray) (t v b s r : Int) {x : List Nat} (hx : ∀ y ∈ x, y < 256) : ∀ y ∈ (sealR key t v b s r x).2.1, y < 256 := by
  unfold sealR
  split
  · exact sealN_lt _ _ _ _ hx
  · intro y hy; cases hy
theorem tagS_size (key : ByteArray) (t v b s r : Int) (x : List Nat) : (tagS key t v b s r x).size = 16 := by unfold tagS; rw [strOfNums_size, up_len, tagN_len]
theorem sealAny {w0 : World} (HS : SealSpec w0) (key g : ByteArray) (t v b s r : Int) (A : Option Addr) (c : Nat) (x : List Nat) (w : World) (hw : Below w0.heap.size w0 w) (ht : I64 t) (hv : I64 v) (hb : I64 b) (hs : I64 s) (hr : I64 r) (hi : Ints w w.heap.size .u8 A (up x)) (hx : ∀ y ∈ x, y < 256) (hc : x.length ≤ c) (hm : x.length ≤ 140737488355328) (hk : key.size ≤ maxLen) :
    Calls Tryd.prog 8 #[.string key, .agg #[.int .i64 t, .int .i64 v, .int .i64 b, .int .i64 s, .int .i64 r, .string g], .slice A x.length c] w fun e w' =>
      ∃ A' c', e = .returned (.tuple #[.slice A' (sealR key t v b s r x).2.1.length c', .string (sealR key t v b s r x).2.2, .int .i64 (sealR key t v b s r x).1]) ∧ (sealR key t v b s r x).2.1.length ≤ c' ∧ Ints w' w'.heap.size .u8 A' (up (sealR key t v b s r x).2.1) ∧ Below w.heap.size w w' := by
  by_cases he : sealE key.size x.length t v b s r = 0
  · have hl : (sealN (textN key) t s r x).length = 64 := by rw [sealN_len]; exact (sealE_zero he).2
    refine (HS.sealGo key g t v b s r A c x w hw ht hv hb hs hr hi hx hc he).mono fun e w' ⟨A', c', q1, q2, q3, q4⟩ => ⟨A', c', ?_, ?_, ?_, q4⟩
    · rw [q1, sealR, if_pos he]; simp only [hl]
    · rw [sealR, if_pos he]; simp only [hl]; exact q2
    · rw [sealR, if_pos he]; exact q3
  · refine (HS.sealNo key g t v b s r A c x w hw ht hv hb hs hr hi hx hc hm hk he).mono fun e w' ⟨A', c', q1, q4⟩ => ⟨A', c', ?_, ?_, ?_, q4⟩
    · rw [q1, sealR, if_neg he]; rfl
    · rw [sealR, if_neg he]; exact Nat.zero_le _
    · rw [sealR, if_neg he]; exact ints_nil _ _ _
theorem openAny {w0 : World} (HS : SealSpec w0) (key g : ByteArray) (t v b s r : Int) (A : Option Addr) (c : Nat) (x : List Nat) (w : World) (hw : Below w0.heap.size w0 w) (ht : I64 t) (hv : I64 v) (hb : I64 b) (hs : I64 s) (hr : I64 r) (hi : Ints w w.heap.size .u8 A (up x)) (hx : ∀ y ∈ x, y < 256) (hc : x.length ≤ c) (hm : x.length ≤ 140737488355328) (hk : key.size ≤ maxLen) (hg : g.size ≤ maxLen) :
    Calls Tryd.prog 11 #[.string key, .agg #[.int .i64 t, .int .i64 v, .int .i64 b, .int .i64 s, .int .i64 r, .string g], .slice A x.length c] w fun e w' =>
      ∃ A' c', e = .returned (.tuple #[.slice A' (openR key g t v b s r x).2.length c', .int .i64 (openR key g t v b s r x).1]) ∧ Ints w' w'.heap.size .u8 A' (up (openR key g t v b s r x).2) ∧ Below w.heap.size w w' := by
  by_cases he : sealE key.size x.length t v b s r = 0
  · have hl : (sealN (textN key) t s r x).length = 64 := by rw [sealN_len]; exact (sealE_zero he).2
    by_cases hg' : (tagS key t v b s r x).toList = g.toList
    · have hge := str_toList hg'
      have h := HS.openGo key t v b s r A c x w hw ht hv hb hs hr hi hx hc he
      rw [hge] at h
      refine h.mono fun e w' ⟨A', c', q1, q2, q3, q4⟩ => ⟨A', c', ?_, ?_, q4⟩
      · rw [q1, openR, if_pos he, if_pos hg']; simp only [hl]
      · rw [openR, if_pos he, if_pos hg']; exact q3
    · refine (HS.openTag key g t v b s r A c x w hw ht hv hb hs hr hi hx hc hg he (fun h => hg' (by rw [h]))).mono fun e w' ⟨A', c', q1, q4⟩ => ⟨A', c', ?_, ?_, q4⟩
      · rw [q1, openR, if_pos he, if_neg hg']; rfl
      · rw [openR, if_pos he, if_neg hg']; exact ints_nil _ _ _
  · refine (HS.openNo key g t v b s r A c x w hw ht hv hb hs hr hi hx hc hm hk hg he).mono fun e w' ⟨A', c', q1, q4⟩ => ⟨A', c', ?_, ?_, q4⟩
    · rw [q1, openR, if_neg he]; rfl
    · rw [openR, if_neg he]; exact ints_nil _ _ _
theorem refSealAny (HR : RefSpec) (key g : ByteArray) (t v b s r : Int) (A : Option Addr) (c : Nat) (x : List Nat) (w : World) (hi : Ints w w.heap.size .u8 A (up x)) (hx : ∀ y ∈ x, y < 256) :
    Calls Tryd.prog 9 #[.string key, .agg #[.int .i64 t, .int .i64 v, .int .i64 b, .int .i64 s, .int .i64 r, .string g], .slice A x.length c] w fun e w' =>
      ∃ A' c', e = .returned (.tuple #[.slice A' (sealR key t v b s r x).2.1.length c', .string (sealR key t v b s r x).2.2, .int .i64 (sealR key t v b s r x).1]) ∧ Ints w' w'.heap.size .u8 A' (up (sealR key t v b s r x).2.1) ∧ Below w.heap.size w w' := by
  by_cases he : sealE key.size x.length t v b s r = 0
  · have hl : (sealN (textN key) t s r x).length = 64 := by rw [sealN_len]; exact (sealE_zero he).2
    refine (refSealGo HR key g t v b s r A c x w hi hx he).mono fun e w' ⟨A', c', q1, q2, q3, q4⟩ => ⟨A', c', ?_, ?_, q4⟩
    · rw [q1, sealR, if_pos he]; simp only [hl]
    · rw [sealR, if_pos he]; exact q3
  · refine (refSealNo key g t v b s r A x.length c w he).mono fun e w' ⟨q1, q4⟩ => ⟨none, 0, ?_, ?_, q4⟩
    · rw [q1, sealR, if_neg he]; rfl
    · rw [sealR, if_neg he]; exact ints_nil _ _ _
theorem refOpenAny (HR : RefSpec) (key g : ByteArray) (t v b s r : Int) (A : Option Addr) (c : Nat) (x : List Nat) (w : World) (hi : Ints w w.heap.size .u8 A (up x)) (hx : ∀ y ∈ x, y < 256) :
    Calls Tryd.prog 12 #[.string key, .agg #[.int .i64 t, .int .i64 v, .int .i64 b, .int .i64 s, .int .i64 r, .string g], .slice A x.length c] w fun e w' =>
      ∃ A' c', e = .returned (.tuple #[.slice A' (openR key g t v b s r x).2.length c', .int .i64 (openR key g t v b s r x).1]) ∧ Ints w' w'.heap.size .u8 A' (up (openR key g t v b s r x).2) ∧ Below w.heap.size w w' := by
  by_cases he : sealE key.size x.length t v b s r = 0
  · have hl : (sealN (textN key) t s r x).length = 64 := by rw [sealN_len]; exact (sealE_zero he).2
    by_cases hg' : (tagS key t v b s r x).toList = g.toList
    · refine (refOpenGo HR key g t v b s r A c x w hi hx he (str_toList hg').symm).mono fun e w' ⟨A', c', q1, q2, q3, q4⟩ => ⟨A', c', ?_, ?_, q4⟩
      · rw [q1, openR, if_pos he, if_pos hg']; simp only [hl]
      · rw [openR, if_pos he, if_pos hg']; exact q3
    · refine (refOpenTag HR key g t v b s r A c x w hi hx he (by rw [beq_eq_false_iff_ne]; exact hg')).mono fun e w' ⟨q1, q4⟩ => ⟨none, 0, ?_, ?_, q4⟩
      · rw [q1, openR, if_pos he, if_neg hg']; rfl
      · rw [openR, if_pos he, if_neg hg']; exact ints_nil _ _ _
  · refine (refOpenNo key g t v b s r A x.length c w he).mono fun e w' ⟨q1, q4⟩ => ⟨none, 0, ?_, ?_, q4⟩
    · rw [q1, openR, if_neg he]; rfl
    · rw [openR, if_neg he]; exact ints_nil _ _ _

end Go.Proofs.YtanpfodmmeagaaaDoor
