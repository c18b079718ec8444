/-
  The document's own header: Encode (stowageref18).
-/
import Derived.Test.YtbmgiekiildaaaaHdC1
import Derived.Test.YtbmgiekiildaaaaCrcRef
import Derived.Test.YtbmgiekiildaaaaArrs
import Derived.Deep.MidRow
import Derived.Lib.AppendStr
namespace Go.Proofs.Ytbmgiekiildaaaa
open Go.RowKit

theorem Try.infoU8H : (Try.prog.info? 5).map (fun i => (i.zero, i.size, i.bytes)) = some (some (.int .u8 0), 1, 1) := by kernel_rfl

/-- 'Sum'. -/
theorem hrefSum_any (A : Option Addr) (c B : Nat) (zs : List Int) (w : World) (hr : Ints w B .u8 A zs) (hz : ∀ z ∈ zs, 0 ≤ z ∧ z ≤ 255) (hm : zs.length ≤ 9223372036854775807) :
    Calls Try.prog 23 #[.slice A zs.length c] w fun e w' => e = .returned (.int .u32 (moreN 0 (nb zs) : Nat)) ∧ w = w' := by
  have HM := Lib.hid (refMore_any A c B zs 0 w hr hz hm (by decide))
  clear hz hr
  go_enter Try.func23, Try.ntmps23
  go_wp2_with (go_at_call 33; with_reducible (refine Calls.mono HM.out ?_); rintro e w' ⟨rfl, rfl⟩)
  go_ret
  exact ⟨rfl, rfl⟩

set_option maxHeartbeats 1600000 in
set_option maxRecDepth 20000 in
theorem hrefEnc_no (h : Rc) (w : World) (hn : ¬ hRng h) :
    Calls Try.prog 10 #[.agg (rcV h)] w fun e w' => e = .returned (.tuple #[.slice none 0 0, .int .i64 7]) ∧ Below w.heap.size w w' := by
  obtain ⟨⟨F0, F1, F2, F3, F4, F5⟩, hb0⟩ := hd_box w h 23
  obtain ⟨k, a, b, c, d, key⟩ := h
  simp only [rcV, hRng] at F0 F1 F2 F3 F4 F5 hb0 hn ⊢
  have HB := Lib.hid hb0
  have HN := Lib.hid hn
  clear hb0 hn
  by_cases d0 : k < 1
  · go_enter Try.func10, Try.ntmps10
    go_wp2
    go_ret2
    exact ⟨rfl, HB.out⟩
  by_cases d1 : 7 < k
  · go_enter Try.func10, Try.ntmps10
    go_wp2
    go_ret2
    exact ⟨rfl, HB.out⟩
  by_cases d2 : a < 0
  · go_enter Try.func10, Try.ntmps10
    go_wp2
    go_ret2
    exact ⟨rfl, HB.out⟩
  by_cases d3 : 7 < a
  · go_enter Try.func10, Try.ntmps10
    go_wp2
    go_ret2
    exact ⟨rfl, HB.out⟩
  by_cases d4 : b < 0
  · go_enter Try.func10, Try.ntmps10
    go_wp2
    go_ret2
    exact ⟨rfl, HB.out⟩
  by_cases d5 : 31 < b
  · go_enter Try.func10, Try.ntmps10
    go_wp2
    go_ret2
    exact ⟨rfl, HB.out⟩
  by_cases d6 : c < 0
  · go_enter Try.func10, Try.ntmps10
    go_wp2
    go_ret2
    exact ⟨rfl, HB.out⟩
  by_cases d7 : 63 < c
  · go_enter Try.func10, Try.ntmps10
    go_wp2
    go_ret2
    exact ⟨rfl, HB.out⟩
  by_cases d8 : d < 1
  · go_enter Try.func10, Try.ntmps10
    go_wp2
    go_ret2
    exact ⟨rfl, HB.out⟩
  by_cases d9 : 1099511627776 < d
  · go_enter Try.func10, Try.ntmps10
    go_wp2
    go_ret2
    exact ⟨rfl, HB.out⟩
  exact absurd (by omega) HN.out

set_option maxHeartbeats 1600000 in
set_option maxRecDepth 20000 in
theorem hrefEnc_key (h : Rc) (w : World) (hr : hRng h) (hk : h.key.size ≠ 16) :
    Calls Try.prog 10 #[.agg (rcV h)] w fun e w' => e = .returned (.tuple #[.slice none 0 0, .int .i64 1]) ∧ Below w.heap.size w w' := by
  obtain ⟨⟨F0, F1, F2, F3, F4, F5⟩, hb0⟩ := hd_box w h 23
  obtain ⟨k, a, b, c, d, key⟩ := h
  simp only [rcV, hRng] at F0 F1 F2 F3 F4 F5 hb0 hr hk ⊢
  have HB := Lib.hid hb0
  obtain ⟨⟨a1, a2⟩, ⟨a3, a4⟩, ⟨a5, a6⟩, ⟨a7, a8⟩, ⟨a9, a10⟩⟩ := hr
  have d0 : ¬ k < 1 := by omega
  have d1 : ¬ 7 < k := by omega
  have d2 : ¬ a < 0 := by omega
  have d3 : ¬ 7 < a := by omega
  have d4 : ¬ b < 0 := by omega
  have d5 : ¬ 31 < b := by omega
  have d6 : ¬ c < 0 := by omega
  have d7 : ¬ 63 < c := by omega
  have d8 : ¬ d < 1 := by omega
  have d9 : ¬ 1099511627776 < d := by omega
  have e1 : (((key.size : Nat) : Int) != 16) = true := by rw [bne_iff_ne]; omega
  clear hb0 hk a1 a2 a3 a4 a5 a6 a7 a8 a9 a10
  go_enter Try.func10, Try.ntmps10
  go_wp2
  go_ret2
  exact ⟨rfl, HB.out⟩

end Go.Proofs.Ytbmgiekiildaaaa
