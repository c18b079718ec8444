/-
  'Fields' of the layer pack: whatever it is given, what it answers; nothing that was there is changed.
-/
import Derived.Test.YtbmgiekiildaaaaPJoin
namespace Go.Proofs.Ytbmgiekiildaaaa
open Go.RowKit

/-- 'Fields'. -/
theorem fields_any (A1 A2 : Option Addr) (c1 c2 : Nat) (sizes list : List Int) (w : World) (hs : Ints w w.heap.size .i64 A1 sizes) (hn : Ints w w.heap.size .u64 A2 list)
    (hb : ∀ z ∈ list, 0 ≤ z ∧ z ≤ 18446744073709551615) :
    Calls Try.prog 18 #[.slice A2 list.length c2, .slice A1 sizes.length c1] w (Made w (fieldsE list sizes) (fieldsB list sizes)) := by
  have HJ := Lib.hid (join_any A1 A2 c1 c2 sizes list w hs hn hb)
  clear hb
  go_enter Try.func18, Try.ntmps18
  go_wp2_with (go_at_call 31; refine Calls.mono HJ.out ?_; rintro e w1 ⟨A, c, rfl, hcap, hi, hbel⟩)
  go_ret2
  exact ⟨A, c, rfl, hcap, hi, hbel⟩

/-- 'Fields', where it refuses nothing: the bytes lie in a row of the call's own. -/
theorem fields_own (A1 A2 : Option Addr) (c1 c2 : Nat) (sizes list : List Int) (w : World) (hs : Ints w w.heap.size .i64 A1 sizes) (hn : Ints w w.heap.size .u64 A2 list)
    (hb : ∀ z ∈ list, 0 ≤ z ∧ z ≤ 18446744073709551615) (hz : szs sizes = true) (hl : list.length = sizes.length) :
    Calls Try.prog 18 #[.slice A2 list.length c2, .slice A1 sizes.length c1] w (MadeOwn w (fieldsE list sizes) (fieldsB list sizes)) := by
  have HJ := Lib.hid (join_own A1 A2 c1 c2 sizes list w hs hn hb hz hl)
  clear hb hz hl
  go_enter Try.func18, Try.ntmps18
  go_wp2_with (go_at_call 31; refine Calls.mono HJ.out ?_; rintro e w1 ⟨A, c, rfl, hcap, hi, hbel, hown⟩)
  go_ret2
  exact ⟨A, c, rfl, hcap, hi, hbel, hown⟩

end Go.Proofs.Ytbmgiekiildaaaa
