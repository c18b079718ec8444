/-
  StreamCounts, from what is asked of the layer's calls.
-/
import Derived.Test.YtcoiincgclglbaaStrCtrR
import Derived.Test.YtcoiincgclglbaaStrSpec
namespace Go.Proofs.Ytcoiincgclglbaa
open Go.RowKit

/-- StreamCounts. -/
theorem strCounts_go (s v : Int) (w : World) (HS : StrSpec w) (hs1 : -9223372036854775808 ≤ s) (hs2 : s ≤ 9223372036854775807) (hv1 : -9223372036854775808 ≤ v) (hv2 : v ≤ 9223372036854775807) :
    Calls Try.prog 4 #[.int .i64 s, .int .i64 v] w fun e w' => e = .returned (.bool true) ∧ Below w.heap.size w w' := by
  have HA := Lib.hid (strAwake HS)
  have H1 := Lib.hid (fun (w1 : World) (hb : Below w.heap.size w w1) => HS.counter s v w1 hb hs1 hs2 hv1 hv2)
  have H2 := Lib.hid (refCounter_any s v)
  have hdl : (up (counterOf s v)).length = 16 := by rw [up_len, counterOf_len]
  have HDL := Lib.hid hdl
  clear hdl HS
  obtain ⟨d, hd⟩ : ∃ d, d = up (counterOf s v) := ⟨_, rfl⟩
  rw [← hd] at H1 H2 HDL
  obtain ⟨t, ht⟩ : ∃ t, strOfNums d = t := ⟨_, rfl⟩
  have HT := Lib.hid ht
  clear hd ht
  go_enter Try.func4, Try.ntmps4
  go_wp2
  have hbx : Below w.heap.size w w.drew := (Below.refl _ _).drew
  go_region_with (first
    | (go_at_call 10; with_reducible (refine Calls.mono (HA.out _ hbx) ?_); rintro e w1 ⟨rfl, hb1⟩; have hbx := chain hbx hb1)
    | (go_at_call 12; with_reducible (refine Calls.mono (H1.out _ hbx) ?_); rintro e w3 ⟨g3, o3, c3, rfl, hc3, hg3, hi3, _, hb3⟩; have hbx := chain hbx hb3; have hk3 := hi3.textAs (P := Try.prog) (n := 16) (t := t) Try.underlying22 Try.underlying5 Try.underlying9 HDL.out HT.out c3)
    | (go_at_call 13; with_reducible (refine Calls.mono (H2.out _) ?_); rintro e w4 ⟨A4, c4, rfl, hc4, hi4, hb4⟩; have hbx := chain hbx hb4; have hk4 := hi4.textAs (P := Try.prog) (n := 16) (t := t) Try.underlying22 Try.underlying5 Try.underlying9 HDL.out HT.out c4; have hk5 := (hi3.below hb4).textAs (P := Try.prog) (n := 16) (t := t) Try.underlying22 Try.underlying5 Try.underlying9 HDL.out HT.out c3))
  all_goals (go_wp2; go_ret; exact ⟨rfl, hbx⟩)

end Go.Proofs.Ytcoiincgclglbaa
