/-
  The law CrcParts as a walk, from what is asked of the layer's functions. Conditions: those properties; both texts together of at most 2 million bytes.
-/
import Derived.Test.YtkikigpdcjkneaaCrcFinds
namespace Go.Proofs.Ytkikigpdcjkneaa
open Go.RowKit

set_option maxHeartbeats 1600000 in
set_option maxRecDepth 100000 in
theorem crcParts_go (HSum : SumSpec) (HMore : MoreSpec) (HJoin : JoinSpec) (A1 A2 : Option Addr) (c1 c2 : Nat) (xs ys : List Int) (w : World) (h1 : Ints w w.heap.size .u8 A1 xs) (h2 : Ints w w.heap.size .u8 A2 ys) (hA1 : A1 = none → c1 = 0) (hA2 : A2 = none → c2 = 0)
    (hx : ∀ z ∈ xs, 0 ≤ z ∧ z ≤ 255) (hy : ∀ z ∈ ys, 0 ≤ z ∧ z ≤ 255) (hc1 : xs.length ≤ c1) (hc2 : ys.length ≤ c2) (hm1 : xs.length ≤ 1048576) (hm2 : ys.length ≤ 1048576) :
    Calls Try.prog 5 #[.slice A1 xs.length c1, .slice A2 ys.length c2] w fun e w' => e = .returned (.bool true) ∧ Below w.heap.size w w' := by
  obtain ⟨i0, hi, hz0, hz1, hz2⟩ := info_parts Try.infoU8
  have HA := Lib.hid (crcAwake HSum)
  have HAn1 := Lib.hid hA1
  have HAn2 := Lib.hid hA2
  have hxy : ∀ z ∈ xs ++ ys, 0 ≤ z ∧ z ≤ 255 := fun z hz => by
    rcases List.mem_append.1 hz with h | h
    · exact hx z h
    · exact hy z h
  have e1 : moreN (moreN 0 (nb xs)) (nb ys) = moreN 0 (nb (xs ++ ys)) := by rw [moreN_append _ _ _ (nb_lt hx), nb_append]
  have e2 : joinN (moreN 0 (nb xs)) (moreN 0 (nb ys)) ys.length = moreN 0 (nb (xs ++ ys)) := by
    rw [show ys.length = (nb ys).length by simp [nb], joinN_sum _ _ (moreN_lt _ _) (nb_lt hy), e1]
  have HS0 := Lib.hid (fun (A : Option Addr) (c : Nat) (w1 : World) (h : Ints w1 w1.heap.size .u8 A (xs ++ ys)) (hc : (xs ++ ys).length ≤ c) => HSum A c (xs ++ ys) w1 h hxy hc (by rw [List.length_append]; omega))
  have HS1 := Lib.hid (fun w1 (hb : Below w.heap.size w w1) => HSum A1 c1 xs w1 ((h1.below hb).more hb.size) hx hc1 (by omega))
  have HS2 := Lib.hid (fun w1 (hb : Below w.heap.size w w1) => HSum A2 c2 ys w1 ((h2.below hb).more hb.size) hy hc2 (by omega))
  have hM := fun w1 (hb : Below w.heap.size w w1) => HMore A2 c2 ys (moreN 0 (nb xs)) w1 ((h2.below hb).more hb.size) hy hc2 (by omega) (moreN_lt _ _)
  have hJ := fun w1 => HJoin (moreN 0 (nb xs)) (moreN 0 (nb ys)) (ys.length : Int) w1 (moreN_lt _ _) (moreN_lt _ _) (by omega) (by omega)
  rw [Int.toNat_natCast, e2] at hJ
  rw [e1] at hM
  have HM := Lib.hid hM
  have HJ := Lib.hid hJ
  obtain ⟨p, hp⟩ : ∃ p, p = moreN 0 (nb xs) := ⟨_, rfl⟩
  obtain ⟨q, hq⟩ : ∃ q, q = moreN 0 (nb ys) := ⟨_, rfl⟩
  obtain ⟨r, hr⟩ : ∃ r, r = moreN 0 (nb (xs ++ ys)) := ⟨_, rfl⟩
  rw [← hp] at HS1 HM HJ
  rw [← hq] at HS2 HJ
  rw [← hr] at HS0 HM HJ
  clear hA1 hA2 hx hy hxy e1 e2 hM hJ hp hq hr HSum HMore HJoin
  go_enter Try.func5, Try.ntmps5
  go_wp2_with (at_builtin; refine wpList_append_ints _ rfl (.tmp 6) (.tmp 7) 23 rfl w.heap.size 5 i0 (.int .u8 0) 1 Try.underlying23 hi hz0 hz1 hz2 rfl .u8 _ [] xs w.heap.size c1 xs.length A1 rfl rfl rfl (World.ownsRow_made w #[] 0 (Nat.le_refl _) (Nat.zero_le _) rfl) (h1.alloc (Nat.le_refl _) _) HAn1.out ?c1 ?c2 ?c3 ?_)
  case c1 => rw [List.length_nil]; unfold maxLen; omega
  case c2 => rw [List.length_nil]; omega
  case c3 => simp
  intro v1 w1 hown1 hg1
  have hbel1 : Below w.heap.size w w1 := ((Below.refl _ _).alloc (Nat.le_refl _) _).grown hg1 (by simp) fun q hq => by simp [Value.ownBlock] at hq; omega
  clear hg1
  have h2' := h2.below hbel1
  have hsz1 := hbel1.size
  go_wp2_with (at_builtin; refine wpList_append_ints _ rfl (.tmp 8) (.tmp 9) 23 rfl w.heap.size 5 i0 (.int .u8 0) 1 Try.underlying23 hi hz0 hz1 hz2 rfl .u8 _ xs ys w.heap.size c2 ys.length A2 rfl rfl rfl hown1 h2' HAn2.out ?d1 ?d2 hsz1 ?_)
  case d1 => unfold maxLen; omega
  case d2 => omega
  intro v2 w2 hown2 hg2
  have hbel2 : Below w.heap.size w w2 := hbel1.grown hg2 hsz1 fun q hq => (hown1.lt q hq).1
  obtain ⟨A3, c3, hv⟩ := own_slice hown2
  subst hv
  have hlc := own_le hown2
  have hres : Ints w2 w2.heap.size .u8 A3 (xs ++ ys) := Ints.of_own (c := c3) (n := (xs ++ ys).length) (by rw [List.length_append, List.map_append]; exact hown2)
  have HS3 := Lib.hid (HS0.out A3 c3 w2 hres (by rw [List.length_append]; exact hlc))
  clear hg2 hown1 hown2 h2' hres
  rw [List.length_append] at HS3
  have hs2 := hbel2.size
  go_wp2_with (first
    | (go_at_call_of 12 (Value.slice A1 xs.length c1); refine Calls.mono (HS1.out _ hbl) ?_; rintro e w5 ⟨rfl, hb5⟩; have hbl := chain hbl hb5)
    | (go_at_call_of 12 (Value.slice A2 ys.length c2); refine Calls.mono (HS2.out _ hbl) ?_; rintro e w6 ⟨rfl, hb6⟩; have hbl := chain hbl hb6)
    | (go_at_call 12; refine Calls.mono HS3.out ?_; rintro e w3 ⟨rfl, hb3⟩; have hbl := chain hbel2 hb3)
    | (go_at_call 11; refine Calls.mono (HA.out _) ?_; rintro e w4 ⟨rfl, hb4⟩; have hbl := chain hbl hb4)
    | (go_at_call 14; refine Calls.mono (HM.out _ hbl) ?_; rintro e w7 ⟨rfl, hb7⟩; have hbl := chain hbl hb7)
    | (go_at_call 18; refine Calls.mono (HJ.out _) ?_; rintro e w8 ⟨rfl, hb8⟩; have hbl := chain hbl hb8))
  go_ret
  exact ⟨rfl, hbl⟩

end Go.Proofs.Ytkikigpdcjkneaa
