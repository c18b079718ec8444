/-
  Laws of layer 4 as walks, from what is asked of the layer's calls: MacSame, MacDerives.
-/
import Derived.Test.YtocnbhefjhammaaDoorMacSpec
import Derived.Deep.RegionWith
namespace Go.Proofs.YtocnbhefjhammaaDoor
open Go.RowKit

theorem strOf_list (l : List Int) : (strOfNums l).toList = l.map fun n => UInt8.ofNat n.toNat := ByteArray.toList_mk _
theorem str_eq (xs ys : List Nat) (hx : ∀ b ∈ xs, b < 256) (hy : ∀ b ∈ ys, b < 256) : ((strOfNums (up xs)).toList == (strOfNums (up ys)).toList) = (xs == ys) := by
  rw [strOf_list, strOf_list]
  have inj : ∀ l : List Nat, (∀ b ∈ l, b < 256) → ((up l).map fun n => UInt8.ofNat n.toNat).map UInt8.toNat = l := by
    intro l
    induction l with
    | nil => intro _; rfl
    | cons x l ih =>
      intro h
      have h1 := h x (by simp)
      have h2 := ih fun b hb => h b (by simp [hb])
      simp only [up, List.map_cons, Int.toNat_natCast] at h2 ⊢
      rw [h2]
      congr 1
      rw [UInt8.toNat_ofNat']
      omega
  rw [Bool.eq_iff_iff, beq_iff_eq, beq_iff_eq]
  constructor
  · intro h
    rw [← inj xs hx, ← inj ys hy, h]
  · intro h
    rw [h]

theorem macSame_go (A0 A1 : Option Addr) (c0 c1 : Nat) (xs ys : List Nat) (w : World) (HC : CodeSpec w) (HS : SameSpec) (h0 : Ints w w.heap.size .u8 A0 (up xs)) (h1 : Ints w w.heap.size .u8 A1 (up ys)) (hA0 : A0 = none → c0 = 0) (hx : ∀ b ∈ xs, b < 256) (hy : ∀ b ∈ ys, b < 256)
    (hc0 : xs.length ≤ c0) (hc1 : ys.length ≤ c1) (hm0 : xs.length ≤ 140737488355000) (hm1 : ys.length ≤ 140737488355000) :
    Calls Tryd.prog 4 #[.slice A0 xs.length c0, .slice A1 ys.length c1] w fun e w' => e = .returned (.bool true) ∧ Below w.heap.size w w' := by
  obtain ⟨i0, hi, hz0, hz1, hz2⟩ := info_parts Tryd.infoU8'
  have HA := Lib.hid (macAwake HC HS)
  have H1 := Lib.hid (fun (w1 : World) (hb : Below w.heap.size w w1) => HS A0 A1 c0 c1 xs ys w1 ((h0.below hb).more hb.size) ((h1.below hb).more hb.size) hx hy hc0 hc1 hm0 hm1)
  have H2 := Lib.hid (fun (w1 : World) (A : Option Addr) (c : Nat) (hb : Below w.heap.size w w1) (hr : Ints w1 w1.heap.size .u8 A (up xs)) (hc : xs.length ≤ c) => HS A0 A c0 c xs xs w1 ((h0.below hb).more hb.size) hr hx hx hc0 hc hm0 hm0)
  simp only [beq_self_eq_true] at H2
  have heq := str_eq xs ys hx hy
  have HSS : Hid (∀ w1 : World, Below w.heap.size w w1 → Below w.heap.size w w1 ∧ (convert 22 9 (.slice A0 xs.length c0)).run Tryd.prog w1 = .ok (.string (strOfNums (up xs))) w1 ∧ (convert 22 9 (.slice A1 ys.length c1)).run Tryd.prog w1 = .ok (.string (strOfNums (up ys))) w1) := fun w1 hb =>
    ⟨hb, (h0.below hb).textAs Tryd.underlying22 Tryd.underlying5 Tryd.underlying9 (up_len xs) rfl c0, (h1.below hb).textAs Tryd.underlying22 Tryd.underlying5 Tryd.underlying9 (up_len ys) rfl c1⟩
  have HX := Lib.hid h0
  have HAX := Lib.hid hA0
  obtain ⟨s0, hs0⟩ : ∃ s, s = strOfNums (up xs) := ⟨_, rfl⟩
  obtain ⟨s1, hs1⟩ : ∃ s, s = strOfNums (up ys) := ⟨_, rfl⟩
  rw [← hs0, ← hs1] at heq HSS
  obtain ⟨q, hq⟩ : ∃ q, q = (xs == ys) := ⟨_, rfl⟩
  rw [← hq] at heq H1
  have hbx : Below w.heap.size w w.drew := (Below.refl _ _).drew
  have hul := up_len xs
  clear hs0 hs1 hq h0 h1 hA0 hx hy
  go_enter Tryd.func4, Tryd.ntmps4
  go_wp2
  go_region_held3 (fun w1 => Below w.heap.size w w1 ∧ (convert 22 9 (.slice A0 xs.length c0)).run Tryd.prog w1 = .ok (.string s0) w1 ∧ (convert 22 9 (.slice A1 ys.length c1)).run Tryd.prog w1 = .ok (.string s1) w1)
    (first
      | exact HSS.out _ hbx
      | exact HSS.out _ (hbx.alloc hbx.size _))
    (first
      | (go_at_call 9; with_reducible (refine Calls.mono (HA.out _ hbx) ?_); rintro e w1 ⟨rfl, hb1⟩; have hbx := chain hbx hb1)
      | (go_at_call 11; with_reducible (refine Calls.mono (H1.out _ hbx) ?_); rintro e w2 ⟨rfl, hb2⟩; have hbx := chain hbx hb2)
      | (go_at_call 11; with_reducible (refine Calls.mono (H2.out _ _ _ hbx (Ints.of_own (c := c3) (n := xs.length) (by rw [List.nil_append, up_len] at hown3; rw [up_len]; exact hown3)) (by have := own_le hown3; rw [List.nil_append, up_len] at this; exact this)) ?_); rintro e w4 ⟨rfl, hb4⟩; have hbx := chain hbx hb4)
      | (refine step_append_when _ (by rfl) _ _ 22 (by rfl) w2.heap.size 5 i0 (.int .u8 0) 1 Tryd.underlying22 hi hz0 hz1 hz2 rfl .u8 _ [] (up xs) w.heap.size c0 xs.length A0 (up_len xs) (by rfl) (by rfl) (World.ownsRow_made w2 #[] 0 (Nat.le_refl _) (Nat.zero_le _) rfl) ((HX.out.below hbx).alloc hbx.size _) HAX.out (by rw [List.length_nil, up_len]; unfold maxLen; omega) (by rw [List.length_nil, up_len]; omega) (by simp) ?_; intro v3 w3 hown3 hg3 _; have hbx := (hbx.alloc hbx.size (.cells #[] 5)).grown hg3 (by simp; have := hbx.size; omega) (fun q hq => by simp [Value.ownBlock] at hq; have := hbx.size; omega); obtain ⟨A3, c3, hv3⟩ := own_slice hown3; subst hv3))
  go_wp2
  go_ret
  exact ⟨rfl, hbx⟩


set_option maxHeartbeats 1600000 in
theorem macDerives_go (A0 : Option Addr) (c0 : Nat) (key : List Nat) (s : ByteArray) (n : Int) (w : World) (HC : CodeSpec w) (HS : SameSpec) (HD : DeriveSpec w) (HR : RefSpec) (h0 : Ints w w.heap.size .u8 A0 (up key)) (hA0 : A0 = none → c0 = 0) (hb0 : ∀ b ∈ key, b < 256) (hc0 : key.length ≤ c0) (hm0 : key.length ≤ 140737488355000) (hs : s.size ≤ 140737488354000) (hn1 : -9223372036854775808 ≤ n) (hn2 : n ≤ 9223372036854775807) :
    Calls Tryd.prog 5 #[.slice A0 key.length c0, .string s, .int .i64 n] w fun e w' => e = .returned (.bool true) ∧ Below w.heap.size w w' := by
  have HA := Lib.hid (macAwake HC HS)
  have H1 := Lib.hid (fun (w1 : World) (hb : Below w.heap.size w w1) => HD A0 c0 key s n w1 hb ((h0.below hb).more hb.size) hA0 hb0 hc0 hm0 hs hn1 hn2)
  have H2 := Lib.hid (fun (w1 : World) (hb : Below w.heap.size w w1) => refDerive_any HR A0 c0 key s n w1 ((h0.below hb).more hb.size) hA0 hb0 hm0 hs)
  have hdl : (up (deriveN key (textN s) n)).length = 16 := by rw [up_len]; unfold deriveN; rw [List.length_take, macN_len]; rfl
  have HDL := Lib.hid hdl
  clear hdl
  obtain ⟨d, hd⟩ : ∃ d, d = up (deriveN key (textN s) n) := ⟨_, rfl⟩
  rw [← hd] at H1 H2 HDL
  obtain ⟨t, ht⟩ : ∃ t, strOfNums d = t := ⟨_, rfl⟩
  have HT := Lib.hid ht
  clear hd ht h0 hA0 hb0
  go_enter Tryd.func5, Tryd.ntmps5
  go_wp2
  have hbx : Below w.heap.size w w.drew := (Below.refl _ _).drew
  go_region_with (first
    | (go_at_call 9; with_reducible (refine Calls.mono (HA.out _ hbx) ?_); rintro e w1 ⟨rfl, hb1⟩; have hbx := chain hbx hb1)
    | (go_at_call 12; with_reducible (refine Calls.mono (H1.out _ hbx) ?_); rintro e w3 ⟨A3, c3, rfl, hc3, hi3, hb3⟩; have hbx := chain hbx hb3; have hk3 := hi3.textAs (P := Tryd.prog) (n := 16) (t := t) Tryd.underlying22 Tryd.underlying5 Tryd.underlying9 HDL.out HT.out c3)
    | (go_at_call 13; with_reducible (refine Calls.mono (H2.out _ hbx) ?_); rintro e w4 ⟨A4, c4, rfl, hc4, hi4, hb4⟩; have hbx := chain hbx hb4; have hk4 := hi4.textAs (P := Tryd.prog) (n := 16) (t := t) Tryd.underlying22 Tryd.underlying5 Tryd.underlying9 HDL.out HT.out c4; have hk5 := (hi3.below hb4).textAs (P := Tryd.prog) (n := 16) (t := t) Tryd.underlying22 Tryd.underlying5 Tryd.underlying9 HDL.out HT.out c3))
  all_goals (go_wp2; go_ret; exact ⟨rfl, hbx⟩)

end Go.Proofs.YtocnbhefjhammaaDoor
