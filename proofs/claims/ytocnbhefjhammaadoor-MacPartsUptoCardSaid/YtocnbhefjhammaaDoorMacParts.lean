/-
  MacParts as a walk, from what is asked of the layer's calls.
-/
import Derived.Test.YtocnbhefjhammaaDoorMacCodes
namespace Go.Proofs.YtocnbhefjhammaaDoor
open Go.RowKit

theorem parts_of_row {w : World} {g : Nat} {t : TypeId} {fr : Nat × Nat} {ps : List Part} {vs : Array Value} (h : w.heap[g]? = some (.cells vs t fr)) (hv : vs = (ps.map fun p => Value.slice p.A p.b.length p.c).toArray) (hp : ∀ p ∈ ps, p.ok w w.heap.size) : Parts w w.heap.size (some ⟨g, 0, none⟩) ps := fun i hi => by
  have hg : g < w.heap.size := by
    by_cases hlt : g < w.heap.size
    · exact hlt
    · have hn : w.heap[g]? = none := by simp; omega
      rw [hn] at h
      cases h
  refine ⟨g, 0, rfl, hg, ?_, hp _ (List.getElem_mem hi)⟩
  rw [Nat.zero_add, cell_of_row w g i _ t fr h, hv]
  simp [hi]
section
variable {w w' : World} {o o2 : Obj}
theorem hn1 : (w.alloc o).heap[w.heap.size]? = some o := heap_alloc_new w o
theorem hn2 : ((w.alloc o).alloc o2).heap[w.heap.size]? = some o := heap_alloc2_old w o o2
theorem hn3 : ((w.alloc o2).alloc o).heap[w.heap.size + 1]? = some o := heap_alloc2_new w o2 o
theorem ha2 (h : Below ((w.alloc o).alloc o2).heap.size ((w.alloc o).alloc o2) w') : w'.heap[w.heap.size]? = some o := (h.block w.heap.size (by simp; omega)).trans hn2
theorem ha3 (h : Below ((w.alloc o2).alloc o).heap.size ((w.alloc o2).alloc o) w') : w'.heap[w.heap.size + 1]? = some o := (h.block (w.heap.size + 1) (by simp)).trans hn3
end

theorem below_alloc2 {W w : World} {o o2 : Obj} (h : Below W.heap.size W w) : Below W.heap.size W ((w.alloc o).alloc o2) := (h.alloc h.size _).alloc (by have := h.size; simp; omega) _
theorem own0 {g o n c q : Nat} (h : (Value.slice (some ⟨g, o, none⟩) n c).ownBlock = some q) : g ≤ q := by cases h; exact Nat.le_refl _
theorem own_cat {w : World} {base : Nat} {e : TypeId} {v : Value} {xs ys : List Nat} (h : w.ownsRow base e 1 v (up xs ++ up ys).length ((up xs ++ up ys).map (Value.int .u8))) : w.ownsRow base e 1 v (xs ++ ys).length ((up (xs ++ ys)).map (Value.int .u8)) := by
  rw [up_append, List.length_append, ← up_len xs, ← up_len ys, ← List.length_append]; exact h
theorem own_key {w : World} {base : Nat} {e : TypeId} {v : Value} {xs : List Nat} (h : w.ownsRow base e 1 v ([] ++ up xs).length (([] ++ up xs).map (Value.int .u8))) : w.ownsRow base e 1 v xs.length ((up xs).map (Value.int .u8)) := by
  rw [← up_len xs]; exact h

set_option maxHeartbeats 3200000 in
theorem macParts_go (A0 A1 A2 : Option Addr) (c0 c1 c2 : Nat) (key xs ys : List Nat) (w : World) (HC : CodeSpec w) (HS : SameSpec) (h0 : Ints w w.heap.size .u8 A0 (up key)) (h1 : Ints w w.heap.size .u8 A1 (up xs)) (h2 : Ints w w.heap.size .u8 A2 (up ys)) (hA0 : A0 = none → c0 = 0) (hA1 : A1 = none → c1 = 0) (hA2 : A2 = none → c2 = 0)
    (hb0 : ∀ b ∈ key, b < 256) (hb1 : ∀ b ∈ xs, b < 256) (hb2 : ∀ b ∈ ys, b < 256) (hc0 : key.length ≤ c0) (hc1 : xs.length ≤ c1) (hc2 : ys.length ≤ c2) (hm0 : key.length ≤ 1048576) (hm1 : xs.length ≤ 1048576) (hm2 : ys.length ≤ 1048576) :
    Calls Tryd.prog 6 #[.slice A0 key.length c0, .slice A1 xs.length c1, .slice A2 ys.length c2] w fun e w' => e = .returned (.bool true) ∧ Below w.heap.size w w' := by
  obtain ⟨i0, hi, hz0, hz1, hz2⟩ := info_parts Tryd.infoU8'
  have HA := Lib.hid (macAwake HC HS)
  have HX := Lib.hid h1
  have HY := Lib.hid h2
  have HK := Lib.hid h0
  have HAX := Lib.hid hA1
  have HAY := Lib.hid hA2
  have HAK := Lib.hid hA0
  have HB0 := Lib.hid hb0
  have HB1 := Lib.hid hb1
  have HB2 := Lib.hid hb2
  clear h0 h1 h2 hA0 hA1 hA2 hb0 hb1 hb2
  go_enter Tryd.func6, Tryd.ntmps6
  go_upto_if 19 with (first
    | (at_builtin; refine wpList_append_when _ rfl (.tmp 9) (.tmp 10) 22 rfl w.heap.size 5 i0 (.int .u8 0) 1 Tryd.underlying22 hi hz0 hz1 hz2 rfl .u8 _ [] (up xs) w.heap.size c1 xs.length A1 (up_len xs) rfl rfl (World.ownsRow_made w #[] 0 (Nat.le_refl _) (Nat.zero_le _) rfl) (HX.out.alloc (Nat.le_refl _) _) HAX.out (by rw [List.length_nil, up_len]; unfold maxLen; omega) (by rw [List.length_nil, up_len]; omega) (by simp) ?_; intro v1 w1 hown1 hg1 _; have hbel1 : Below w.heap.size w w1 := (((Below.refl _ _).alloc (Nat.le_refl _) _).grown hg1 (by simp) fun q hq => own0 hq); have hy1 := HY.out.below hbel1; have hsz1 := hbel1.size; clear hg1)
    | (at_builtin; refine wpList_append_when _ rfl (.tmp 11) (.tmp 12) 22 rfl w.heap.size 5 i0 (.int .u8 0) 1 Tryd.underlying22 hi hz0 hz1 hz2 rfl .u8 _ (up xs) (up ys) w.heap.size c2 ys.length A2 (up_len ys) rfl rfl hown1 hy1 HAY.out (by rw [up_len, up_len]; unfold maxLen; omega) (by rw [up_len, up_len]; omega) hsz1 ?_; intro v2 w2 hown2 hg2 _; have hbel2 : Below w.heap.size w w2 := hbel1.grown hg2 hsz1 (fun q hq => (hown1.lt q hq).1); have hw2 := own_cat hown2; obtain ⟨A3, c3, hv⟩ := own_slice hw2; subst hv; have hk2 := HK.out.below hbel2; have hsz2 := hbel2.size; clear hown1 hown2 hg2 hbel1 hy1 hsz1)
    | (at_builtin; refine wpList_append_when _ rfl (.tmp 14) (.tmp 15) 22 rfl w2.heap.size 5 i0 (.int .u8 0) 1 Tryd.underlying22 hi hz0 hz1 hz2 rfl .u8 _ [] (up key) w.heap.size c0 key.length A0 (up_len key) rfl rfl (World.ownsRow_made w2 #[] 0 (Nat.le_refl _) (Nat.zero_le _) rfl) (hk2.alloc hsz2 _) HAK.out (by rw [List.length_nil, up_len]; unfold maxLen; omega) (by rw [List.length_nil, up_len]; omega) (by simp) ?_; intro v3 w3 hown3 hg3 _; have hbel3 : Below w2.heap.size w2 w3 := (((Below.refl _ _).alloc (Nat.le_refl _) _).grown hg3 (by simp) fun q hq => own0 hq); have hw3 := own_key hown3; obtain ⟨A4, c4, hv⟩ := own_slice hw3; subst hv; clear hown3 hg3 hk2 hsz2))
  go_cut [8] (fun s wx => (∃ (lk : List Nat) (A5 : Option Addr) (c5 : Nat), s = .slice A5 lk.length c5 ∧ Ints wx wx.heap.size .u8 A5 (up lk) ∧ (A5 = none → c5 = 0) ∧ lk.length ≤ c5 ∧ lk.length ≤ 1048577 ∧ (∀ b ∈ lk, b < 256) ∧ ∀ t, macN lk t = macN key t) ∧ Below w2.heap.size w2 wx)
  case first =>
    by_cases h64 : (key.length : Int) < 64
    · go_wp2_with (at_builtin; refine wpList_append_own_at _ rfl _ _ 22 rfl w2.heap.size 5 i0 (.int .u8 0) 1 1 Tryd.underlying22 hi hz0 hz1 hz2 rfl (by decide) _ _ _ rfl (hw3.alloc _) ⟨w3.heap.size, 0, none⟩ 1 1 [.int .u8 0] rfl rfl (cell_one_new _ _ _) ?d1 ?d2 ?d3 ?d4 ?_)
      case d1 => intro u hu; simp at hu; subst hu; rfl
      case d2 => unfold maxLen; omega
      case d3 => omega
      case d4 => have := hbel3.size; simp; omega
      intro v4 w4 hown4 hg4 _ _
      have hw4 : w4.ownsRow w2.heap.size 5 1 v4 (key ++ [0]).length ((up (key ++ [0])).map (Value.int .u8)) := by
        rw [up_append, List.map_append, List.length_append]; exact hown4
      have hb4 : Below w2.heap.size w2 w4 := (hbel3.alloc hbel3.size _).grown hg4 (by have := hbel3.size; simp; omega) fun q hq => (hw3.lt q hq).1
      obtain ⟨A5, c5, hv⟩ := own_slice hw4
      subst hv
      have hi4 : Ints w4 w4.heap.size .u8 A5 (up (key ++ [0])) := Ints.of_own (c := c5) (n := (key ++ [0]).length) (by rw [up_len]; exact hw4)
      have hn4 := own_nil hw4
      have hl4 := own_le hw4
      obtain ⟨lk, hlk⟩ : ∃ lk, lk = key ++ [0] := ⟨_, rfl⟩
      have hll : lk.length = key.length + 1 := by rw [hlk, List.length_append]; rfl
      have HLK := Lib.hid hlk
      rw [← hlk] at hi4 hl4
      have hsl : (key ++ [0]).length = lk.length := by rw [← hlk]
      rw [hsl]
      clear hown4 hg4 hw4 hlk hsl
      go_wp2
      go_meet
      refine ⟨⟨lk, A5, c5, rfl, hi4, hn4, hl4, by omega, ?_, fun t => by rw [HLK.out]; exact macN_zero key t (by omega)⟩, hb4⟩
      intro b hb
      rw [HLK.out] at hb
      rcases List.mem_append.1 hb with h | h
      · exact HB0.out b h
      · simp at h; omega
    · go_wp2
      go_meet
      exact ⟨⟨key, A4, c4, rfl, Ints.of_own (c := c4) (n := key.length) (by rw [up_len]; exact hw3), own_nil hw3, own_le hw3, by omega, HB0.out, fun _ => rfl⟩, hbel3⟩
  case rest =>
    obtain ⟨⟨lk, A5, c5, rfl, hi5, hn5, hl5, hm5, hb5, hmac⟩, hbc⟩ := hcut
    have hAll : Ints wc w2.heap.size .u8 A3 (up (xs ++ ys)) := (Ints.of_own (c := c3) (n := (xs ++ ys).length) (by rw [up_len]; exact hw2)).below hbc
    have hn3 := own_nil hw2
    have hl3 := own_le hw2
    have hbA : ∀ b ∈ xs ++ ys, b < 256 := fun b hb => by rcases List.mem_append.1 hb with h | h; exact HB1.out b h; exact HB2.out b h
    have hbw := chain hbel2 hbc
    have hlen : (xs ++ ys).length = xs.length + ys.length := List.length_append
    have HC1 : Hid (∀ (w' : World) (g : Nat) (t : TypeId), Below wc.heap.size wc w' → w'.heap[g]? = some (.cells #[.slice A1 xs.length c1, .slice A2 ys.length c2] t (0, 0)) →
        Calls Tryd.prog 8 #[.slice A0 key.length c0, .slice (some ⟨g, 0, none⟩) 2 2] w' fun e w'' => e = .returned (.agg (BA (macN key (xs ++ ys)))) ∧ Below w'.heap.size w' w'') := fun w' g t hb h => by
      have hbb := chain hbw hb
      have H := HC A0 c0 key (some ⟨g, 0, none⟩) 2 [⟨A1, c1, xs⟩, ⟨A2, c2, ys⟩] w' hbb ((HK.out.below hbb).more hbb.size) HAK.out HB0.out hc0 (by omega)
        (parts_of_row h rfl (fun p hp => by
          simp only [List.mem_cons, List.not_mem_nil, or_false] at hp
          rcases hp with rfl | rfl
          · exact ⟨(HX.out.below hbb).more hbb.size, HAX.out, HB1.out, hc1⟩
          · exact ⟨(HY.out.below hbb).more hbb.size, HAY.out, HB2.out, hc2⟩)) (by simp) (by simp) (by simp [cat]; omega)
      rw [show cat [⟨A1, c1, xs⟩, ⟨A2, c2, ys⟩] = xs ++ ys by simp [cat]] at H
      exact H
    have HC2 : Hid (∀ (w' : World) (g : Nat) (t : TypeId), Below wc.heap.size wc w' → w'.heap[g]? = some (.cells #[.slice A3 (xs.length + ys.length) c3] t (0, 0)) →
        Calls Tryd.prog 8 #[.slice A0 key.length c0, .slice (some ⟨g, 0, none⟩) 1 1] w' fun e w'' => e = .returned (.agg (BA (macN key (xs ++ ys)))) ∧ Below w'.heap.size w' w'') := fun w' g t hb h => by
      have hbb := chain hbw hb
      have H := HC A0 c0 key (some ⟨g, 0, none⟩) 1 [⟨A3, c3, xs ++ ys⟩] w' hbb ((HK.out.below hbb).more hbb.size) HAK.out HB0.out hc0 (by omega)
        (parts_of_row h (by simp) (fun p hp => by
          simp only [List.mem_singleton] at hp
          subst hp
          exact ⟨(hAll.below (hb.mono hbc.size)).more (Nat.le_trans hbc.size hb.size), hn3, hbA, hl3⟩)) (by simp) (by simp) (by simp [cat]; omega)
      rw [show cat [⟨A3, c3, xs ++ ys⟩] = xs ++ ys by simp [cat]] at H
      exact H
    have HC4 : Hid (∀ (w' : World) (g : Nat) (t : TypeId), Below wc.heap.size wc w' → w'.heap[g]? = some (.cells #[.slice none 0 0, .slice A3 (xs.length + ys.length) c3, .slice none 0 0] t (0, 0)) →
        Calls Tryd.prog 8 #[.slice A5 lk.length c5, .slice (some ⟨g, 0, none⟩) 3 3] w' fun e w'' => e = .returned (.agg (BA (macN key (xs ++ ys)))) ∧ Below w'.heap.size w' w'') := fun w' g t hb h => by
      have H := HC A5 c5 lk (some ⟨g, 0, none⟩) 3 [⟨none, 0, []⟩, ⟨A3, c3, xs ++ ys⟩, ⟨none, 0, []⟩] w' (chain hbw hb) ((hi5.below hb).more hb.size) hn5 hb5 hl5 (by omega)
        (parts_of_row h (by simp) (fun p hp => by
          simp only [List.mem_cons, List.not_mem_nil, or_false] at hp
          rcases hp with rfl | rfl | rfl
          · exact ⟨Ints.nil _ _ _ _, fun _ => rfl, by simp, Nat.le_refl _⟩
          · exact ⟨(hAll.below (hb.mono hbc.size)).more (Nat.le_trans hbc.size hb.size), hn3, hbA, hl3⟩
          · exact ⟨Ints.nil _ _ _ _, fun _ => rfl, by simp, Nat.le_refl _⟩)) (by simp) (by simp) (by simp [cat]; omega)
      rw [show cat [⟨none, 0, []⟩, ⟨A3, c3, xs ++ ys⟩, ⟨none, 0, []⟩] = xs ++ ys by simp [cat], hmac] at H
      exact H
    have heq : ∀ w : World, (Op.equalIn 10000 24 (.agg (BA (macN key (xs ++ ys)))) (.agg (BA (macN key (xs ++ ys))))).run Tryd.prog w = .ok true w := fun w => by
      have := run_eqArrays (P := Tryd.prog) (t := 24) (e := 5) (n := 32) (i := i0) (by kernel_rfl) Tryd.underlying5 Tryd.underlying24 hi hz1 (macN key (xs ++ ys)) (macN key (xs ++ ys)) rfl rfl w
      rw [this, beq_self_eq_true]
    obtain ⟨M, hM⟩ : ∃ M, M = BA (macN key (xs ++ ys)) := ⟨_, rfl⟩
    rw [← hM] at HC1 HC2 HC4 heq
    have HBW := Lib.hid hbw
    clear hM hw2 hw3 hbel2 hbel3 hi5 hn5 hl5 hm5 hb5 hmac hbc hAll hn3 hl3 hbA hbw hlen HB0 HB1 HB2 HX HY HK HAX HAY HAK
    have hbx : Below wc.heap.size wc wc := Below.refl _ _
    go_wp2_with (first
      | (go_at_call 9; with_reducible (refine Calls.mono (HA.out _ (chain HBW.out hbx)) ?_); rintro e w5 ⟨rfl, hb5⟩; have hbx := chain hbx hb5)
      | (go_at_call_of 8 (Value.slice A5 lk.length c5); with_reducible (refine Calls.mono (HC4.out _ _ 22 ?hb ?hc) ?_); (case hb => first | with_reducible exact hbx | with_reducible exact hbx.alloc hbx.size _ | with_reducible exact below_alloc2 hbx); (case hc => exact hn1); rintro e w8 ⟨rfl, hb8⟩; have hbx : Below wc.heap.size wc w8 := (by first | with_reducible exact chain hbx hb8 | with_reducible exact below_one hbx hb8 | with_reducible exact below_two hbx hb8))
      | (go_at_call 8; have h6 := hb6; with_reducible (refine Calls.mono (HC2.out _ _ 22 ?hb ?hc) ?_); (case hb => first | with_reducible exact hbx | with_reducible exact hbx.alloc hbx.size _ | with_reducible exact below_alloc2 hbx); (case hc => exact hn1); rintro e w7 ⟨rfl, hb7⟩; have hbx : Below wc.heap.size wc w7 := (by first | with_reducible exact chain hbx hb7 | with_reducible exact below_one hbx hb7 | with_reducible exact below_two hbx hb7))
      | (go_at_call 8; with_reducible (refine Calls.mono (HC1.out _ _ 22 ?hb ?hc) ?_); (case hb => first | with_reducible exact hbx | with_reducible exact hbx.alloc hbx.size _ | with_reducible exact below_alloc2 hbx); (case hc => exact hn1); rintro e w6 ⟨rfl, hb6⟩; have hbx : Below wc.heap.size wc w6 := (by first | with_reducible exact chain hbx hb6 | with_reducible exact below_one hbx hb6 | with_reducible exact below_two hbx hb6)))
    go_ret
    exact ⟨rfl, chain HBW.out hbx⟩

end Go.Proofs.YtocnbhefjhammaaDoor
