/-
  StreamApart, from what is asked of the layer's calls.
-/
import Derived.Test.YtcoiincgclglbaaStrMasks
import Derived.Deep.RegionHeld3
import Derived.Test.YtcoiincgclglbaaTextEq
namespace Go.Proofs.Ytcoiincgclglbaa
open Go.RowKit

theorem eight_inj {v w : Int} (h1 : -9223372036854775808 ≤ v) (h2 : v ≤ 9223372036854775807) (h3 : -9223372036854775808 ≤ w) (h4 : w ≤ 9223372036854775807) (h : eightN v = eightN w) : v = w := by
  obtain ⟨a, ha⟩ : ∃ a : Nat, (a : Int) = v % 18446744073709551616 := ⟨(v % 18446744073709551616).toNat, by omega⟩
  obtain ⟨b, hb⟩ : ∃ b : Nat, (b : Int) = w % 18446744073709551616 := ⟨(w % 18446744073709551616).toNat, by omega⟩
  unfold eightN at h
  rw [← ha, ← hb, Int.toNat_natCast, Int.toNat_natCast] at h
  simp only [eightTo, List.range, List.range.loop, List.map_cons, List.map_nil, List.cons.injEq, and_true] at h
  omega
theorem four_inj {a b : Nat} (h1 : a < 4294967296) (h2 : b < 4294967296) (h : (eightN (a : Int)).drop 4 = (eightN (b : Int)).drop 4) : a = b := by
  have ea : ((a : Int) % 18446744073709551616).toNat = a := by omega
  have eb : ((b : Int) % 18446744073709551616).toNat = b := by omega
  unfold eightN at h
  rw [ea, eb] at h
  simp only [eightTo, List.range, List.range.loop, List.map_cons, List.map_nil, List.drop_succ_cons, List.drop_zero, List.cons.injEq, and_true] at h
  omega
theorem counter_set (s v : Int) (z : Nat) : (counterOf s v).set 15 z = (eightN s).drop 4 ++ (eightN v ++ [0, 0, 0, z]) := by
  unfold counterOf counterN eightN
  simp [eightTo, List.range, List.range.loop]
theorem counter_apart {a b i j : Nat} {v w : Int} (ha : a < 4294967296) (hb : b < 4294967296) (h1 : -9223372036854775808 ≤ v) (h2 : v ≤ 9223372036854775807) (h3 : -9223372036854775808 ≤ w) (h4 : w ≤ 9223372036854775807) :
    (counterOf a v).set 15 i = (counterOf b w).set 15 j ↔ a = b ∧ v = w ∧ i = j := by
  rw [counter_set, counter_set]
  constructor
  · intro h
    have l1 : ((eightN (a : Int)).drop 4).length = ((eightN (b : Int)).drop 4).length := rfl
    obtain ⟨q1, q2⟩ := List.append_inj h l1
    have l2 : (eightN v).length = (eightN w).length := rfl
    obtain ⟨q3, q4⟩ := List.append_inj q2 l2
    exact ⟨four_inj ha hb q1, eight_inj h1 h2 h3 h4 q3, by simpa using q4⟩
  · rintro ⟨rfl, rfl, rfl⟩; rfl

theorem counter_lt (s v : Int) : ∀ x ∈ counterOf s v, x < 256 := fun x hx => by
  unfold counterOf counterN at hx
  rcases List.mem_append.1 hx with hx | hx
  · rcases List.mem_append.1 hx with hx | hx
    · exact eightN_lt s x (List.mem_of_mem_drop hx)
    · exact eightN_lt v x hx
  · simp at hx; omega
theorem set_lt' {l : List Nat} {n x : Nat} (h : ∀ y ∈ l, y < 256) (hx : x < 256) : ∀ y ∈ l.set n x, y < 256 := fun y hy => by
  rcases List.mem_or_eq_of_mem_set hy with g | g
  · exact h y g
  · rw [g]; exact hx
theorem ints_set {w : World} {B g o i z : Nat} {l : List Nat} (h : Ints w B .u8 (some ⟨g, o, none⟩) (up l)) (_hi : i < l.length) : Ints (w.setCell ⟨g, o + i, none⟩ (.int .u8 (z : Int))) B .u8 (some ⟨g, o, none⟩) (up (l.set i z)) := fun k hk => by
  rw [up_len, List.length_set] at hk
  obtain ⟨b, o', e, hb, hc⟩ := h k (by rw [up_len]; exact hk)
  injection e with e
  injection e with e1 e2
  subst e1 e2
  refine ⟨g, o, rfl, hb, ?_⟩
  rw [up_getD]
  by_cases hik : i = k
  · subst hik
    rw [World.cell?_setCell_same _ _ _ hc]
    simp [List.getD_eq_getElem?_getD, hk]
  · rw [World.cell?_setCell_other _ _ _ _ (by simp), hc, up_getD]
    simp [List.getD_eq_getElem?_getD, hik]
theorem ints_other {w : World} {B g : Nat} {A : Option Addr} {zs : List Int} (h : Ints w B .u8 A zs) (hB : B ≤ g) (o : Nat) (v : Value) : Ints (w.setCell ⟨g, o, none⟩ v) B .u8 A zs := fun k hk => by
  obtain ⟨b, o', e, hb, hc⟩ := h k hk
  refine ⟨b, o', e, hb, ?_⟩
  rw [World.cell?_setCell_other _ _ _ _ (by intro e9; injection e9 with e9; omega), hc]

theorem ints_apart {w : World} {B g h o : Nat} {zs : List Int} (hr : Ints w B .u8 (some ⟨g, o, none⟩) zs) (hne : g ≠ h) (q : Nat) (v : Value) : Ints (w.setCell ⟨h, q, none⟩ v) B .u8 (some ⟨g, o, none⟩) zs := fun k hk => by
  obtain ⟨b, o', e, hb, hc⟩ := hr k hk
  refine ⟨b, o', e, hb, ?_⟩
  injection e with e
  injection e with e1 e2
  rw [World.cell?_setCell_other _ _ _ _ (by intro e9; injection e9 with e9; omega), hc]
theorem counter_facts {w w' : World} {g o : Nat} {s v : Int} (hi : Ints w w.heap.size .u8 (some ⟨g, o, none⟩) (up (counterOf s v))) (hf : ∀ i, i < 16 → w.frozen? ⟨g, o + i, none⟩ = false) (hb : Below w.heap.size w w') :
    g < w.heap.size ∧ w'.cell? ⟨g, o + 15, none⟩ = some (.int .u8 0) ∧ w'.frozen? ⟨g, o + 15, none⟩ = false := by
  have hg : g < w.heap.size := by
    obtain ⟨b, o', e, hlt, _⟩ := hi 0 (by rw [up_len, counterOf_len]; decide)
    injection e with e
    injection e with e1 _
    omega
  have hc := (hi.below hb).cell (i := 15) (by rw [up_len, counterOf_len]; decide)
  rw [up_getD, show (counterOf s v).getD 15 0 = 0 from rfl] at hc
  refine ⟨hg, hc, ?_⟩
  rw [hb.frozen (p := ⟨g, o + 15, none⟩) hg]
  exact hf 15 (by decide)

set_option maxRecDepth 20000 in
set_option maxHeartbeats 1600000 in
theorem strApart_go (a b i j : Nat) (v u : Int) (w : World) (HS : StrSpec w) (ha : a < 4294967296) (hb : b < 4294967296) (h1 : -9223372036854775808 ≤ v) (h2 : v ≤ 9223372036854775807) (h3 : -9223372036854775808 ≤ u) (h4 : u ≤ 9223372036854775807) (hi : i < 256) (hj : j < 256) :
    Calls Try.prog 6 #[.int .u32 (a : Int), .int .u32 (b : Int), .int .i64 v, .int .i64 u, .int .u8 (i : Int), .int .u8 (j : Int)] w fun e w' => e = .returned (.bool true) ∧ Below w.heap.size w w' := by
  have HA := Lib.hid (strAwake HS)
  have HC1 := Lib.hid (HS.counter a v w (Below.refl _ _) (by omega) (by omega) h1 h2)
  have HC2 := Lib.hid (fun (W : World) (hb : Below w.heap.size w W) => HS.counter b u W hb (by omega) (by omega) h3 h4)
  clear HS
  go_enter Try.func6, Try.ntmps6
  obtain ⟨p, hp⟩ : ∃ p, p = i % 4 := ⟨_, rfl⟩
  obtain ⟨r, hr⟩ : ∃ r, r = j % 4 := ⟨_, rfl⟩
  have hp1 : (i : Int) % 4 = (p : Int) := by omega
  have hr1 : (j : Int) % 4 = (r : Int) := by omega
  have hp2 : (i : Int).tmod 4 = (p : Int) := by rw [Int.tmod_eq_emod_of_nonneg (by omega)]; exact hp1
  have hr2 : (j : Int).tmod 4 = (r : Int) := by rw [Int.tmod_eq_emod_of_nonneg (by omega)]; exact hr1
  have hp3 : (p : Int) % 256 = (p : Int) := by omega
  have hr3 : (r : Int) % 256 = (r : Int) := by omega
  have hp4 : p < 256 := by omega
  have hr4 : r < 256 := by omega
  have hta := text_apart (set_lt' (n := 15) (counter_lt (a : Int) v) hp4) (set_lt' (n := 15) (counter_lt (b : Int) u) hr4)
  have hca := counter_apart (i := p) (j := r) ha hb h1 h2 h3 h4
  have HI1 : Hid (∀ (W : World) (g o c : Nat), Ints W W.heap.size .u8 (some ⟨g, o, none⟩) (up ((counterOf (a : Int) v).set 15 p)) → (convert 22 9 (.slice (some ⟨g, o, none⟩) 16 c)).run Try.prog W = .ok (.string (strOfNums (up ((counterOf (a : Int) v).set 15 p)))) W) := fun W g o c h => h.textAs Try.underlying22 Try.underlying5 Try.underlying9 (by rw [up_len, List.length_set, counterOf_len]) rfl c
  have HI2 : Hid (∀ (W : World) (g o c : Nat), Ints W W.heap.size .u8 (some ⟨g, o, none⟩) (up ((counterOf (b : Int) u).set 15 r)) → (convert 22 9 (.slice (some ⟨g, o, none⟩) 16 c)).run Try.prog W = .ok (.string (strOfNums (up ((counterOf (b : Int) u).set 15 r)))) W) := fun W g o c h => h.textAs Try.underlying22 Try.underlying5 Try.underlying9 (by rw [up_len, List.length_set, counterOf_len]) rfl c
  obtain ⟨s1, hs1⟩ : ∃ s, s = strOfNums (up ((counterOf (a : Int) v).set 15 p)) := ⟨_, rfl⟩
  obtain ⟨s2, hs2⟩ : ∃ s, s = strOfNums (up ((counterOf (b : Int) u).set 15 r)) := ⟨_, rfl⟩
  rw [← hs1] at HI1
  rw [← hs2] at HI2
  rw [← hs1, ← hs2] at hta
  have hway : (((a : Int) == (b : Int)) = false ∧ (s1.toList == s2.toList) = false) ∨ (((a : Int) == (b : Int)) = true ∧ (v == u) = false ∧ (s1.toList == s2.toList) = false) ∨ (((a : Int) == (b : Int)) = true ∧ (v == u) = true ∧ ((p : Int) == (r : Int)) = false ∧ (s1.toList == s2.toList) = false) ∨ (((a : Int) == (b : Int)) = true ∧ (v == u) = true ∧ ((p : Int) == (r : Int)) = true ∧ (s1.toList == s2.toList) = true) := by
    rw [hta]
    by_cases e1 : a = b
    · by_cases e2 : v = u
      · by_cases e3 : p = r
        · refine Or.inr (Or.inr (Or.inr ⟨by rw [beq_iff_eq]; omega, by rw [beq_iff_eq]; exact e2, by rw [beq_iff_eq]; omega, by rw [beq_iff_eq]; exact hca.2 ⟨e1, e2, e3⟩⟩))
        · refine Or.inr (Or.inr (Or.inl ⟨by rw [beq_iff_eq]; omega, by rw [beq_iff_eq]; exact e2, by rw [beq_eq_false_iff_ne]; omega, by rw [beq_eq_false_iff_ne]; exact fun hh => e3 (hca.1 hh).2.2⟩))
      · refine Or.inr (Or.inl ⟨by rw [beq_iff_eq]; omega, by rw [beq_eq_false_iff_ne]; exact e2, by rw [beq_eq_false_iff_ne]; exact fun hh => e2 (hca.1 hh).2.1⟩)
    · exact Or.inl ⟨by rw [beq_eq_false_iff_ne]; omega, by rw [beq_eq_false_iff_ne]; exact fun hh => e1 (hca.1 hh).1⟩
  clear hp hr hs1 hs2 hta hca hp4 hr4 hi hj h1 h2 h3 h4
  rcases hway with ⟨x1, x2⟩ | ⟨x1, x2, x3⟩ | ⟨x1, x2, x3, x4⟩ | ⟨x1, x2, x3, x4⟩
  all_goals
    go_wp2_with (first
      | (go_at_call 10; with_reducible (refine Calls.mono (HA.out _ hb34) ?_); rintro e w5 ⟨rfl, hb5⟩; obtain ⟨hl3, hq3, hz3⟩ := counter_facts hi3 hf3 (chain hb4 hb5); obtain ⟨hl4, hq4, hz4⟩ := counter_facts hi4 hf4 hb5; have hne : g3 ≠ g4 := (by omega); have hk1 := HI1.out ((w5.setCell ⟨g3, o3 + 15, none⟩ (.int .u8 (p : Int))).setCell ⟨g4, o4 + 15, none⟩ (.int .u8 (r : Int))) g3 o3 c3 ((ints_other (ints_set (hi3.below (chain hb4 hb5)) (by rw [counterOf_len]; decide)) (show w3.heap.size ≤ g4 from hg4) _ _).more (by simp [World.setCell]; exact (chain hb4 hb5).size)); have hk2 := HI2.out ((w5.setCell ⟨g3, o3 + 15, none⟩ (.int .u8 (p : Int))).setCell ⟨g4, o4 + 15, none⟩ (.int .u8 (r : Int))) g4 o4 c4 ((ints_set (ints_apart (hi4.below hb5) hne.symm _ _) (by rw [counterOf_len]; decide)).more (by simp [World.setCell]; exact hb5.size)); have hbz : Below w.heap.size w ((w5.setCell ⟨g3, o3 + 15, none⟩ (.int .u8 (p : Int))).setCell ⟨g4, o4 + 15, none⟩ (.int .u8 (r : Int))) := ((chain hb34 hb5).setCell hg3 _).setCell (Nat.le_trans hb3.size hg4) _)
      | (go_at_call 12; with_reducible (refine Calls.mono (HC2.out _ hb3) ?_); rintro e w4 ⟨g4, o4, c4, rfl, hc4, hg4, hi4, hf4, hb4⟩; have hb34 := chain hb3 hb4)
      | (go_at_call 12; with_reducible (refine Calls.mono HC1.out ?_); rintro e w3 ⟨g3, o3, c3, rfl, hc3, hg3, hi3, hf3, hb3⟩))
    go_ret
    exact ⟨rfl, hbz⟩

end Go.Proofs.Ytcoiincgclglbaa
