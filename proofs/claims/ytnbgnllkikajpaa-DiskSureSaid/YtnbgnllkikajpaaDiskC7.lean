/-
  The landed disk: Flush's attempt; what Crash asks.
-/
import Derived.Test.YtnbgnllkikajpaaDiskC6
namespace Go.Proofs.Ytnbgnllkikajpaa
open Go.RowKit

theorem all_go (i : Nat) (w : World) : Calls Try.prog 35 #[.int .i64 (i : Int)] w fun e w' => e = .returned (.bool true) ∧ w' = w := by
  go_enter Try.func35, Try.ntmps35
  go_wp2
  go_ret
  exact ⟨rfl, rfl⟩

set_option maxHeartbeats 800000 in
theorem crash1_go (b0 c B : Nat) (A : Option Addr) (l : List Bool) (w : World) (hb0 : w.cell? ⟨b0, 0, none⟩ = some (.slice A l.length c)) (hB : Bools w B A l) (i : Nat) :
    Calls Try.prog 36 (#[.int .i64 (i : Int)] ++ #[.pointer (some ⟨b0, 0, none⟩)]) w fun e w' => e = .returned (.bool (l.getD i false)) ∧ w' = w := by
  obtain ⟨N, hN⟩ : ∃ N, N = l.length := ⟨_, rfl⟩
  rw [← hN] at hb0
  by_cases hi : i < l.length
  · obtain ⟨b, o, rfl, _, hc⟩ := hB i hi
    have k0 : (0 : Int) ≤ (i : Int) := by omega
    have k1 : (i : Int) < (N : Int) := by omega
    obtain ⟨v, hv⟩ : ∃ v, v = l.getD i false := ⟨_, rfl⟩
    rw [← hv] at hc ⊢
    clear hB hN hi hv
    go_enter Try.func36, Try.ntmps36
    go_wp2
    go_ret
    exact ⟨rfl, rfl⟩
  · have k1 : ¬ (i : Int) < (N : Int) := by omega
    have e : l.getD i false = false := by rw [List.getD_eq_getElem?_getD, List.getElem?_eq_none (by omega)]; rfl
    rw [e]
    clear hB hN hi e
    go_enter Try.func36, Try.ntmps36
    go_wp2
    go_ret
    exact ⟨rfl, rfl⟩

section
variable {w : World} {p gl gn : Nat} {V : Value} {z : Int} {DL : DataW Value} {DN : DataW Unit} {s : Dk}
theorem spend_off {s : Dk} (h : spendE s = 0) : (spendS s).off = s.off ∧ (spendS s).last = s.last ∧ (spendS s).pend = s.pend := by
  unfold spendS
  split
  · rename_i q; unfold spendE at h; rw [if_pos q] at h; cases h
  · exact ⟨rfl, rfl, rfl⟩
theorem spendE_or (s : Dk) : spendE s = 0 ∨ spendE s = 8 := by unfold spendE; split <;> simp

set_option maxHeartbeats 800000 in
theorem flush1_no (h : DiskIn w p gl gn V z DL DN s) (b0 : Nat) (hb0 : w.cell? ⟨b0, 0, none⟩ = some (.pointer (some ⟨p, 0, none⟩))) (hE : flushE s ≠ 0) :
    Calls Try.prog 33 #[.pointer (some ⟨b0, 0, none⟩)] w fun e w' => e = .panicked (upV (flushE s)) ∧ (DiskIn w' p gl gn V z DL DN (flushS s) ∧ Away (ownD p gl gn V) w w') := by
  obtain ⟨_, _, _, _, _, c5⟩ := h.cells
  have hnot : ∀ (x : Bool) (w : World), (Op.unary .not (.bool x)).run Try.prog w = .ok (.bool (!x)) w := fun _ _ => rfl
  cases ho : s.off with
  | true =>
    have e : flushE s = 8 := by unfold flushE; rw [ho]; rfl
    have e2 : flushS s = s := by unfold flushS; rw [ho]; rfl
    rw [e, e2]
    rw [ho] at c5
    have R := Lib.hid (And.intro h (Away.refl (ownD p gl gn V) w))
    clear h hE e e2
    go_enter Try.func33, Try.ntmps33
    go_wp2_with (go_at_call 25; with_reducible (refine Calls.mono (demand_no _ _) ?_); rintro e w1 ⟨rfl, rfl⟩)
    exact ⟨rfl, rfl, R.out⟩
  | false =>
    have hs : spendE s ≠ 0 := fun q => by unfold flushE at hE; rw [ho, if_neg (by decide)] at hE; exact hE q
    have e : flushE s = 8 := by unfold flushE; rw [ho, if_neg (by decide)]; exact (spendE_or s).resolve_left hs
    have e2 : flushS s = spendS s := by unfold flushS; rw [ho, if_neg (by decide), if_neg hs]
    rw [e, e2]
    rw [ho] at c5
    have HSP := Lib.hid (spend_no_go h hs)
    obtain ⟨s2, hs2⟩ : ∃ s2, s2 = spendS s := ⟨_, rfl⟩
    rw [← hs2] at HSP ⊢
    clear h hE e e2 hs hs2
    go_enter Try.func33, Try.ntmps33
    go_wp2_with (first
      | (go_at_call 27; with_reducible (refine Calls.mono HSP.out ?_); rintro e w1 ⟨rfl, hr1, ha1⟩)
      | (go_at_call 25; with_reducible (refine Calls.mono (demand_ok _ _) ?_); rintro e w1 ⟨rfl, rfl⟩))
    exact ⟨rfl, rfl, hr1, ha1⟩

set_option maxHeartbeats 800000 in
theorem flush1_ok (h : DiskIn w p gl gn V z DL DN s) (b0 : Nat) (hb0 : w.cell? ⟨b0, 0, none⟩ = some (.pointer (some ⟨p, 0, none⟩))) (hn : ¬ ownD p gl gn V b0) (hE : flushE s = 0) :
    Calls Try.prog 33 #[.pointer (some ⟨b0, 0, none⟩)] w fun e w' => e = .returned (.tuple #[]) ∧ ((∃ z' DL' DN', DiskIn w' p gl gn (.slice none 0 0) z' DL' DN' (flushS s)) ∧ Away (ownD p gl gn V) w w') := by
  obtain ⟨_, _, _, _, _, c5⟩ := h.cells
  have hnot : ∀ (x : Bool) (w : World), (Op.unary .not (.bool x)).run Try.prog w = .ok (.bool (!x)) w := fun _ _ => rfl
  have ho : s.off = false := by
    cases q : s.off
    · rfl
    · unfold flushE at hE; rw [q] at hE; cases hE
  have hs : spendE s = 0 := by unfold flushE at hE; rw [ho, if_neg (by decide)] at hE; exact hE
  have e2 : flushS s = ⟨putP s.pend s.last, [], (spendS s).lim, false⟩ := by unfold flushS; rw [ho, if_neg (by decide), if_pos hs, (spend_off hs).1, ho]
  rw [e2]
  rw [ho] at c5
  have HSP := Lib.hid (spend_ok_go h hs)
  have HC : Hid (∀ W, Away (ownD p gl gn V) w W → W.cell? ⟨b0, 0, none⟩ = some (.pointer (some ⟨p, 0, none⟩))) := fun W ha => (ha.cell (World.block_lt_of_cell? w _ hb0) hn).trans hb0
  have HST : Hid (∀ W z', DiskIn W p gl gn V z' DL DN ⟨s.last, s.pend, (spendS s).lim, false⟩ → Away (ownD p gl gn V) w W → Calls Try.prog 34 #[.pointer (some ⟨p, 0, none⟩), .func (.func 35) #[] #[]] W fun e w' => e = .returned (.tuple #[]) ∧ (∃ z' DL' DN', DiskIn w' p gl gn (.slice none 0 0) z' DL' DN' ⟨putP s.pend s.last, [], (spendS s).lim, false⟩) ∧ Away (ownD p gl gn V) w w') := fun W z' hW ha => by
    refine (settle_go hW 35 #[] (fun _ => true) (fun args w => by kernel_rfl) (fun i W' _ _ => all_go i W')).mono ?_
    rintro e w' ⟨q1, ⟨DL', DN', q2⟩, q3⟩
    rw [keptK_all _ _ (Nat.le_refl _), List.take_length] at q2
    exact ⟨q1, ⟨z', DL', DN', q2⟩, aw_trans ha q3 (fun _ q => .inl q)⟩
  obtain ⟨s2, hs2⟩ : ∃ s2, s2 = (⟨putP s.pend s.last, [], (spendS s).lim, false⟩ : Dk) := ⟨_, rfl⟩
  rw [← hs2]
  simp only [← hs2] at HST
  clear h hE e2 hs hs2 hn
  go_enter Try.func33, Try.ntmps33
  go_wp2_with (first
    | (go_at_call 27; with_reducible (refine Calls.mono HSP.out ?_); rintro e w1 ⟨rfl, ⟨z1, hr1⟩, ha1⟩; have y0 := HC.out _ ha1)
    | (go_at_call 34; with_reducible (refine Calls.mono (HST.out _ _ hr1 ha1) ?_); rintro e w2 ⟨rfl, hr2, ha2⟩)
    | (go_at_call 25; with_reducible (refine Calls.mono (demand_ok _ _) ?_); rintro e w1 ⟨rfl, rfl⟩))
  exact bodyPost_end (results_none rfl _ _ _) rfl ⟨rfl, hr2, ha2⟩
end

end Go.Proofs.Ytnbgnllkikajpaa
