/-
  The landed disk: New, Limit, Pending, Crash.
-/
import Derived.Test.YtnbgnllkikajpaaDiskC9
import Derived.OwnWalk
namespace Go.Proofs.Ytnbgnllkikajpaa
open Go.RowKit

set_option maxHeartbeats 800000 in
theorem new_no (n : Int) (hbad : n < 1 ∨ 4096 < n) (w : World) : Calls Try.prog 9 #[.int .i64 n] w fun e w' => e = .returned (.tuple #[.pointer none, .int .i64 1]) ∧ Below w.heap.size w w' := by
  have hb : Hid (Below w.heap.size w w) := Below.refl _ _
  by_cases h1 : n < 1
  · clear hbad
    go_enter Try.func9, Try.ntmps9
    go_wp2
    go_ret2
    exact ⟨rfl, hb.out⟩
  · have h2 : 4096 < n := by omega
    clear hbad
    go_enter Try.func9, Try.ntmps9
    go_wp2
    go_ret2
    exact ⟨rfl, hb.out⟩

set_option maxHeartbeats 800000 in
theorem new_yes (n : Nat) (h1 : 1 ≤ n) (h2 : n ≤ 4096) (w : World) : Calls Try.prog 9 #[.int .i64 (n : Int)] w fun e w' => ∃ (p : Nat) (F : Nat → Prop), e = .returned (.tuple #[.pointer (some ⟨p, 0, none⟩), .int .i64 0]) ∧ DiskRep w' p F (newD n) ∧ (∀ b, F b → w.heap.size ≤ b) ∧ Below w.heap.size w w' := by
  have hmm := @run_makeMap Try.prog
  have k1 : ¬ (n : Int) < 1 := by omega
  have k2 : ¬ (4096 : Int) < (n : Int) := by omega
  have R : Hid (DiskRep (((w.alloc (.map #[] 0)).alloc (.map #[] 0)).alloc (.cells #[.int .i64 (n : Int), .map (some w.heap.size), .slice none 0 0, .map (some (w.heap.size + 1)), .int .i64 (-1), .bool false] 60)) (w.heap.size + 1 + 1) (ownD (w.heap.size + 1 + 1) w.heap.size (w.heap.size + 1) (.slice none 0 0)) (newD n) ∧ (∀ b, ownD (w.heap.size + 1 + 1) w.heap.size (w.heap.size + 1) (.slice none 0 0) b → w.heap.size ≤ b) ∧
      Below w.heap.size w (((w.alloc (.map #[] 0)).alloc (.map #[] 0)).alloc (.cells #[.int .i64 (n : Int), .map (some w.heap.size), .slice none 0 0, .map (some (w.heap.size + 1)), .int .i64 (-1), .bool false] 60))) := by
    have hs1 : (w.alloc (.map #[] 0)).heap.size = w.heap.size + 1 := by simp
    have hs2 : ((w.alloc (.map #[] 0)).alloc (.map #[] 0)).heap.size = w.heap.size + 1 + 1 := by simp
    have m1 : (w.alloc (.map #[] 0)).ownsMap Try.prog 3 heldElem w.heap.size 0 (.map [] : DataW Value) := World.ownsMap_made _ _ _ _
    have m2 := World.ownsMap_made (H := Unit) (w.alloc (.map #[] 0)) Try.prog 3 (plainElem Try.prog 3)
    rw [hs1] at m2
    have hbox := heap_alloc_new ((w.alloc (.map #[] 0)).alloc (.map #[] 0)) (.cells #[.int .i64 (n : Int), .map (some w.heap.size), .slice none 0 0, .map (some (w.heap.size + 1)), .int .i64 (-1), .bool false] 60)
    rw [hs2] at hbox
    refine ⟨⟨w.heap.size, w.heap.size + 1, .slice none 0 0, -1, .map [], .map [], rfl, newD_ok h1 h2, ?_, (m1.alloc _).alloc _, secMap_none n, m2.alloc _, newMap_none, World.ownsRow_nil _ _ _ _, .inl ⟨rfl, by decide⟩, by unfold I64c; decide, ⟨by omega, by omega, by omega⟩, ⟨by simp [Value.ownBlock], by simp [Value.ownBlock], by simp [Value.ownBlock]⟩⟩, fun b hb => ?_, ((Below.refl _ _).alloc (Nat.le_refl _) _ |>.alloc (by omega) _ |>.alloc (by omega) _)⟩
    · rw [hbox]; simp [newD]
    · rcases hb with e | e | e | e
      · omega
      · omega
      · omega
      · cases e
  clear h1 h2
  go_enter Try.func9, Try.ntmps9
  go_wp2
  go_ret2
  exact ⟨_, rfl, _, R.out⟩

section
variable {w : World} {p gl gn : Nat} {V : Value} {z : Int} {DL : DataW Value} {DN : DataW Unit} {s : Dk}
theorem limit_go (h : DiskIn w p gl gn V z DL DN s) (n : Int) (hn : I64c n) : Calls Try.prog 18 #[.pointer (some ⟨p, 0, none⟩), .int .i64 n] w fun e w' => ∃ F', e = .returned (.tuple #[]) ∧ DiskRep w' p F' (limitS s n) ∧ More (ownD p gl gn V) F' w.heap.size ∧ Away (ownD p gl gn V) w w' := by
  obtain ⟨_, _, _, _, c4, _⟩ := h.cells
  have f4 := h.thaw 4
  have R : Hid (DiskRep (w.setCell ⟨p, 4, none⟩ (.int .i64 n)) p (ownD p gl gn V) (limitS s n) ∧ More (ownD p gl gn V) (ownD p gl gn V) w.heap.size ∧ Away (ownD p gl gn V) w (w.setCell ⟨p, 4, none⟩ (.int .i64 n))) := by
    refine ⟨⟨gl, gn, V, n, DL, DN, rfl, h.turn n s.off (limitS s n).lim ?_ hn (setc_same w p 4 (.int .i64 n) _ _ h.box) (fun b hb => setc_other w p b 4 _ (Ne.symm hb))⟩, fun b q => .inl q, (Away.refl _ w).set own_p 4 _⟩
    unfold limitS
    by_cases q : n < 0
    · exact .inl ⟨if_pos q, q⟩
    · exact .inr ⟨n.toNat, if_neg q, by omega⟩
  clear h hn
  go_enter Try.func18, Try.ntmps18
  go_wp2
  exact bodyPost_end (results_none rfl _ _ _) rfl ⟨_, rfl, R.out⟩

theorem pending_go (h : DiskIn w p gl gn V z DL DN s) : Calls Try.prog 22 #[.pointer (some ⟨p, 0, none⟩)] w fun e w' => e = .returned (.int .i64 (s.pend.length : Int)) ∧ Below w.heap.size w w' := by
  obtain ⟨_, _, c2, _⟩ := h.cells
  obtain ⟨A, c, hV, _, _⟩ := h.len
  rw [hV] at c2
  have hb : Hid (Below w.heap.size w w) := Below.refl _ _
  clear h hV
  go_enter Try.func22, Try.ntmps22
  go_wp2
  go_ret
  exact ⟨rfl, hb.out⟩

theorem limit_nil (n : Int) (w : World) : Calls Try.prog 18 #[.pointer none, .int .i64 n] w fun e w' => e = .returned (.tuple #[]) ∧ Below w.heap.size w w' := by
  have hb : Hid (Below w.heap.size w w) := Below.refl _ _
  go_enter Try.func18, Try.ntmps18
  go_wp2
  exact bodyPost_end (results_none rfl _ _ _) rfl ⟨rfl, hb.out⟩
theorem pending_nil (w : World) : Calls Try.prog 22 #[.pointer none] w fun e w' => e = .returned (.int .i64 0) ∧ Below w.heap.size w w' := by
  have hb : Hid (Below w.heap.size w w) := Below.refl _ _
  go_enter Try.func22, Try.ntmps22
  go_wp2
  go_ret
  exact ⟨rfl, hb.out⟩
theorem crash_nil (A : Option Addr) (l c : Nat) (w : World) : Calls Try.prog 19 #[.pointer none, .slice A l c] w fun e w' => e = .returned (.tuple #[]) ∧ Below w.heap.size w w' := by
  have hb : Hid (Below w.heap.size w (w.alloc (.cells #[.slice A l c] 31))) := (Below.refl _ _).alloc (Nat.le_refl _) _
  go_enter Try.func19, Try.ntmps19
  go_wp2
  refine bodyPost_ret (results_none rfl _ _ _) rfl ?_
  exact ⟨rfl, hb.out⟩

set_option maxHeartbeats 1600000 in
theorem crash_go (h : DiskIn w p gl gn V z DL DN s) (A : Option Addr) (c : Nat) (l : List Bool) (hB : Bools w w.heap.size A l) (hF : Off (ownD p gl gn V) A l.length) :
    Calls Try.prog 19 #[.pointer (some ⟨p, 0, none⟩), .slice A l.length c] w fun e w' => ∃ F', e = .returned (.tuple #[]) ∧ DiskRep w' p F' (crashS s l) ∧ More (ownD p gl gn V) F' w.heap.size ∧ Away (ownD p gl gn V) w w' := by
  have hmf : ∀ (fn : Fn) (first cap : Array Value) (w : World), (Instr.makeFunc fn first cap).run Try.prog w = .ok (.func fn first cap) w := fun _ _ _ _ => rfl
  have hb : Below w.heap.size w (w.alloc (.cells #[.slice A l.length c] 31)) := (Below.refl _ _).alloc (Nat.le_refl _) _
  have hnew := heap_alloc_new w (.cells #[.slice A l.length c] 31)
  have h1 := h.later hb
  have hA1 : Away (ownD p gl gn V) w (w.alloc (.cells #[.slice A l.length c] 31)) := al_away (Away.refl _ w) _
  have hlt : w.heap.size < (w.alloc (.cells #[.slice A l.length c] 31)).heap.size := by simp
  have hno : ¬ ownD p gl gn V w.heap.size := fun q => absurd (h.lt _ q) (Nat.lt_irrefl _)
  have HST := Lib.hid (settle_go h1 36 #[.pointer (some ⟨w.heap.size, 0, none⟩)] (fun i => l.getD i false) (fun args w => by kernel_rfl) (fun i W hi ha => by
    refine crash1_go w.heap.size c w.heap.size A l W ((ha.cell hlt hno).trans (cell_of_row _ _ _ _ _ _ hnew)) (fun j hj => ?_) i
    obtain ⟨b, o, e, hbl, hc⟩ := hB j hj
    refine ⟨b, o, e, hbl, ?_⟩
    rw [ha.cell (Nat.lt_trans hbl hlt) (hF (by omega) b o e), hb.cell (p := ⟨b, o + j, none⟩) hbl]; exact hc))
  have HE : Hid (∀ w3 : World, ((∃ DL' DN', DiskIn w3 p gl gn (.slice none 0 0) z DL' DN' ⟨putP (keptK s.pend (fun i => l.getD i false) s.pend.length) s.last, [], s.lim, s.off⟩) ∧ Away (ownD p gl gn V) (w.alloc (.cells #[.slice A l.length c] 31)) w3) →
      (w3.cell? ⟨p, 4, none⟩ = some (.int .i64 z) ∧ w3.cell? ⟨p, 5, none⟩ = some (.bool s.off) ∧ w3.frozen? ⟨p, 4, none⟩ = false ∧ w3.frozen? ⟨p, 5, none⟩ = false) ∧
      DiskRep ((w3.setCell ⟨p, 5, none⟩ (.bool false)).setCell ⟨p, 4, none⟩ (.int .i64 (-1))) p (ownD p gl gn (.slice none 0 0)) (crashS s l) ∧ More (ownD p gl gn V) (ownD p gl gn (.slice none 0 0)) w.heap.size ∧ Away (ownD p gl gn V) w ((w3.setCell ⟨p, 5, none⟩ (.bool false)).setCell ⟨p, 4, none⟩ (.int .i64 (-1)))) := fun w3 ⟨⟨DL', DN', q1⟩, q2⟩ => by
    obtain ⟨_, _, _, _, e4, e5⟩ := q1.cells
    refine ⟨⟨e4, e5, q1.thaw 4, q1.thaw 5⟩, ⟨gl, gn, _, -1, DL', DN', rfl, ?_⟩, fun b q => ?_, ?_⟩
    · have := q1.turn (w' := (w3.setCell ⟨p, 5, none⟩ (.bool false)).setCell ⟨p, 4, none⟩ (.int .i64 (-1))) (-1) false none (.inl ⟨rfl, by decide⟩) (by unfold I64c; decide) (setc_same _ p 4 _ _ _ (setc_same _ p 5 _ _ _ q1.box)) (fun b hb => (setc_other _ p b 4 _ (Ne.symm hb)).trans (setc_other _ p b 5 _ (Ne.symm hb)))
      rw [keptK_keep] at this
      exact this
    · rcases q with e | e | e | e
      · exact .inl (.inl e)
      · exact .inl (.inr (.inl e))
      · exact .inl (.inr (.inr (.inl e)))
      · cases e
    · exact ((aw_trans hA1 q2 (fun _ q => .inl q)).set own_p 5 _).set own_p 4 _
  obtain ⟨s2, hs2⟩ : ∃ s2, s2 = crashS s l := ⟨_, rfl⟩
  rw [← hs2] at HE ⊢
  clear h hB hF hb hnew h1 hA1 hlt hno hs2
  go_enter Try.func19, Try.ntmps19
  go_wp2_with (go_at_call 34; with_reducible (refine Calls.mono HST.out ?_); rintro e w3 ⟨rfl, hr3⟩
               obtain ⟨⟨y4, y5, f4, f5⟩, hR⟩ := HE.out w3 hr3
               replace hR := Lib.hid hR)
  exact bodyPost_end (results_none rfl _ _ _) rfl ⟨_, rfl, hR.out⟩
end

end Go.Proofs.Ytnbgnllkikajpaa
