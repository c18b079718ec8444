/-
  The landed disk: Read, Lasting, Write, Flush.
-/
import Derived.Test.YtnbgnllkikajpaaDiskCA
namespace Go.Proofs.Ytnbgnllkikajpaa
open Go.RowKit

section
variable {w W1 W' : World} {p gl gn : Nat} {V V' : Value} {z z' : Int} {DL DL' : DataW Value} {DN DN' : DataW Unit} {s s' : Dk}
/-- What an attempt leaves. -/
theorem disk_end (h : DiskIn w p gl gn V z DL DN s) (h1 : Below w.heap.size w W1) (o : Obj) (hd : DiskIn W' p gl gn V' z' DL' DN' s') (hv : V'.ownBlock = none ∨ V.ownBlock = V'.ownBlock ∨ ∃ g, V'.ownBlock = some g ∧ (W1.alloc o).heap.size ≤ g) (ha : Away (ownD p gl gn V) (W1.alloc o) W') (x : Value) :
    ∃ F', DiskRep (W'.setCell ⟨W1.heap.size, 0, none⟩ x) p F' s' ∧ More (ownD p gl gn V) F' w.heap.size ∧ Away (ownD p gl gn V) w (W'.setCell ⟨W1.heap.size, 0, none⟩ x) := by
  have hsz := h1.size
  have hso : (W1.alloc o).heap.size = W1.heap.size + 1 := by simp
  refine ⟨ownD p gl gn V', ⟨gl, gn, V', z', DL', DN', rfl, hd.keep fun b q => setc_other _ _ _ _ _ (fun e => ?_)⟩, fun b q => ?_, ?_⟩
  · subst e
    rcases q with e | e | e | e
    · have := h.lt p own_p; omega
    · have := h.lt gl own_l; omega
    · have := h.lt gn own_n; omega
    · rcases hv with e2 | e2 | ⟨g, e2, hl⟩
      · rw [e2] at e; cases e
      · have := h.lt _ (.inr (.inr (.inr (e2.trans e)))); omega
      · rw [e2] at e; injection e with e; omega
  · rcases q with e | e | e | e
    · exact .inl (.inl e)
    · exact .inl (.inr (.inl e))
    · exact .inl (.inr (.inr (.inl e)))
    · rcases hv with e2 | e2 | ⟨g, e2, hl⟩
      · rw [e2] at e; cases e
      · exact .inl (.inr (.inr (.inr (e2.trans e))))
      · rw [e2] at e; injection e with e; exact .inr (by omega)
  · refine ⟨ha.os.trans h1.os, ha.tape.trans h1.tape, ha.output.trans h1.output, Nat.le_trans (by omega) (Nat.le_trans ha.size (by simp [World.setCell])), fun k k1 k2 => ?_⟩
    rw [setc_other _ _ _ _ _ (show W1.heap.size ≠ k by omega), ha.block k (by omega) k2, Below.heap_alloc W1 o k (by omega)]
    exact h1.block k k1
/-- .. and the errors' cell is as it was laid. -/
theorem err_cell {o : Obj} (h : DiskIn w p gl gn V z DL DN s) (h1 : Below w.heap.size w W1) (ha : Away (ownD p gl gn V) (W1.alloc o) W') : W'.heap[W1.heap.size]? = some o := by
  have hsz := h1.size
  rw [ha.block W1.heap.size (by simp) (fun q => by have := h.lt _ q; omega)]
  exact heap_alloc_new W1 o

set_option maxHeartbeats 800000 in
theorem flush_go (h : DiskIn w p gl gn V z DL DN s) : Calls Try.prog 16 #[.pointer (some ⟨p, 0, none⟩)] w fun e w' => ∃ F', e = .returned (.int .i64 (flushE s)) ∧ DiskRep w' p F' (flushS s) ∧ More (ownD p gl gn V) F' w.heap.size ∧ Away (ownD p gl gn V) w w' := by
  have hmf : ∀ (fn : Fn) (first cap : Array Value) (w : World), (Instr.makeFunc fn first cap).run Try.prog w = .ok (.func fn first cap) w := fun _ _ _ _ => rfl
  obtain ⟨W1, hW1⟩ : ∃ W1, W1 = w.alloc (.cells #[.pointer (some ⟨p, 0, none⟩)] 23) := ⟨_, rfl⟩
  have hb : Below w.heap.size w W1 := by rw [hW1]; exact (Below.refl _ _).alloc (Nat.le_refl _) _
  have hb2 : Below w.heap.size w (W1.alloc (.cells #[.int .i64 0] 24)) := hb.alloc hb.size _
  have hnew : W1.heap[w.heap.size]? = some (.cells #[.pointer (some ⟨p, 0, none⟩)] 23 (0, 0)) := by rw [hW1]; exact heap_alloc_new w _
  have hlt : w.heap.size < W1.heap.size := by rw [hW1]; simp
  have h2 := h.later hb2
  have hc0 : (W1.alloc (.cells #[.int .i64 0] 24)).cell? ⟨w.heap.size, 0, none⟩ = some (.pointer (some ⟨p, 0, none⟩)) := cell_of_row _ _ _ _ _ _ ((Below.heap_alloc W1 _ _ hlt).trans hnew)
  have hno : ¬ ownD p gl gn V w.heap.size := fun q => absurd (h.lt _ q) (Nat.lt_irrefl _)
  have HAT : Hid (Calls Try.prog 23 #[.pointer (some ⟨p, 0, none⟩), .func (.func 33) #[] #[.pointer (some ⟨w.heap.size, 0, none⟩)]] W1 fun e w' => e = .returned (.int .i64 (flushE s)) ∧ ∃ F', DiskRep w' p F' (flushS s) ∧ More (ownD p gl gn V) F' w.heap.size ∧ Away (ownD p gl gn V) w w') := by
    by_cases hE : flushE s = 0
    · refine (attempt_ok 33 _ _ W1 (fun args w => by kernel_rfl) (flush1_ok h2 w.heap.size hc0 hno hE) (fun W' q => err_cell h hb q.2)).mono ?_
      rintro e w' ⟨q1, W', ⟨⟨z', DL', DN', q2⟩, q3⟩, rfl⟩
      rw [hE]
      exact ⟨q1, disk_end h hb _ q2 (.inl rfl) q3 _⟩
    · refine (attempt_no 33 _ (flushE s) _ W1 (fun args w => by kernel_rfl) (flush1_no h2 w.heap.size hc0 hE) (fun W' q => err_cell h hb q.2)).mono ?_
      rintro e w' ⟨q1, W', ⟨q2, q3⟩, rfl⟩
      exact ⟨q1, disk_end h hb _ q2 (.inr (.inl rfl)) q3 _⟩
  have HW := Lib.hid hW1
  have hcp : W1.cell? ⟨w.heap.size, 0, none⟩ = some (.pointer (some ⟨p, 0, none⟩)) := cell_of_row _ _ _ _ _ _ hnew
  obtain ⟨s2, hs2⟩ : ∃ s2, s2 = flushS s := ⟨_, rfl⟩
  obtain ⟨E, hE⟩ : ∃ E, E = flushE s := ⟨_, rfl⟩
  rw [← hs2, ← hE] at HAT ⊢
  clear h hW1 hb hb2 hnew hlt h2 hc0 hno hs2 hE
  go_enter Try.func16, Try.ntmps16
  rw [HW.out] at HAT
  go_wp2_with (go_at_call 23; with_reducible (refine Calls.mono HAT.out ?_); rintro e w2 ⟨rfl, F', hr⟩; replace hr := Lib.hid hr)
  go_ret
  exact ⟨F', rfl, hr.out⟩

set_option maxHeartbeats 800000 in
theorem flush_nil (w : World) : Calls Try.prog 16 #[.pointer none] w fun e w' => e = .returned (.int .i64 11) ∧ Below w.heap.size w w' := by
  have hmf : ∀ (fn : Fn) (first cap : Array Value) (w : World), (Instr.makeFunc fn first cap).run Try.prog w = .ok (.func fn first cap) w := fun _ _ _ _ => rfl
  have hb : Hid (Below w.heap.size w (w.alloc (.cells #[.pointer none] 23))) := (Below.refl _ _).alloc (Nat.le_refl _) _
  go_enter Try.func16, Try.ntmps16
  go_wp2_with (go_at_call 23; with_reducible (refine Calls.mono (attempt_nil _ _) ?_); rintro e w2 ⟨rfl, hb2⟩)
  go_ret
  exact ⟨rfl, chain hb.out hb2⟩
end

end Go.Proofs.Ytnbgnllkikajpaa
