/-
  The landed disk: Write, Read, Lasting.
-/
import Derived.Test.YtnbgnllkikajpaaDiskCB
import Derived.OwnWalk
namespace Go.Proofs.Ytnbgnllkikajpaa
open Go.RowKit

section
variable {w : World} {p gl gn : Nat} {V : Value} {z : Int} {DL : DataW Value} {DN : DataW Unit} {s : Dk}

/-- Three boxes. -/
theorem boxes3 (w : World) (o0 o1 o2 : Obj) : Below w.heap.size w (((w.alloc o0).alloc o1).alloc o2) ∧ (((w.alloc o0).alloc o1).alloc o2).heap.size = w.heap.size + 1 + 1 + 1 ∧ (((w.alloc o0).alloc o1).alloc o2).heap[w.heap.size]? = some o0 ∧ (((w.alloc o0).alloc o1).alloc o2).heap[w.heap.size + 1]? = some o1 ∧ (((w.alloc o0).alloc o1).alloc o2).heap[w.heap.size + 1 + 1]? = some o2 := by
  have s1 : (w.alloc o0).heap.size = w.heap.size + 1 := by simp
  have s2 : ((w.alloc o0).alloc o1).heap.size = w.heap.size + 1 + 1 := by simp
  have h0 := heap_alloc_new w o0
  have h1 := heap_alloc_new (w.alloc o0) o1
  have h2 := heap_alloc_new ((w.alloc o0).alloc o1) o2
  rw [s1] at h1
  rw [s2] at h2
  refine ⟨((Below.refl _ _).alloc (Nat.le_refl _) _ |>.alloc (by omega) _ |>.alloc (by omega) _), by simp, ?_, ?_, h2⟩
  · rw [Below.heap_alloc _ _ _ (by omega), Below.heap_alloc _ _ _ (by omega)]; exact h0
  · rw [Below.heap_alloc _ _ _ (by omega)]; exact h1

set_option maxHeartbeats 800000 in
theorem write_go (h : DiskIn w p gl gn V z DL DN s) (n : Int) (hn : I64c n) (A : Option Addr) (c : Nat) (t : List Nat) (hI : Ints w w.heap.size .u8 A (up t)) (ht : ∀ y ∈ t, y < 256) (hF : Off (ownD p gl gn V) A t.length) (hm : s.pend.length ≤ 2147483647) :
    Calls Try.prog 12 #[.pointer (some ⟨p, 0, none⟩), .int .i64 n, .slice A t.length c] w fun e w' => ∃ F', e = .returned (.int .i64 (writeE s n t)) ∧ DiskRep w' p F' (writeS s n t) ∧ More (ownD p gl gn V) F' w.heap.size ∧ Away (ownD p gl gn V) w w' := by
  have hmf : ∀ (fn : Fn) (first cap : Array Value) (w : World), (Instr.makeFunc fn first cap).run Try.prog w = .ok (.func fn first cap) w := fun _ _ _ _ => rfl
  obtain ⟨W1, hW1⟩ : ∃ W1, W1 = ((w.alloc (.cells #[.pointer (some ⟨p, 0, none⟩)] 23)).alloc (.cells #[.int .i64 n] 3)).alloc (.cells #[.slice A t.length c] 30) := ⟨_, rfl⟩
  obtain ⟨hb, hs1, k0, k1, k2⟩ := boxes3 w (.cells #[.pointer (some ⟨p, 0, none⟩)] 23) (.cells #[.int .i64 n] 3) (.cells #[.slice A t.length c] 30)
  rw [← hW1] at hb hs1 k0 k1 k2
  have hb2 : Below w.heap.size w (W1.alloc (.cells #[.int .i64 0] 24)) := hb.alloc hb.size _
  have h2 := h.later hb2
  have hc0 : (W1.alloc (.cells #[.int .i64 0] 24)).cell? ⟨w.heap.size, 0, none⟩ = some (.pointer (some ⟨p, 0, none⟩)) := cell_of_row _ _ _ _ _ _ ((Below.heap_alloc W1 _ _ (by omega)).trans k0)
  have hc1 : (W1.alloc (.cells #[.int .i64 0] 24)).cell? ⟨w.heap.size + 1 + 1, 0, none⟩ = some (.slice A t.length c) := cell_of_row _ _ _ _ _ _ ((Below.heap_alloc W1 _ _ (by omega)).trans k2)
  have hc2 : (W1.alloc (.cells #[.int .i64 0] 24)).cell? ⟨w.heap.size + 1, 0, none⟩ = some (.int .i64 n) := cell_of_row _ _ _ _ _ _ ((Below.heap_alloc W1 _ _ (by omega)).trans k1)
  have hno : ∀ b, w.heap.size ≤ b → ¬ ownD p gl gn V b := fun b hb q => absurd (h.lt _ q) (by omega)
  have HAT : Hid (Calls Try.prog 23 #[.pointer (some ⟨p, 0, none⟩), .func (.func 24) #[] #[.pointer (some ⟨w.heap.size, 0, none⟩), .pointer (some ⟨w.heap.size + 1 + 1, 0, none⟩), .pointer (some ⟨w.heap.size + 1, 0, none⟩)]] W1 fun e w' => e = .returned (.int .i64 (writeE s n t)) ∧ ∃ F', DiskRep w' p F' (writeS s n t) ∧ More (ownD p gl gn V) F' w.heap.size ∧ Away (ownD p gl gn V) w w') := by
    by_cases hE : writeE s n t = 0
    · have hout : ¬ outD s n := fun q => by
        unfold writeE at hE
        split at hE
        · cases hE
        · split at hE
          · cases hE
          · first | (rw [if_pos q] at hE; cases hE) | cases hE
      have h64 : t.length = 64 := by
        unfold writeE at hE
        split at hE
        · cases hE
        · by_cases q : t.length = 64
          · exact q
          · first | (rw [if_pos q] at hE; cases hE) | cases hE
      obtain ⟨i, rfl, hi⟩ := not_out hout
      refine (attempt_ok 24 _ _ W1 (fun args w => by kernel_rfl) (write1_ok h2 w.heap.size (w.heap.size + 1 + 1) (w.heap.size + 1) c i A t ((hI.below hb2).more hb2.size) ht (fun b o e => hF (by omega) b o e) hc0 hc1 hc2 ⟨hno _ (by omega), hno _ (by omega), hno _ (by omega)⟩ hm hE) (fun W' q => err_cell h hb q.2)).mono ?_
      rintro e w' ⟨q1, W', ⟨⟨V', z', DN', q2, q4⟩, q3⟩, rfl⟩
      rw [hE]
      exact ⟨q1, disk_end h hb _ q2 (.inr q4) q3 _⟩
    · refine (attempt_no 24 _ (writeE s n t) _ W1 (fun args w => by kernel_rfl) (write1_no h2 w.heap.size (w.heap.size + 1 + 1) (w.heap.size + 1) t.length c A n t rfl hc0 hc1 hc2 hE) (fun W' q => err_cell h hb q.2)).mono ?_
      rintro e w' ⟨q1, W', ⟨q2, q3⟩, rfl⟩
      exact ⟨q1, disk_end h hb _ q2 (.inr (.inl rfl)) q3 _⟩
  have HW := Lib.hid hW1
  obtain ⟨s2, hs2⟩ : ∃ s2, s2 = writeS s n t := ⟨_, rfl⟩
  obtain ⟨E, hE⟩ : ∃ E, E = writeE s n t := ⟨_, rfl⟩
  rw [← hs2, ← hE] at HAT ⊢
  clear h hW1 hb hb2 k0 k1 k2 hs1 h2 hc0 hc1 hc2 hno hs2 hE hn hI ht hF hm
  obtain ⟨N, hN⟩ : ∃ N, N = t.length := ⟨_, rfl⟩
  rw [HW.out] at HAT
  rw [← hN] at HAT ⊢
  clear hN HW
  go_enter Try.func12, Try.ntmps12
  go_wp2_with (go_at_call 23; with_reducible (refine Calls.mono HAT.out ?_); rintro e w2 ⟨rfl, F', hr⟩; replace hr := Lib.hid hr)
  go_ret
  exact ⟨F', rfl, hr.out⟩

set_option maxHeartbeats 800000 in
theorem write_nil (n : Int) (A : Option Addr) (l c : Nat) (w : World) : Calls Try.prog 12 #[.pointer none, .int .i64 n, .slice A l c] w fun e w' => e = .returned (.int .i64 11) ∧ Below w.heap.size w w' := by
  have hmf : ∀ (fn : Fn) (first cap : Array Value) (w : World), (Instr.makeFunc fn first cap).run Try.prog w = .ok (.func fn first cap) w := fun _ _ _ _ => rfl
  have hb := Lib.hid (boxes3 w (.cells #[.pointer none] 23) (.cells #[.int .i64 n] 3) (.cells #[.slice A l c] 30)).1
  go_enter Try.func12, Try.ntmps12
  go_wp2_with (go_at_call 23; with_reducible (refine Calls.mono (attempt_nil _ _) ?_); rintro e w2 ⟨rfl, hb2⟩)
  go_ret
  exact ⟨rfl, chain hb.out hb2⟩

/-- A sector is answered, in new memory. -/
def GotIn (w w' : World) (t : List Nat) : Prop := ∃ g, w'.heap[w.heap.size + 1 + 1]? = some (.cells #[.slice (some ⟨g, 0, none⟩) 64 64] 30 (0, 0)) ∧ w'.heap[g]? = some (.cells (BA t) 65 (0, 0)) ∧ w.heap.size ≤ g ∧ g ≠ w.heap.size + 1 + 1 ∧ Below w.heap.size w w'
theorem GotIn.got {w w' : World} {t : List Nat} (h : GotIn w w' t) : ∃ g, w'.heap[w.heap.size + 1 + 1]? = some (.cells #[.slice (some ⟨g, 0, none⟩) 64 64] 30 (0, 0)) ∧ Hid (∀ v, Got w (w'.setCell ⟨w.heap.size + 1 + 1, 0, none⟩ v) (some ⟨g, 0, none⟩) t ∧ Below w.heap.size w (w'.setCell ⟨w.heap.size + 1 + 1, 0, none⟩ v)) := by
  obtain ⟨g, h1, h2, h3, h4, h5⟩ := h
  refine ⟨g, h1, fun v => ?_⟩
  have hg : (w'.setCell ⟨w.heap.size + 1 + 1, 0, none⟩ v).heap[g]? = some (.cells (BA t) 65 (0, 0)) := (setc_other _ _ _ _ _ (Ne.symm h4)).trans h2
  refine ⟨⟨g, 0, rfl, h3, (Array.getElem?_eq_some_iff.1 hg).1, fun i hi => ⟨?_, frozen_of_row _ _ _ _ _ hg⟩⟩, h5.setCell (p := ⟨w.heap.size + 1 + 1, 0, none⟩) (by show w.heap.size ≤ w.heap.size + 1 + 1; omega) _⟩
  rw [Nat.zero_add, BA_cell hg hi]
/-- The attempt of a call that answers a sector. -/
theorem attempt_got (fid : FuncId) (n : Int) (t : List Nat) (w : World) (he : ∀ args w, (callFunc fid args).run Try.prog w = .ok (.enter fid args) w)
    (hcall : ∀ W, W = (((w.alloc (.cells #[.pointer (some ⟨p, 0, none⟩)] 23)).alloc (.cells #[.int .i64 n] 3)).alloc (.cells #[.slice none 0 0] 30)).alloc (.cells #[.int .i64 0] 24) → Calls Try.prog fid #[.pointer (some ⟨w.heap.size, 0, none⟩), .pointer (some ⟨w.heap.size + 1, 0, none⟩), .pointer (some ⟨w.heap.size + 1 + 1, 0, none⟩)] W fun e w' => e = .returned (.tuple #[]) ∧
      ∃ W', Below W.heap.size W W' ∧ w' = (W'.alloc (.cells (BA t) 65)).setCell ⟨w.heap.size + 1 + 1, 0, none⟩ (.slice (some ⟨W'.heap.size, 0, none⟩) 64 64)) :
    Calls Try.prog 23 #[.pointer (some ⟨p, 0, none⟩), .func (.func fid) #[] #[.pointer (some ⟨w.heap.size, 0, none⟩), .pointer (some ⟨w.heap.size + 1, 0, none⟩), .pointer (some ⟨w.heap.size + 1 + 1, 0, none⟩)]]
      (((w.alloc (.cells #[.pointer (some ⟨p, 0, none⟩)] 23)).alloc (.cells #[.int .i64 n] 3)).alloc (.cells #[.slice none 0 0] 30)) fun e w' => e = .returned (.int .i64 0) ∧ GotIn w w' t := by
  obtain ⟨hb, hs1, _, _, k2⟩ := boxes3 w (.cells #[.pointer (some ⟨p, 0, none⟩)] 23) (.cells #[.int .i64 n] 3) (.cells #[.slice none 0 0] 30)
  obtain ⟨W1, hW1⟩ : ∃ W1, W1 = ((w.alloc (.cells #[.pointer (some ⟨p, 0, none⟩)] 23)).alloc (.cells #[.int .i64 n] 3)).alloc (.cells #[.slice none 0 0] 30) := ⟨_, rfl⟩
  rw [← hW1] at hb hs1 k2 hcall ⊢
  have hnew := heap_alloc_new W1 (.cells #[.int .i64 0] 24)
  have k3 := (Below.heap_alloc W1 (.cells #[.int .i64 0] 24) (w.heap.size + 1 + 1) (by omega)).trans k2
  have hb2 : Below w.heap.size w (W1.alloc (.cells #[.int .i64 0] 24)) := hb.alloc hb.size _
  have hs2 : (W1.alloc (.cells #[.int .i64 0] 24)).heap.size = W1.heap.size + 1 := by simp
  refine (attempt_ok fid _ _ W1 he (hcall _ rfl) ?_).mono ?_
  · rintro W ⟨W', q1, rfl⟩
    rw [setc_other _ _ _ _ _ (by omega), Below.heap_alloc _ _ _ (by have := q1.size; omega), q1.block _ (by omega)]
    exact hnew
  · rintro e w' ⟨q0, W, ⟨W', q1, rfl⟩, rfl⟩
    have hsz := q1.size
    refine ⟨q0, W'.heap.size, ?_, ?_, by omega, by omega, ?_⟩
    · rw [setc_other _ _ _ _ _ (by omega)]
      have hk := setc_same (W'.alloc (.cells (BA t) 65)) (w.heap.size + 1 + 1) 0 (.slice (some ⟨W'.heap.size, 0, none⟩) 64 64) _ _ ((Below.heap_alloc W' (.cells (BA t) 65) (w.heap.size + 1 + 1) (by omega)).trans ((q1.block _ (by omega)).trans k3))
      rw [hk]; rfl
    · rw [setc_other _ _ _ _ _ (by omega), setc_other _ _ _ _ _ (by omega)]
      exact heap_alloc_new W' _
    · have h3 : Below w.heap.size w W' := hb2.trans (q1.mono (by omega))
      exact ((h3.alloc (by omega) _).setCell (p := ⟨w.heap.size + 1 + 1, 0, none⟩) (by show w.heap.size ≤ w.heap.size + 1 + 1; omega) _).setCell (p := ⟨W1.heap.size, 0, none⟩) (by show w.heap.size ≤ W1.heap.size; omega) _
/-- .. and of one that answers none. -/
theorem attempt_not (fid : FuncId) (n E : Int) (w : World) (he : ∀ args w, (callFunc fid args).run Try.prog w = .ok (.enter fid args) w)
    (hcall : ∀ W, W = (((w.alloc (.cells #[.pointer (some ⟨p, 0, none⟩)] 23)).alloc (.cells #[.int .i64 n] 3)).alloc (.cells #[.slice none 0 0] 30)).alloc (.cells #[.int .i64 0] 24) → Calls Try.prog fid #[.pointer (some ⟨w.heap.size, 0, none⟩), .pointer (some ⟨w.heap.size + 1, 0, none⟩), .pointer (some ⟨w.heap.size + 1 + 1, 0, none⟩)] W fun e w' => e = .panicked (upV E) ∧ w' = W) :
    Calls Try.prog 23 #[.pointer (some ⟨p, 0, none⟩), .func (.func fid) #[] #[.pointer (some ⟨w.heap.size, 0, none⟩), .pointer (some ⟨w.heap.size + 1, 0, none⟩), .pointer (some ⟨w.heap.size + 1 + 1, 0, none⟩)]]
      (((w.alloc (.cells #[.pointer (some ⟨p, 0, none⟩)] 23)).alloc (.cells #[.int .i64 n] 3)).alloc (.cells #[.slice none 0 0] 30)) fun e w' => e = .returned (.int .i64 E) ∧ w'.heap[w.heap.size + 1 + 1]? = some (.cells #[.slice none 0 0] 30 (0, 0)) ∧ Below w.heap.size w w' := by
  obtain ⟨hb, hs1, _, _, k2⟩ := boxes3 w (.cells #[.pointer (some ⟨p, 0, none⟩)] 23) (.cells #[.int .i64 n] 3) (.cells #[.slice none 0 0] 30)
  obtain ⟨W1, hW1⟩ : ∃ W1, W1 = ((w.alloc (.cells #[.pointer (some ⟨p, 0, none⟩)] 23)).alloc (.cells #[.int .i64 n] 3)).alloc (.cells #[.slice none 0 0] 30) := ⟨_, rfl⟩
  rw [← hW1] at hb hs1 k2 hcall ⊢
  have hnew := heap_alloc_new W1 (.cells #[.int .i64 0] 24)
  refine (attempt_no fid _ E _ W1 he (hcall _ rfl) ?_).mono ?_
  · rintro W rfl
    exact hnew
  · rintro e w' ⟨q0, W, rfl, rfl⟩
    refine ⟨q0, ?_, (hb.alloc hb.size _).setCell (p := ⟨W1.heap.size, 0, none⟩) (by show w.heap.size ≤ W1.heap.size; omega) _⟩
    rw [setc_other _ _ _ _ _ (by omega), Below.heap_alloc _ _ _ (by omega)]
    exact k2
/-- The boxes' cells, ahead of what is done. -/
theorem box_cells {W : World} (h : DiskIn w p gl gn V z DL DN s) {n : Int} (hW : W = (((w.alloc (.cells #[.pointer (some ⟨p, 0, none⟩)] 23)).alloc (.cells #[.int .i64 n] 3)).alloc (.cells #[.slice none 0 0] 30)).alloc (.cells #[.int .i64 0] 24)) :
    DiskIn W p gl gn V z DL DN s ∧ W.cell? ⟨w.heap.size, 0, none⟩ = some (.pointer (some ⟨p, 0, none⟩)) ∧ W.cell? ⟨w.heap.size + 1, 0, none⟩ = some (.int .i64 n) ∧ W.heap[w.heap.size + 1 + 1]? = some (.cells #[.slice none 0 0] 30 (0, 0)) := by
  obtain ⟨hb, hs1, k0, k1, k2⟩ := boxes3 w (.cells #[.pointer (some ⟨p, 0, none⟩)] 23) (.cells #[.int .i64 n] 3) (.cells #[.slice none 0 0] 30)
  subst hW
  exact ⟨h.later (hb.alloc hb.size _), cell_of_row _ _ _ _ _ _ ((Below.heap_alloc _ _ _ (by omega)).trans k0), cell_of_row _ _ _ _ _ _ ((Below.heap_alloc _ _ _ (by omega)).trans k1), (Below.heap_alloc _ _ _ (by omega)).trans k2⟩
end

end Go.Proofs.Ytnbgnllkikajpaa
