/-
  The landed clock: Touch, Drop, Put.
-/
import Derived.Test.YtdfalnjdjkoofaaClockC3
namespace Go.Proofs.Ytdfalnjdjkoofaa
open Go.RowKit

section
variable {w : World} {p gt gm gb ct cm : Nat} {D : DataW Unit} {s : Ck}

set_option maxHeartbeats 1600000 in
theorem touch_go (h : ClockIn w p gt gm gb ct cm D s) (n : Int) (hn : I64c n) :
    Calls Try.prog 13 #[.pointer (some ⟨p, 0, none⟩), .int .i64 n] w fun e w' => e = .returned (.int .i64 (touchE s n)) ∧ ClockIn w' p gt gm gb ct cm D (touchS s n) ∧ Away (ownC p gt gm gb) w w' := by
  have hb : Below w.heap.size w (w.alloc (.cells #[.pointer (some ⟨p, 0, none⟩)] 23)) := (Below.refl _ _).alloc (Nat.le_refl _) _
  have h1 := h.later hb
  have h2 := heap_alloc_new w (.cells #[.pointer (some ⟨p, 0, none⟩)] 23)
  have h3 : Away (ownC p gt gm gb) w (w.alloc (.cells #[.pointer (some ⟨p, 0, none⟩)] 23)) := away_alloc (Away.refl _ w) _
  obtain ⟨W, hW⟩ : ∃ W, W = w.alloc (.cells #[.pointer (some ⟨p, 0, none⟩)] 23) := ⟨_, rfl⟩
  rw [← hW] at h1 h2 h3
  have hc0 : W.cell? ⟨w.heap.size, 0, none⟩ = some (.pointer (some ⟨p, 0, none⟩)) := cell_of_row _ _ _ _ _ _ h2
  have HW := Lib.hid hW
  rcases touchE_or (s := s) n with hc | hc
  · have e1 : touchS s n = ⟨s.t, s.m.set (s.t.idxOf n) true, s.h⟩ := if_pos hc
    have hi := (mem_at ((touchE_iff n).1 hc).2).1
    have HAT := Lib.hid (at_go h1 n hn hc 26 #[.pointer (some ⟨w.heap.size, 0, none⟩)] (fun w' => ClockIn w' p gt gm gb ct cm D ⟨s.t, s.m.set (s.t.idxOf n) true, s.h⟩ ∧ Away (ownC p gt gm gb) w w') (fun args w => by kernel_rfl)
      ((touch1_go h1 w.heap.size (s.t.idxOf n) hi hc0).mono fun e w' ⟨q1, q2⟩ => ⟨q1, by rw [q2]; exact ⟨h1.mark _ _, h3.set own_m _ _⟩⟩))
    rw [e1, hc]
    obtain ⟨s2, hs2⟩ : ∃ s2, s2 = (⟨s.t, s.m.set (s.t.idxOf n) true, s.h⟩ : Ck) := ⟨_, rfl⟩
    rw [← hs2] at HAT ⊢
    clear h h1 h2 h3 e1 hi hc hs2 hW hb hn
    go_enter Try.func13, Try.ntmps13
    go_wp2_with fail
    rw [← HW.out]
    go_wp2_with (go_at_call 25; with_reducible (refine Calls.mono HAT.out ?_); rintro e w2 ⟨rfl, hr⟩)
    go_ret
    exact ⟨rfl, hr.1, hr.2⟩
  · have e1 : touchS s n = s := if_neg (by omega)
    have HAT : Hid (∀ fv, Calls Try.prog 25 #[.pointer (some ⟨p, 0, none⟩), .int .i64 n, fv] W fun e w' => e = .returned (.int .i64 4) ∧ w' = W) := fun fv => at_none h1 n hn fv hc
    rw [e1, hc]
    have R := Lib.hid (And.intro h1 h3)
    clear h h1 h2 h3 e1 hc hW hb hn
    go_enter Try.func13, Try.ntmps13
    go_wp2_with fail
    rw [← HW.out]
    go_wp2_with (go_at_call 25; with_reducible (refine Calls.mono (HAT.out _) ?_); rintro e w2 ⟨rfl, rfl⟩)
    go_ret
    exact ⟨rfl, R.out.1, R.out.2⟩

set_option maxHeartbeats 800000 in
theorem touch_nil (n : Int) (w : World) : Calls Try.prog 13 #[.pointer none, .int .i64 n] w fun e w' => e = .returned (.int .i64 11) ∧ Below w.heap.size w w' := by
  have hb : Hid (Below w.heap.size w (w.alloc (.cells #[.pointer none] 23))) := (Below.refl _ _).alloc (Nat.le_refl _) _
  go_enter Try.func13, Try.ntmps13
  go_wp2_with (go_at_call 25; with_reducible (refine Calls.mono (at_nil _ _ _) ?_); rintro e w2 ⟨rfl, rfl⟩)
  go_ret
  exact ⟨rfl, hb.out⟩

set_option maxHeartbeats 1600000 in
theorem drop_go (h : ClockIn w p gt gm gb ct cm D s) (n : Int) (hn : I64c n) :
    Calls Try.prog 15 #[.pointer (some ⟨p, 0, none⟩), .int .i64 n] w fun e w' => e = .returned (.int .i64 (touchE s n)) ∧ (∃ D', ClockIn w' p gt gm gb ct cm D' (dropS s n)) ∧ Away (ownC p gt gm gb) w w' := by
  have hb : Below w.heap.size w ((w.alloc (.cells #[.pointer (some ⟨p, 0, none⟩)] 23)).alloc (.cells #[.int .i64 n] 3)) := ((Below.refl _ _).alloc (Nat.le_refl _) _).alloc (by simp) _
  have h1 := h.later hb
  have h2 : ((w.alloc (.cells #[.pointer (some ⟨p, 0, none⟩)] 23)).alloc (.cells #[.int .i64 n] 3)).heap[w.heap.size]? = some (.cells #[.pointer (some ⟨p, 0, none⟩)] 23 (0, 0)) := (Below.heap_alloc _ _ _ (by simp)).trans (heap_alloc_new w _)
  have h2b : ((w.alloc (.cells #[.pointer (some ⟨p, 0, none⟩)] 23)).alloc (.cells #[.int .i64 n] 3)).heap[w.heap.size + 1]? = some (.cells #[.int .i64 n] 3 (0, 0)) := by
    have := heap_alloc_new (w.alloc (.cells #[.pointer (some ⟨p, 0, none⟩)] 23)) (.cells #[.int .i64 n] 3)
    rwa [show (w.alloc (.cells #[.pointer (some ⟨p, 0, none⟩)] 23)).heap.size = w.heap.size + 1 by simp] at this
  have h3 : Away (ownC p gt gm gb) w ((w.alloc (.cells #[.pointer (some ⟨p, 0, none⟩)] 23)).alloc (.cells #[.int .i64 n] 3)) := away_alloc (away_alloc (Away.refl _ w) _) _
  obtain ⟨W, hW⟩ : ∃ W, W = (w.alloc (.cells #[.pointer (some ⟨p, 0, none⟩)] 23)).alloc (.cells #[.int .i64 n] 3) := ⟨_, rfl⟩
  rw [← hW] at h1 h2 h2b h3
  have hc0 : W.cell? ⟨w.heap.size, 0, none⟩ = some (.pointer (some ⟨p, 0, none⟩)) := cell_of_row _ _ _ _ _ _ h2
  have hc1 : W.cell? ⟨w.heap.size + 1, 0, none⟩ = some (.int .i64 n) := cell_of_row _ _ _ _ _ _ h2b
  have HW := Lib.hid hW
  have l1 := h.lt gt own_t
  have l2 := h.lt gb own_b
  rcases touchE_or (s := s) n with hc | hc
  · have e1 : dropS s n = ⟨s.t.set (s.t.idxOf n) (-1), s.m, s.h⟩ := if_pos hc
    have HAT := Lib.hid (at_go h1 n hn hc 27 #[.pointer (some ⟨w.heap.size, 0, none⟩), .pointer (some ⟨w.heap.size + 1, 0, none⟩)] (fun w' => (∃ D', ClockIn w' p gt gm gb ct cm D' ⟨s.t.set (s.t.idxOf n) (-1), s.m, s.h⟩) ∧ Away (ownC p gt gm gb) w w') (fun args w => by kernel_rfl)
      ((drop1_go h1 w.heap.size (w.heap.size + 1) n hn hc hc0 hc1 ⟨by omega, by omega⟩ ⟨by omega, by omega⟩).mono fun e w' ⟨q1, q2, q3⟩ => ⟨q1, ⟨_, q2⟩, ⟨q3.os.trans h3.os, q3.tape.trans h3.tape, q3.output.trans h3.output, Nat.le_trans h3.size q3.size, fun k k1 k2 => (q3.block k (Nat.lt_of_lt_of_le k1 h3.size) k2).trans (h3.block k k1 k2)⟩⟩))
    rw [e1, hc]
    obtain ⟨s2, hs2⟩ : ∃ s2, s2 = (⟨s.t.set (s.t.idxOf n) (-1), s.m, s.h⟩ : Ck) := ⟨_, rfl⟩
    rw [← hs2] at HAT ⊢
    clear h h1 h2 h2b h3 e1 hc hs2 hW hb hn l1 l2
    go_enter Try.func15, Try.ntmps15
    go_wp2_with fail
    rw [← HW.out]
    go_wp2_with (go_at_call 25; with_reducible (refine Calls.mono HAT.out ?_); rintro e w2 ⟨rfl, hr⟩)
    go_ret
    exact ⟨rfl, hr.1, hr.2⟩
  · have e1 : dropS s n = s := if_neg (by omega)
    have HAT : Hid (∀ fv, Calls Try.prog 25 #[.pointer (some ⟨p, 0, none⟩), .int .i64 n, fv] W fun e w' => e = .returned (.int .i64 4) ∧ w' = W) := fun fv => at_none h1 n hn fv hc
    rw [e1, hc]
    have R := Lib.hid (And.intro (Exists.intro (p := fun D' => ClockIn W p gt gm gb ct cm D' s) D h1) h3)
    clear h h1 h2 h2b h3 e1 hc hW hb hn l1 l2
    go_enter Try.func15, Try.ntmps15
    go_wp2_with fail
    rw [← HW.out]
    go_wp2_with (go_at_call 25; with_reducible (refine Calls.mono (HAT.out _) ?_); rintro e w2 ⟨rfl, rfl⟩)
    go_ret
    exact ⟨rfl, R.out.1, R.out.2⟩

set_option maxHeartbeats 800000 in
theorem drop_nil (n : Int) (w : World) : Calls Try.prog 15 #[.pointer none, .int .i64 n] w fun e w' => e = .returned (.int .i64 11) ∧ Below w.heap.size w w' := by
  have hb : Hid (Below w.heap.size w ((w.alloc (.cells #[.pointer none] 23)).alloc (.cells #[.int .i64 n] 3))) := ((Below.refl _ _).alloc (Nat.le_refl _) _).alloc (by simp) _
  go_enter Try.func15, Try.ntmps15
  go_wp2_with (go_at_call 25; with_reducible (refine Calls.mono (at_nil _ _ _) ?_); rintro e w2 ⟨rfl, rfl⟩)
  go_ret
  exact ⟨rfl, hb.out⟩
end

end Go.Proofs.Ytdfalnjdjkoofaa
