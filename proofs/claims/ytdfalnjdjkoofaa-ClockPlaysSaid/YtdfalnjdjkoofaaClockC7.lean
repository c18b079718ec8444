/-
  The landed clock: Leave.
-/
import Derived.Test.YtdfalnjdjkoofaaClockC4
import Derived.Test.YtdfalnjdjkoofaaClockC6
namespace Go.Proofs.Ytdfalnjdjkoofaa
open Go.RowKit

theorem away_trans {F : Nat → Prop} {a b c : World} (h : Away F a b) (h' : Away F b c) : Away F a c :=
  ⟨h'.os.trans h.os, h'.tape.trans h.tape, h'.output.trans h.output, Nat.le_trans h.size h'.size, fun k k1 k2 => (h'.block k (Nat.lt_of_lt_of_le k1 h.size) k2).trans (h.block k k1 k2)⟩
theorem Try.infoBool7 : (Try.prog.info? 4).map (fun i => (i.zero, i.size, i.bytes)) = some (some (.bool false), 1, 1) := by kernel_rfl
theorem makeB (n : Nat) (hn : n ≤ 100000) (w : World) : (Instr.makeSlice 41 (.int .i64 (n : Int)) (.int .i64 (n : Int))).run Try.prog w = .ok (.slice (some ⟨w.heap.size, 0, none⟩) n n) (w.alloc (.cells (BCs (List.replicate n false)) 4)) := by
  have h := run_make_row' (P := Try.prog) 41 4 (.bool false) 1 Try.underlying41 Try.infoBool7 rfl .i64 .i64 n (by omega) (by omega) w
  rw [BCs_zero] at h
  exact h

/-- Whose things may leave, of the first k numbers. -/
def leavesL (s : Ck) (l : List Int) (k : Nat) : List Bool := (List.range s.t.length).map fun i => mayB s (l.take k) i
theorem leaves_len (s : Ck) (l : List Int) (k : Nat) : (leavesL s l k).length = s.t.length := by simp [leavesL]
theorem leaves_at (s : Ck) (l : List Int) (k : Nat) {i : Nat} (hi : i < s.t.length) : (leavesL s l k).getD i false = mayB s (l.take k) i := by
  simp [leavesL, List.getD_eq_getElem?_getD, hi]
theorem leaves_zero (s : Ck) (l : List Int) : leavesL s l 0 = List.replicate s.t.length false := by
  apply List.ext_getElem
  · simp [leavesL]
  · intro i h1 h2
    simp [leavesL, mayB]
theorem take_has {l : List Int} {k : Nat} (hk : k < l.length) (x : Int) : (l.take (k + 1)).contains x = ((l.take k).contains x || x == l.getD k 0) := by
  have e : l.take (k + 1) = l.take k ++ [l.getD k 0] := by
    rw [List.take_add_one, List.getD_eq_getElem?_getD, List.getElem?_eq_getElem hk]; rfl
  rw [e, Bool.eq_iff_iff]
  simp only [List.contains_iff_mem, Bool.or_eq_true, List.mem_append, List.mem_singleton, beq_iff_eq]
theorem leaves_all (s : Ck) (l : List Int) : (leavesL s l l.length).contains true = anyK s l := by
  cases h : anyK s l
  · refine anyB_none fun j hj => ?_
    rw [leaves_len] at hj
    rw [leaves_at _ _ _ hj, List.take_length]
    cases hb : mayB s l j
    · rfl
    · rw [any_of hj hb] at h; cases h
  · obtain ⟨p, hp, hm⟩ := any_place h
    refine anyB_at (k := p) (by rw [leaves_len]; exact hp) ?_
    rw [leaves_at _ _ _ hp, List.take_length]
    unfold mayB
    rw [decide_eq_true hm.1, hm.2]; rfl
section
variable {D : DataW Unit} {s : Ck}
theorem leaves_hit (h : MapC D s.t) {l : List Int} {k : Nat} (hk : k < l.length) (hc : touchE s (l.getD k 0) = 0) : leavesL s l (k + 1) = (leavesL s l k).set (s.t.idxOf (l.getD k 0)) true := by
  obtain ⟨h0, hm⟩ := (touchE_iff _).1 hc
  obtain ⟨hi, e⟩ := mem_at hm
  apply List.ext_getElem
  · simp [leavesL]
  · intro i h1 h2
    rw [leaves_len] at h1
    rw [List.getElem_set]
    simp only [leavesL, List.getElem_map, List.getElem_range]
    unfold mayB
    rw [take_has hk]
    by_cases e2 : s.t.idxOf (l.getD k 0) = i
    · rw [if_pos e2, ← e2, e, decide_eq_true h0]; simp
    · rw [if_neg e2]
      have hne : decide (0 ≤ s.t.getD i 0) = true → (s.t.getD i 0 == l.getD k 0) = false := fun q => by
        rw [beq_eq_false_iff_ne]
        intro e3
        exact e2 (h.one hi h1 (by rw [e]; exact h0) (e.trans e3.symm))
      cases hd : decide (0 ≤ s.t.getD i 0)
      · rfl
      · rw [hne hd]; simp
theorem leaves_miss {l : List Int} {k : Nat} (hk : k < l.length) (hc : touchE s (l.getD k 0) = 4) : leavesL s l (k + 1) = leavesL s l k := by
  have hn : ¬ (0 ≤ l.getD k 0 ∧ s.t.contains (l.getD k 0) = true) := fun q => by rw [(touchE_iff _).2 q] at hc; cases hc
  unfold leavesL
  apply List.map_congr_left
  intro i hi
  rw [List.mem_range] at hi
  unfold mayB
  rw [take_has hk]
  cases hd : decide (0 ≤ s.t.getD i 0)
  · rfl
  · have hne : (s.t.getD i 0 == l.getD k 0) = false := by
      rw [beq_eq_false_iff_ne]
      intro e3
      exact hn ⟨by rw [← e3]; exact of_decide_eq_true hd, by rw [← e3]; exact at_mem hi⟩
    rw [hne]; simp
end

/-- What a round of Leave holds. -/
structure LeaveR (w : World) (p gt gm gb ct cm : Nat) (D : DataW Unit) (s : Ck) (l : List Int) (k : Nat) (wr : World) : Prop where
  ring : ClockIn wr p gt gm gb ct cm D s
  flags : BRow 4 w.heap.size (leavesL s l k) wr
  box : wr.cell? ⟨w.heap.size + 1, 0, none⟩ = some (.slice (some ⟨w.heap.size, 0, none⟩) s.t.length s.t.length)
  below : Below w.heap.size w wr

section
variable {w wr : World} {p gt gm gb ct cm : Nat} {D : DataW Unit} {s : Ck} {l : List Int} {k : Nat}
theorem LeaveR.drew (h : LeaveR w p gt gm gb ct cm D s l k wr) : LeaveR w p gt gm gb ct cm D s l k wr.drew := ⟨h.ring.keep fun _ _ => rfl, h.flags, h.box, h.below.drew⟩
theorem leave_hit (h0 : ∀ b, ownC p gt gm gb b → b < w.heap.size) (h : LeaveR w p gt gm gb ct cm D s l k wr) (hk : k < l.length) (hc : touchE s (l.getD k 0) = 0) : LeaveR w p gt gm gb ct cm D s l (k + 1) (wr.setCell ⟨w.heap.size, s.t.idxOf (l.getD k 0), none⟩ (.bool true)) :=
  ⟨h.ring.keep fun b q => setc_other _ _ _ _ _ (fun e => by have := h0 b q; omega), by rw [leaves_hit h.ring.says hk hc]; exact h.flags.set _ true,
    (World.cell?_of_block (setc_other _ _ _ _ _ (show w.heap.size ≠ w.heap.size + 1 by omega))).trans h.box, h.below.setCell (p := ⟨w.heap.size, _, none⟩) (Nat.le_refl _) _⟩
theorem leave_miss (h : LeaveR w p gt gm gb ct cm D s l k wr) (hk : k < l.length) (hc : touchE s (l.getD k 0) = 4) : LeaveR w p gt gm gb ct cm D s l (k + 1) wr :=
  ⟨h.ring, by rw [leaves_miss hk hc]; exact h.flags, h.box, h.below⟩
theorem leave_at (h0 : ∀ b, ownC p gt gm gb b → b < w.heap.size) (h : LeaveR w p gt gm gb ct cm D s l k wr) (hk : k < l.length) (hz : I64c (l.getD k 0)) :
    Calls Try.prog 25 #[.pointer (some ⟨p, 0, none⟩), .int .i64 (l.getD k 0), .func (.func 28) #[] #[.pointer (some ⟨w.heap.size + 1, 0, none⟩)]] wr fun e w' => ∃ r : Int, e = .returned (.int .i64 r) ∧ LeaveR w p gt gm gb ct cm D s l (k + 1) w' := by
  rcases touchE_or (s := s) (l.getD k 0) with hc | hc
  · have hi := (mem_at ((touchE_iff _).1 hc).2).1
    refine (at_go h.ring (l.getD k 0) hz hc 28 #[.pointer (some ⟨w.heap.size + 1, 0, none⟩)] (fun w' => LeaveR w p gt gm gb ct cm D s l (k + 1) w') (fun args w => by kernel_rfl) ?_).mono fun e w' ⟨q1, q2⟩ => ⟨0, q1, q2⟩
    exact (leave1_go w.heap.size s.t.length s.t.length (w.heap.size + 1) _ (leavesL s l k) (leaves_len s l k) hi h.flags h.box).mono fun e w' ⟨q1, q2⟩ => ⟨q1, by rw [q2]; exact leave_hit h0 h hk hc⟩
  · exact (at_none h.ring (l.getD k 0) hz _ hc).mono fun e w' ⟨q1, q2⟩ => ⟨4, q1, by rw [q2]; exact leave_miss h hk hc⟩

set_option maxHeartbeats 800000 in
theorem leave_nil (A : Option Addr) (n c : Nat) (w : World) : Calls Try.prog 17 #[.pointer none, .slice A n c] w fun e w' => e = .returned (.tuple #[.int .i64 0, .int .i64 11]) ∧ Below w.heap.size w w' := by
  go_enter Try.func17, Try.ntmps17
  go_wp2
  go_ret2
  exact ⟨rfl, Below.refl _ _⟩

/-- Behind the hand's way: the thing is dropped. -/
theorem leave_end {w2 : World} {s2 : Ck} {i : Nat} (hI : ClockIn w2 p gt gm gb ct cm D s2) (hv : ∀ z ∈ s.t, -1 ≤ z ∧ z ≤ 9223372036854775807) (hi : i < s.t.length) (ht : s2.t = s.t) (h0 : 0 ≤ s.t.getD i 0) (hl : leaveR s l = (⟨s2.t.set i (-1), s2.m, s2.h⟩, some (s.t.getD i 0))) (hA : Away (ownC p gt gm gb) w w2) :
    Calls Try.prog 15 #[.pointer (some ⟨p, 0, none⟩), .int .i64 (s.t.getD i 0)] w2 fun e w' => e = .returned (.int .i64 (leaveE s l)) ∧ s.t.getD i 0 = leaveN s l ∧ (∃ D', ClockIn w' p gt gm gb ct cm D' (leaveS s l)) ∧ Away (ownC p gt gm gb) w w' := by
  have hm : s.t.getD i 0 ∈ s.t := by
    rw [List.getD_eq_getElem?_getD, List.getElem?_eq_getElem hi]; exact List.getElem_mem hi
  have hx : I64c (s.t.getD i 0) := by have := hv _ hm; unfold I64c; omega
  have hc : touchE s2 (s.t.getD i 0) = 0 := (touchE_iff _).2 ⟨h0, by rw [ht]; exact at_mem hi⟩
  have hii : s2.t.idxOf (s.t.getD i 0) = i := by
    obtain ⟨q1, q2⟩ := mem_at ((touchE_iff _).1 hc).2
    exact hI.says.one q1 (by rw [ht]; exact hi) (by rw [q2]; exact h0) (q2.trans (by rw [ht]))
  have e1 : leaveE s l = 0 := by unfold leaveE; rw [hl]
  have e2 : leaveN s l = s.t.getD i 0 := by unfold leaveN; rw [hl]; rfl
  have e3 : leaveS s l = dropS s2 (s.t.getD i 0) := by
    unfold leaveS dropS; rw [hl, if_pos hc, hii]
  rw [e1, e2, e3]
  refine (drop_go hI _ hx).mono fun e w' ⟨q1, q2, q3⟩ => ⟨by rw [q1, hc], rfl, q2, away_trans hA q3⟩

set_option maxHeartbeats 3200000 in
set_option maxRecDepth 20000 in
theorem leave_go (h : ClockIn w p gt gm gb ct cm D s) (A : Option Addr) (c : Nat) (l : List Int) (hl : Ints w w.heap.size .i64 A l) (hz : ∀ z ∈ l, I64c z) (hlen : l.length ≤ 17592186043904) :
    Calls Try.prog 17 #[.pointer (some ⟨p, 0, none⟩), .slice A l.length c] w fun e w' => e = .returned (.tuple #[.int .i64 (leaveN s l), .int .i64 (leaveE s l)]) ∧ (∃ D', ClockIn w' p gt gm gb ct cm D' (leaveS s l)) ∧ Away (ownC p gt gm gb) w w' := by
  obtain ⟨c0, _, _, _⟩ := h.cells
  have hfew := h.few
  have hown : ∀ b, ownC p gt gm gb b → b < w.heap.size := h.lt
  have hgl : ¬ ownC p gt gm gb w.heap.size := fun q => by have := hown _ q; omega
  have hmk := makeB s.t.length (by omega)
  -- what lies behind the flags' making
  obtain ⟨W0, hW0⟩ : ∃ W0, W0 = (w.alloc (.cells (BCs (List.replicate s.t.length false)) 4)).alloc (.cells #[.slice (some ⟨w.heap.size, 0, none⟩) s.t.length s.t.length] 41) := ⟨_, rfl⟩
  have hS1 : (w.alloc (.cells (BCs (List.replicate s.t.length false)) 4)).heap.size = w.heap.size + 1 := by simp
  have hB0 : Below w.heap.size w W0 := by
    rw [hW0]
    exact ((Below.refl _ _).alloc (Nat.le_refl _) _).alloc (by simp) _
  have hF0 : BRow 4 w.heap.size (List.replicate s.t.length false) W0 := by
    rw [hW0]
    exact (Below.heap_alloc _ _ _ (by simp)).trans (BRow.new w 4 _)
  have hX0 : W0.heap[w.heap.size + 1]? = some (.cells #[.slice (some ⟨w.heap.size, 0, none⟩) s.t.length s.t.length] 41 (0, 0)) := by
    have h1 := heap_alloc_new (w.alloc (.cells (BCs (List.replicate s.t.length false)) 4)) (.cells #[.slice (some ⟨w.heap.size, 0, none⟩) s.t.length s.t.length] 41)
    rw [hS1] at h1
    rw [hW0]; exact h1
  have HR0 : Hid (LeaveR w p gt gm gb ct cm D s l 0 W0) := ⟨h.later hB0, by rw [leaves_zero]; exact hF0, cell_of_row _ _ _ _ _ _ hX0, hB0⟩
  have HAT : Hid (∀ k wr, k < l.length → LeaveR w p gt gm gb ct cm D s l k wr → Calls Try.prog 25 #[.pointer (some ⟨p, 0, none⟩), .int .i64 (l.getD k 0), .func (.func 28) #[] #[.pointer (some ⟨w.heap.size + 1, 0, none⟩)]] wr fun e w' => ∃ r : Int, e = .returned (.int .i64 r) ∧ LeaveR w p gt gm gb ct cm D s l (k + 1) w') := fun k wr hk hr =>
    leave_at hown hr hk (hz _ (by rw [List.getD_eq_getElem?_getD, List.getElem?_eq_getElem hk]; exact List.getElem_mem hk))
  have HA : Hid (∀ k wr, k < l.length → LeaveR w p gt gm gb ct cm D s l k wr → ∃ b o, A = some ⟨b, o, none⟩ ∧ wr.cell? ⟨b, o + k, none⟩ = some (.int .i64 (l.getD k 0))) := fun k wr hk hr => by
    obtain ⟨b, o, e, _, hc⟩ := (hl.below hr.below) k hk
    exact ⟨b, o, e, hc⟩
  have HCO : Hid (∀ wr, LeaveR w p gt gm gb ct cm D s l l.length wr → Calls Try.prog 29 #[.slice (some ⟨w.heap.size, 0, none⟩) s.t.length s.t.length, .bool true] wr fun e w' => e = .returned (.bool (anyK s l)) ∧ w' = wr) := fun wr hr => by
    have h1 := containsB_any w.heap.size s.t.length (leavesL s l l.length) wr hr.flags (by rw [leaves_len]; exact hfew)
    rwa [leaves_len, leaves_all] at h1
  have HNX : Hid (∀ wr, anyK s l = true → LeaveR w p gt gm gb ct cm D s l l.length wr → Calls Try.prog 30 #[.pointer (some ⟨p, 0, none⟩), .slice (some ⟨w.heap.size, 0, none⟩) s.t.length s.t.length] wr fun e w' => ∃ (i : Nat) (s2 : Ck), i < s.t.length ∧ e = .returned (.int .i64 (i : Int)) ∧ s2.t = s.t ∧ ClockIn w' p gt gm gb ct cm D s2 ∧ Away (ownC p gt gm gb) wr w' ∧ leaveR s l = (⟨s2.t.set i (-1), s2.m, s2.h⟩, some (s.t.getD i 0)) ∧ 0 ≤ s.t.getD i 0) := fun wr ha hr =>
    next_go hr.ring w.heap.size s.t.length (leavesL s l l.length) l hr.flags hgl (leaves_len s l _) (fun i hi => by rw [leaves_at _ _ _ hi, List.take_length]) ha
  have HDR : Hid (∀ (w2 : World) (s2 : Ck) (i : Nat), ClockIn w2 p gt gm gb ct cm D s2 → i < s.t.length → s2.t = s.t → 0 ≤ s.t.getD i 0 → leaveR s l = (⟨s2.t.set i (-1), s2.m, s2.h⟩, some (s.t.getD i 0)) → Away (ownC p gt gm gb) w w2 →
      Calls Try.prog 15 #[.pointer (some ⟨p, 0, none⟩), .int .i64 (s.t.getD i 0)] w2 fun e w' => e = .returned (.int .i64 (leaveE s l)) ∧ s.t.getD i 0 = leaveN s l ∧ (∃ D', ClockIn w' p gt gm gb ct cm D' (leaveS s l)) ∧ Away (ownC p gt gm gb) w w') := fun w2 s2 i hI hi ht h0 hlr hA => leave_end hI h.vals hi ht h0 hlr hA
  have HNO : Hid (anyK s l = false → leaveE s l = 4 ∧ leaveN s l = 0 ∧ leaveS s l = s) := fun q => by
    have e : leaveR s l = (s, none) := by unfold leaveR; rw [if_neg (by rw [q]; decide)]
    exact ⟨by unfold leaveE; rw [e], by unfold leaveN; rw [e]; rfl, by unfold leaveS; rw [e]⟩
  have HCE : Hid (∀ w2 s2, ClockIn w2 p gt gm gb ct cm D s2 → s2.t = s.t → w2.cell? ⟨p, 0, none⟩ = some (.slice (some ⟨gt, 0, none⟩) s.t.length ct) ∧ ∀ i, i < s.t.length → w2.cell? ⟨gt, i, none⟩ = some (.int .i64 (s.t.getD i 0))) := fun w2 s2 hI e => by
    have c := hI.cells.1
    rw [e] at c
    exact ⟨c, fun i hi => by rw [hI.things.cell (by rw [e]; exact hi), e]⟩
  have HBX : Hid (∀ wr w2, LeaveR w p gt gm gb ct cm D s l l.length wr → Away (ownC p gt gm gb) wr w2 → w2.cell? ⟨w.heap.size + 1, 0, none⟩ = some (.slice (some ⟨w.heap.size, 0, none⟩) s.t.length s.t.length)) := fun wr w2 hr hA => by
    refine (hA.cell ?_ (fun q => by have := hown _ q; omega)).trans hr.box
    exact World.block_lt_of_cell? wr _ hr.box
  have HSA := Lib.hid (fun (wr w2 : World) (hr : LeaveR w p gt gm gb ct cm D s l l.length wr) (hA : Away (ownC p gt gm gb) wr w2) => away_trans (Away.of_below (F := ownC p gt gm gb) (w := w) hr.below) hA)
  obtain ⟨N, hN⟩ : ∃ N, N = s.t.length := ⟨_, rfl⟩
  obtain ⟨M, hM⟩ : ∃ M, M = l.length := ⟨_, rfl⟩
  have hM1 : (M : Int) ≤ 17592186043904 := by omega
  have hN0 : (N : Int) ≤ 4096 := by omega
  have HW0 := Lib.hid hW0
  rw [← hN] at hmk c0 HCO HNX HCE HBX HDR HW0
  rw [← hM] at HAT HA HCO HNX HBX HSA ⊢
  clear h hl hz hlen hfew hown hgl hW0 hS1 hB0 hF0 hX0 hN hM
  go_enter Try.func17, Try.ntmps17
  go_wp2
  rw [← HW0.out]
  go_loopw [20] (fun i wr => ∃ k : Nat, k ≤ M ∧ i = .int .i64 k ∧ Hid (LeaveR w p gt gm gb ct cm D s l k wr)) (fun i _ => M - (intOf i).toNat)
  case atStart => exact ⟨0, Nat.zero_le _, rfl, HR0⟩
  case round =>
    obtain ⟨k, hk, rfl, hr⟩ := hrel
    clear HR0 HW0 c0 hmk
    by_cases hlt : k < M
    · obtain ⟨b, o, rfl, q0⟩ := HA.out k wr hlt hr.out
      have hat := HAT.out k wr hlt hr.out
      have k1 : (k : Int) < (M : Int) := by omega
      have k0 : (0 : Int) ≤ (k : Int) := by omega
      obtain ⟨x, hx⟩ : ∃ x, x = l.getD k 0 := ⟨_, rfl⟩
      rw [← hx] at q0 hat
      have HT := Lib.hid hat
      clear hat hr HAT HA HCO HNX HDR HNO HCE HBX HSA hx
      go_wp2_with (go_at_call 25; with_reducible (refine Calls.mono HT.out ?_); rintro e w2 ⟨r, rfl, hr2⟩)
      go_roundw
      case rel => first | exact ⟨k + 1, by omega, by go_num, hr2⟩ | ((repeat apply Exists.intro); exact ⟨⟨k + 1, by omega, by go_num, hr2⟩, rfl⟩)
      case measure => simp [intOf]; omega
    · have hk8 : k = M := by omega
      subst hk8
      have k1 : ¬ (k : Int) < (k : Int) := by omega
      have hco := HCO.out wr hr.out
      have hbx := hr.out.box
      obtain ⟨hcp, hct⟩ := HCE.out wr s hr.out.ring rfl
      have hsb := HBX.out wr wr hr.out (Away.refl _ wr)
      rcases hany : anyK s l with _ | _
      · obtain ⟨e1, e2, e3⟩ := HNO.out hany
        have R : Hid ((∃ D', ClockIn wr p gt gm gb ct cm D' s) ∧ Away (ownC p gt gm gb) w wr) := ⟨⟨D, hr.out.ring⟩, Away.of_below hr.out.below⟩
        rw [hany] at hco
        have HE := Lib.hid (And.intro e1 (And.intro e2 e3))
        have HC := Lib.hid hco
        clear hr HAT HA HCO HNX HDR HNO HCE HBX HSA hco hbx hct e1 e2 e3 hany
        go_wp2_with (go_at_call 29; with_reducible (refine Calls.mono HC.out ?_); rintro e w2 ⟨rfl, rfl⟩)
        go_ret2
        exact ⟨by rw [HE.out.1, HE.out.2.1]; rfl, by rw [HE.out.2.2]; exact R.out.1, R.out.2⟩
      · rw [hany] at hco
        have HC := Lib.hid hco
        have HNX2 := Lib.hid (HNX.out wr.drew hany hr.out.drew)
        have HA2 := Lib.hid (fun w2 hA => HSA.out wr.drew w2 hr.out.drew hA)
        have HB2 := Lib.hid (fun w2 hA => HBX.out wr.drew w2 hr.out.drew hA)
        have HS0 : Hid (wr.drew.cell? ⟨p, 0, none⟩ = some (.slice (some ⟨gt, 0, none⟩) N ct) ∧ wr.drew.cell? ⟨w.heap.size + 1, 0, none⟩ = some (.slice (some ⟨w.heap.size, 0, none⟩) N N)) := ⟨hcp, hsb⟩
        clear hr HAT HA HCO HNX HNO HBX HSA hco hbx hct hany
        go_wp2_with (go_at_call 29; with_reducible (refine Calls.mono HC.out ?_); rintro e w2 ⟨rfl, rfl⟩)
        go_region_with (first
          | (go_at_call 30; with_reducible (refine Calls.mono HNX2.out ?_); rintro e w3 ⟨i, s2, hi, rfl, hs2, hI, hA2, hlr, hx0⟩; have i0 : (0 : Int) ≤ (i : Int) := (by omega); have i1 : (i : Int) < (N : Int) := (by omega); have hci := (HCE.out _ _ hI hs2).2 i hi; have hcq := (HCE.out _ _ hI hs2).1; obtain ⟨x, hx⟩ : ∃ x, x = s.t.getD i 0 := ⟨_, rfl⟩; rw [← hx] at hci; have HX := Lib.hid hx; clear hx))
        all_goals
          have HD2 := Lib.hid (HDR.out w3 s2 i hI hi hs2 hx0 hlr (HA2.out _ hA2))
          rw [← HX.out] at HD2
          clear hI hA2 hlr hx0 HA2 HB2 HNX2 HCE HDR hci hcq i0 i1 hs2
          go_wp2_with (go_at_call 15; with_reducible (refine Calls.mono HD2.out ?_); rintro e w4 ⟨rfl, hr⟩)
          go_ret2
          exact ⟨by rw [← hr.1]; rfl, hr.2⟩
end

end Go.Proofs.Ytdfalnjdjkoofaa
