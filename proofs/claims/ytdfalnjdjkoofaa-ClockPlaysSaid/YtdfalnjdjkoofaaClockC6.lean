/-
  The landed clock: Things; the hand goes on.
-/
import Derived.Test.YtdfalnjdjkoofaaClockC3
import Derived.Test.YtdfalnjdjkoofaaClockStepN
namespace Go.Proofs.Ytdfalnjdjkoofaa
open Go.RowKit

theorem Try.infoC6 : (Try.prog.info? 3).map (fun i => (i.zero, i.size, i.bytes)) = some (some (.int .i64 0), 1, 8) := by kernel_rfl

set_option maxHeartbeats 1600000 in
/-- 'slices.Clone' of numbers that are there. -/
theorem cloneN_any (b0 o0 c n : Nat) (L : List Int) (w : World) (h : Ints w w.heap.size .i64 (some ⟨b0, o0, none⟩) L) (hn : L.length = n) (h1 : 1 ≤ n) (h16 : n ≤ 4096) :
    Calls Try.prog 32 #[.slice (some ⟨b0, o0, none⟩) n c] w fun e w' => ∃ g cap, e = .returned (.slice (some ⟨g, 0, none⟩) n cap) ∧ n ≤ cap ∧ w'.ownsRow w.heap.size 3 1 (.slice (some ⟨g, 0, none⟩) n cap) n (L.map (Value.int .i64)) ∧ Below w.heap.size w w' := by
  obtain ⟨i0, hi, hz0, hz1, hz2⟩ := info_parts Try.infoC6
  have HN1 : Hid ((some ⟨b0, o0, none⟩ : Option Addr) = none → c = 0) := fun e => by cases e
  have H0 := Lib.hid h
  have HLN := Lib.hid hn
  have hnil : ∀ W, (binOp .eql 30 (.slice (some ⟨b0, o0, none⟩) n c) (.slice none 0 0)).run Try.prog W = .ok (.bool false) W := fun W => by kernel_rfl
  clear h hn
  go_enter Try.func32, Try.ntmps32
  go_wp2_with (first
    | (at_builtin; refine wpList_append_when _ rfl (.tmp 5) (.tmp 6) 30 rfl w.heap.size 3 i0 (.int .i64 0) 8 Try.underlying30 hi hz0 hz1 hz2 rfl .i64 (.slice (some ⟨w.heap.size, 0, none⟩) 0 0) [] L w.heap.size c n (some ⟨b0, o0, none⟩) HLN.out rfl rfl (World.ownsRow_made w #[] 0 (Nat.le_refl _) (Nat.zero_le _) rfl) (H0.out.below ((Below.refl _ w).alloc (Nat.le_refl _) _)) HN1.out ?d1 ?d2 (by simp) ?_))
  case d1 => rw [HLN.out]; unfold maxLen; simp; omega
  case d2 => rw [HLN.out]; simp; omega
  intro v4 w4 hown4 hg4 _
  have hb4 : Below w.heap.size w w4 := ((Below.refl w.heap.size w).alloc (Nat.le_refl _) _).grown hg4 (by simp) fun q hq => by simp [Value.ownBlock] at hq; omega
  have hown5 : w4.ownsRow w.heap.size 3 1 v4 n (L.map (Value.int .i64)) := by
    have h := hown4
    have hl := HLN.out
    first
      | exact hl ▸ h
      | (rw [List.nil_append, hl] at h; exact h)
      | (simp only [List.nil_append, hl] at h; exact h)
  obtain ⟨g, cap, hv, hbg, hgl⟩ := hown5.form (by omega)
  subst hv
  have hnc : n ≤ cap := own_le hown5
  have R := Lib.hid (And.intro hown5 hb4)
  clear hown4 hg4 hown5 hb4
  go_wp2
  go_ret
  exact ⟨g, cap, rfl, hnc, R.out.1, R.out.2⟩

section
variable {w : World} {p gt gm gb ct cm : Nat} {D : DataW Unit} {s : Ck}

set_option maxHeartbeats 800000 in
theorem things_nil (w : World) : Calls Try.prog 21 #[.pointer none] w fun e w' => ∃ A c, e = .returned (.slice A 0 c) ∧ Below w.heap.size w w' := by
  go_enter Try.func21, Try.ntmps21
  go_wp2
  go_ret
  exact ⟨_, _, rfl, Below.refl _ _⟩

set_option maxHeartbeats 800000 in
theorem things_go (h : ClockIn w p gt gm gb ct cm D s) : Calls Try.prog 21 #[.pointer (some ⟨p, 0, none⟩)] w fun e w' => ∃ A c, e = .returned (.slice A s.t.length c) ∧ Ints w' w'.heap.size .i64 A s.t ∧ Below w.heap.size w w' := by
  obtain ⟨c0, _, _, _⟩ := h.cells
  have HC := Lib.hid (cloneN_any gt 0 ct s.t.length s.t w h.things.ints rfl h.ok.pos h.few)
  have HO : Hid (∀ (W : World) g cap, W.ownsRow w.heap.size 3 1 (.slice (some ⟨g, 0, none⟩) s.t.length cap) s.t.length (s.t.map (Value.int .i64)) → Ints W W.heap.size .i64 (some ⟨g, 0, none⟩) s.t) := fun W g cap ho => Ints.of_own ho
  obtain ⟨N, hN⟩ : ∃ N, N = s.t.length := ⟨_, rfl⟩
  rw [← hN] at HC HO c0 ⊢
  clear h hN
  go_enter Try.func21, Try.ntmps21
  go_wp2_with (go_at_call 32; with_reducible (refine Calls.mono HC.out ?_); rintro e w1 ⟨g, cap, rfl, hr⟩)
  go_ret
  exact ⟨_, _, rfl, HO.out _ _ _ hr.2.1, hr.2.2⟩

/-- The ring that lies in memory, read anew: its marks and its hand. -/
def decC (t : List Int) (p gm : Nat) (w : World) : Ck :=
  ⟨t, (List.range t.length).map (fun i => match w.cell? ⟨gm, i, none⟩ with | some (.bool b) => b | _ => false), match w.cell? ⟨p, 3, none⟩ with | some (.int _ n) => n.toNat | _ => 0⟩
theorem ClockIn.dec (h : ClockIn w p gt gm gb ct cm D s) : decC s.t p gm w = s := by
  obtain ⟨t, m, k⟩ := s
  have h3 := h.cells.2.2.2
  unfold decC
  rw [h3]
  have hm : m.length = t.length := h.ok.mrk
  congr 1
  apply List.ext_getElem
  · simp [hm]
  · intro i h1 h2
    have := h.marks.cell (i := i) h2
    simp only [List.getElem_map, List.getElem_range]
    rw [this]
    simp [List.getD_eq_getElem?_getD, h2]

/-- What a round of the hand holds. -/
structure NextR (w : World) (p gt gm gb ct cm gl : Nat) (D : DataW Unit) (L : List Bool) (t may : List Int) (sF : Ck × Option Int) (wr : World) : Prop where
  ring : ∃ s1, ClockIn wr p gt gm gb ct cm D s1 ∧ s1.t = t ∧ goK may (2 * t.length + 1) s1 = sF
  flags : BRow 4 gl L wr
  away : Away (ownC p gt gm gb) w wr

set_option maxHeartbeats 3200000 in
set_option maxRecDepth 20000 in
theorem next_go (h : ClockIn w p gt gm gb ct cm D s) (gl cl : Nat) (L : List Bool) (may : List Int) (hL : BRow 4 gl L w) (hgl : ¬ ownC p gt gm gb gl) (hLl : L.length = s.t.length) (hLs : ∀ i, i < s.t.length → L.getD i false = mayB s may i) (hany : anyK s may = true) :
    Calls Try.prog 30 #[.pointer (some ⟨p, 0, none⟩), .slice (some ⟨gl, 0, none⟩) s.t.length cl] w fun e w' => ∃ (i : Nat) (s2 : Ck), i < s.t.length ∧ e = .returned (.int .i64 (i : Int)) ∧ s2.t = s.t ∧ ClockIn w' p gt gm gb ct cm D s2 ∧ Away (ownC p gt gm gb) w w' ∧ leaveR s may = (⟨s2.t.set i (-1), s2.m, s2.h⟩, some (s.t.getD i 0)) ∧ 0 ≤ s.t.getD i 0 := by
  obtain ⟨nF, hnF⟩ := leave_some h.ok hany
  obtain ⟨sF, hsF⟩ : ∃ sF, sF = goK may (2 * s.t.length + 1) s := ⟨_, rfl⟩
  have hlr : leaveR s may = sF := by unfold leaveR; rw [if_pos hany, hsF]
  have hsome : sF.2.isSome = true := by rw [← hlr, hnF]; rfl
  have H0 : Hid (NextR w p gt gm gb ct cm gl D L s.t may sF w) := ⟨⟨s, h, rfl, hsF.symm⟩, hL, Away.refl _ w⟩
  obtain ⟨t, ht⟩ : ∃ t, t = s.t := ⟨_, rfl⟩
  have hfew := h.few
  have hpos := h.ok.pos
  have HLS : Hid (∀ s1 : Ck, s1.t = t → ∀ i, i < t.length → L.getD i false = mayB s1 may i) := fun s1 e i hi => by
    rw [hLs i (by rw [← ht]; exact hi)]; unfold mayB; rw [e, ht]
  rw [hlr]
  rw [← ht] at H0 hLl hfew hpos ⊢
  have HLL := Lib.hid hLl
  have HS := Lib.hid hsome
  have HGL : Hid (gl ≠ p ∧ gl ≠ gm) := ⟨fun e => hgl (.inl e), fun e => hgl (.inr (.inr (.inl e)))⟩
  obtain ⟨N, hN⟩ : ∃ N, N = t.length := ⟨_, rfl⟩
  have HN := Lib.hid hN
  have n1 : (N : Int) ≤ 4096 := by omega
  have n0 : ¬ (N : Int) = 0 := by omega
  have n2 : (0 : Int) < (N : Int) := by omega
  have HW := Lib.hid (fun (W : World) => Away.refl (ownC p gt gm gb) W)
  rw [← hN]
  clear h hL hgl hLl hLs hany hnF hsF hlr hsome ht hfew hpos hN
  go_enter Try.func30, Try.ntmps30
  go_wp2
  go_loopw [] (fun wr => Hid (NextR w p gt gm gb ct cm gl D L t may sF wr)) (fun wr => fuelK may (2 * t.length + 1) (decC t p gm wr))
  case atStart => exact H0
  case round =>
    obtain ⟨s1, hI, rfl, hg⟩ := hrel.out.ring
    have hdec := hI.dec
    have hsm : (goK may (2 * s1.t.length + 1) s1).2.isSome = true := by rw [hg]; exact HS.out
    obtain ⟨c0, c1, _, c3⟩ := hI.cells
    have hh := hI.ok.hnd
    have hNN := HN.out
    rw [← hNN] at c0 c1 hh
    have k0 : (0 : Int) ≤ (s1.h : Int) := by omega
    have k1 : (s1.h : Int) < (N : Int) := by omega
    obtain ⟨nx, hnx⟩ : ∃ nx, nx = (s1.h + 1) % s1.t.length := ⟨_, rfl⟩
    have hnlt : nx < s1.t.length := by rw [hnx]; exact Nat.mod_lt _ (by omega)
    have hrem : Int.tmod ((s1.h : Int) + 1) (N : Int) = (nx : Int) := by
      rw [hnx, ← hNN]; rfl
    have hf3 := hI.thaw 3
    have hH := hI.hand nx hnlt
    have hA1 : Away (ownC p gt gm gb) w (wr.setCell ⟨p, 3, none⟩ (.int .i64 (nx : Int))) := hrel.out.away.set own_p _ _
    have hF1 : BRow 4 gl L (wr.setCell ⟨p, 3, none⟩ (.int .i64 (nx : Int))) := hrel.out.flags.other HGL.out.1 _ _
    have hcf := hF1.cell (i := s1.h) (by rw [HLL.out]; omega)
    have hcm := hH.marks.cell (i := s1.h) (by rw [hH.ok.mrk]; show _ < s1.t.length; omega)
    obtain ⟨_, c1b, _, _⟩ := hH.cells
    rw [← hNN] at c1b
    have hcc := HLS.out s1 rfl s1.h (by omega)
    rw [hcc] at hcf
    replace hcm : (wr.setCell ⟨p, 3, none⟩ (.int .i64 (nx : Int))).cell? ⟨gm, s1.h, none⟩ = some (.bool (s1.m.getD s1.h false)) := hcm
    rcases hb : mayB s1 may s1.h with _ | _
    · obtain ⟨q1, q2⟩ := goK_next hsm (step_skip hb)
      rw [← hnx] at q1 q2
      have R : Hid (NextR w p gt gm gb ct cm gl D L s1.t may sF (wr.setCell ⟨p, 3, none⟩ (.int .i64 (nx : Int)))) := ⟨⟨_, hH, rfl, q1.trans hg⟩, hF1, hA1⟩
      have HM : Hid (fuelK may (2 * s1.t.length + 1) (decC s1.t p gm (wr.setCell ⟨p, 3, none⟩ (.int .i64 (nx : Int)))) < fuelK may (2 * s1.t.length + 1) (decC s1.t p gm wr)) := by
        have e2 : decC s1.t p gm (wr.setCell ⟨p, 3, none⟩ (.int .i64 (nx : Int))) = ⟨s1.t, s1.m, nx⟩ := hH.dec
        unfold Hid
        rw [hdec, e2]; exact q2
      rw [hb] at hcf
      obtain ⟨hd, hhd⟩ : ∃ k, k = s1.h := ⟨_, rfl⟩
      rw [← hhd] at c3 k0 k1 hrem hcf
      clear hH hI hrel hdec hsm hA1 hF1 hcm hcc hb q1 q2 hhd hnx hnlt hg hh hNN
      go_wp2
      go_roundw
      case rel => exact R
      case measure => exact HM.out
    · rcases hm : s1.m.getD s1.h false with _ | _
      · have hl := goK_last hsm (step_leaves hb hm)
        rw [hg] at hl
        have h0 : 0 ≤ s1.t.getD s1.h 0 := by
          unfold mayB at hb
          rw [Bool.and_eq_true, decide_eq_true_eq] at hb; exact hb.1
        have R : Hid (∃ (i : Nat) (s2 : Ck), i < N ∧ Ending.returned (.int .i64 (s1.h : Int)) = Ending.returned (.int .i64 (i : Int)) ∧ s2.t = s1.t ∧ ClockIn (wr.setCell ⟨p, 3, none⟩ (.int .i64 (nx : Int))) p gt gm gb ct cm D s2 ∧ Away (ownC p gt gm gb) w (wr.setCell ⟨p, 3, none⟩ (.int .i64 (nx : Int))) ∧ sF = (⟨s2.t.set i (-1), s2.m, s2.h⟩, some (s1.t.getD i 0)) ∧ 0 ≤ s1.t.getD i 0) :=
          ⟨s1.h, ⟨s1.t, s1.m, nx⟩, hh, rfl, rfl, hH, hA1, by rw [hl, ← hnx], h0⟩
        rw [hb] at hcf
        rw [hm] at hcm
        obtain ⟨hd, hhd⟩ : ∃ k, k = s1.h := ⟨_, rfl⟩
        rw [← hhd] at c3 k0 k1 hrem hcf hcm R
        clear hH hI hrel hdec hsm hA1 hF1 hcc hb hhd hnx hnlt hg hh hNN hm hl h0
        go_wp2
        go_ret
        obtain ⟨i, s2, r1, r2, r3⟩ := R.out
        first | exact ⟨i, s2, r1, r2, r3⟩ | exact ⟨i, r1, r2, s2, r3⟩
      · obtain ⟨q1, q2⟩ := goK_next hsm (step_strike hb hm)
        rw [← hnx] at q1 q2
        have hH2 := hH.mark s1.h false
        have hfm := hH.marks.thaw s1.h
        have R : Hid (NextR w p gt gm gb ct cm gl D L s1.t may sF ((wr.setCell ⟨p, 3, none⟩ (.int .i64 (nx : Int))).setCell ⟨gm, s1.h, none⟩ (.bool false))) := ⟨⟨_, hH2, rfl, q1.trans hg⟩, hF1.other HGL.out.2 _ _, hA1.set own_m _ _⟩
        have HM : Hid (fuelK may (2 * s1.t.length + 1) (decC s1.t p gm ((wr.setCell ⟨p, 3, none⟩ (.int .i64 (nx : Int))).setCell ⟨gm, s1.h, none⟩ (.bool false))) < fuelK may (2 * s1.t.length + 1) (decC s1.t p gm wr)) := by
          have e2 : decC s1.t p gm ((wr.setCell ⟨p, 3, none⟩ (.int .i64 (nx : Int))).setCell ⟨gm, s1.h, none⟩ (.bool false)) = ⟨s1.t, s1.m.set s1.h false, nx⟩ := hH2.dec
          unfold Hid
          rw [hdec, e2]; exact q2
        rw [hb] at hcf
        rw [hm] at hcm
        obtain ⟨hd, hhd⟩ : ∃ k, k = s1.h := ⟨_, rfl⟩
        rw [← hhd] at c3 k0 k1 hrem hcf hcm R HM hfm
        clear hH hH2 hI hrel hdec hsm hA1 hF1 hcc hb q1 q2 hhd hnx hnlt hg hh hNN hm
        go_wp2
        go_roundw
        case rel => exact R
        case measure => exact HM.out
end

end Go.Proofs.Ytdfalnjdjkoofaa
