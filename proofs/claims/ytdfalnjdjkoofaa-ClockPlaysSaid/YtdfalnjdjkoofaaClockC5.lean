/-
  The landed clock: Put.
-/
import Derived.Test.YtdfalnjdjkoofaaClockC3
namespace Go.Proofs.Ytdfalnjdjkoofaa
open Go.RowKit

section
variable {w : World} {p gt gm gb ct cm : Nat} {D : DataW Unit} {s : Ck}

set_option maxHeartbeats 800000 in
theorem put_nil (n : Int) (w : World) : Calls Try.prog 11 #[.pointer none, .int .i64 n] w fun e w' => e = .returned (.tuple #[.int .i64 0, .int .i64 11]) ∧ Below w.heap.size w w' := by
  go_enter Try.func11, Try.ntmps11
  go_wp2
  go_ret2
  exact ⟨rfl, Below.refl _ _⟩

/-- What Put answers where it refuses. -/
theorem put_why (n : Int) : putE s n = if n < 0 then 1 else if touchE s n = 0 then 5 else if s.t.contains (-1) then 0 else 6 := by
  unfold putE
  split
  · rfl
  · rename_i h0
    by_cases hc : s.t.contains n = true
    · rw [if_pos hc, if_pos ((touchE_iff n).2 ⟨by omega, hc⟩)]
    · rw [if_neg hc, if_neg (fun q => hc ((touchE_iff n).1 q).2)]

/-- A thing has come. -/
theorem ClockIn.come (h : ClockIn w p gt gm gb ct cm D s) {n : Int} {i : Nat} (hn : I64c n) (h0 : 0 ≤ n) (hc : s.t.contains n = false) (hi : i < s.t.length) (hf : s.t.getD i 0 = -1) {W1 W3 W4 : World} {m : Nat} (hW1 : W1 = (w.setCell ⟨gt, i, none⟩ (.int .i64 n)).setCell ⟨gm, i, none⟩ (.bool true))
    (h3 : ∀ k, k ≠ gb → W3.heap[k]? = W1.heap[k]?) (ht : W3.mapTurned W4 gb) (ho : W4.ownsMap Try.prog 3 (plainElem Try.prog 3) gb m (D.put (.int .i64 n) (.lit (.int .i64 (i : Int))))) :
    ClockIn W4 p gt gm gb ct cm (D.put (.int .i64 n) (.lit (.int .i64 (i : Int)))) ⟨s.t.set i n, s.m.set i true, s.h⟩ := by
  have hl : (s.t.set i n).length = s.t.length := List.length_set
  obtain ⟨a1, a2, a3, a4, a5, a6⟩ := h.apart
  have hk : ∀ k, k ≠ gb → W4.heap[k]? = W1.heap[k]? := fun k e => (turned_other ht e).trans (h3 k e)
  refine ⟨⟨rfl, by rw [hl, List.length_set]; exact h.ok.mrk, by rw [hl]; exact h.ok.pos, by rw [hl]; exact h.ok.hnd⟩, by rw [hl]; exact h.few, by rw [hl]; exact h.cap, ?_, ?_, ?_, map_tight ho, h.says.put (h.map.tidy keyC) hi hf h0 hc, ?_, h.apart⟩
  · rw [hl, hk p a3, hW1, setc_other _ _ _ _ _ (Ne.symm a2), setc_other _ _ _ _ _ (Ne.symm a1)]; exact h.box
  · refine (hk gt a5).trans ?_
    rw [hW1]; exact (h.things.set i n).other a4 _ _
  · refine (hk gm a6).trans ?_
    rw [hW1]; exact (h.marks.other (Ne.symm a4) _ _).set i true
  · intro z hz
    rcases List.mem_or_eq_of_mem_set hz with e | e
    · exact h.vals z e
    · unfold I64c at hn; omega

set_option maxHeartbeats 3200000 in
set_option maxRecDepth 20000 in
theorem put_go (h : ClockIn w p gt gm gb ct cm D s) (n : Int) (hn : I64c n) :
    Calls Try.prog 11 #[.pointer (some ⟨p, 0, none⟩), .int .i64 n] w fun e w' => e = .returned (.tuple #[.int .i64 (putA s n), .int .i64 (putE s n)]) ∧ (∃ D', ClockIn w' p gt gm gb ct cm D' (putS s n)) ∧ Away (ownC p gt gm gb) w w' := by
  obtain ⟨c0, c1, c2, _⟩ := h.cells
  have hwhy := put_why (s := s) n
  have HM := Lib.hid h.map
  have hkey := Lib.hid (keyOfC hn)
  have HIX := Lib.hid (indexN_any (some ⟨gt, 0, none⟩) ct w.heap.size s.t (-1) w h.things.ints h.few)
  have HR : Hid ((∃ D', ClockIn w p gt gm gb ct cm D' s) ∧ Away (ownC p gt gm gb) w w) := ⟨⟨D, h⟩, Away.refl _ w⟩
  have hN40 : (s.t.length : Int) ≤ 4096 := by have := h.few; omega
  have hat : ∃ x : Int, D.atKey (.int .i64 n) (.lit (.int .i64 0)) = .lit (.int .i64 x) ∧ Maps.has D (.int .i64 n) = decide (touchE s n = 0) := by
    rcases touchE_or (s := s) n with hc | hc
    · have hq := (touchE_iff n).1 hc
      exact ⟨_, h.says.at_ hq.1 hq.2, by rw [(h.says.has_iff n).2 hq, hc]; rfl⟩
    · have hh : Maps.has D (.int .i64 n) = false := by
        cases hb : Maps.has D (.int .i64 n)
        · rfl
        · rw [(touchE_iff n).2 ((h.says.has_iff n).1 hb)] at hc; cases hc
      exact ⟨0, Maps.atKey_of_not_has hh _, by rw [hh, hc]; rfl⟩
  obtain ⟨x, hx1, hx2⟩ := hat
  have HX1 := Lib.hid hx1
  by_cases h0 : n < 0
  · have hE : putE s n = 1 := by rw [hwhy, if_pos h0]
    have hA : putA s n = 0 := if_neg (by omega)
    have hS : putS s n = s := if_neg (by omega)
    rw [hE, hA, hS]
    obtain ⟨B, hB⟩ : ∃ B, B = decide (touchE s n = 0) := ⟨_, rfl⟩
    rw [← hB] at hx2
    have HX2 := Lib.hid hx2
    obtain ⟨r, hr⟩ : ∃ r : Int, r = (if s.t.contains (-1) then (s.t.idxOf (-1) : Int) else -1) := ⟨_, rfl⟩
    rw [← hr] at HIX
    obtain ⟨N, hN⟩ : ∃ N, N = s.t.length := ⟨_, rfl⟩
    rw [← hN] at HIX c0 c1
    clear h hx1 hx2 hwhy hE hA hS hB hr hN hN40 hn
    go_enter Try.func11, Try.ntmps11
    go_wp2_with (first
      | (at_lookup; refine wpList_lookM _ rfl _ _ 51 rfl 3 3 .i64 keyC Try.undMapC Try.undIntC (zeroC _) gb _ D rfl HM.out _ _ rfl hkey.out _ _ HX1.out HX2.out ?_)
      | (go_at_call 23; with_reducible (refine Calls.mono HIX.out ?_); rintro e w1 ⟨rfl, rfl⟩))
    go_ret2
    exact ⟨rfl, HR.out⟩
  · rcases touchE_or (s := s) n with hc | hc
    · have hE : putE s n = 5 := by rw [hwhy, if_neg h0, if_pos hc]
      have hA : putA s n = 0 := if_neg (by omega)
      have hS : putS s n = s := if_neg (by omega)
      rw [hE, hA, hS]
      rw [hc] at hx2
      have HX2 := Lib.hid hx2
      obtain ⟨r, hr⟩ : ∃ r : Int, r = (if s.t.contains (-1) then (s.t.idxOf (-1) : Int) else -1) := ⟨_, rfl⟩
      rw [← hr] at HIX
      obtain ⟨N, hN⟩ : ∃ N, N = s.t.length := ⟨_, rfl⟩
      rw [← hN] at HIX c0 c1
      clear h hx1 hx2 hwhy hE hA hS hc hr hN hN40 hn
      go_enter Try.func11, Try.ntmps11
      go_wp2_with (first
        | (at_lookup; refine wpList_lookM _ rfl _ _ 51 rfl 3 3 .i64 keyC Try.undMapC Try.undIntC (zeroC _) gb _ D rfl HM.out _ _ rfl hkey.out _ _ HX1.out HX2.out ?_)
        | (go_at_call 23; with_reducible (refine Calls.mono HIX.out ?_); rintro e w1 ⟨rfl, rfl⟩))
      go_ret2
      exact ⟨rfl, HR.out⟩
    · have hx3 : Maps.has D (.int .i64 n) = false := by rw [hx2, hc]; rfl
      have HX2 := Lib.hid hx3
      have hc3 : s.t.contains n = false := by
        cases hb : s.t.contains n
        · rfl
        · rw [(touchE_iff n).2 ⟨by omega, hb⟩] at hc; cases hc
      by_cases hf : s.t.contains (-1) = true
      · have hE : putE s n = 0 := by rw [hwhy, if_neg h0, if_neg (by omega), if_pos hf]
        have hA : putA s n = (s.t.idxOf (-1) : Nat) := if_pos hE
        have hS : putS s n = ⟨s.t.set (s.t.idxOf (-1)) n, s.m.set (s.t.idxOf (-1)) true, s.h⟩ := if_pos hE
        rw [hE, hA, hS]
        rw [if_pos hf] at HIX
        obtain ⟨hi, hfr⟩ := mem_at hf
        obtain ⟨i, hie⟩ : ∃ i, i = s.t.idxOf (-1) := ⟨_, rfl⟩
        rw [← hie] at HIX hi hfr ⊢
        have k0 : (0 : Int) ≤ (i : Int) := by omega
        have k1 : (i : Int) < (s.t.length : Int) := by omega
        have hm := h.things.cell hi
        have hmf := h.things.thaw i
        obtain ⟨a1, a2, a3, a4, a5, a6⟩ := h.apart
        obtain ⟨W1, hW1⟩ : ∃ W1, W1 = w.setCell ⟨gt, i, none⟩ (.int .i64 n) := ⟨_, rfl⟩
        obtain ⟨W2, hW2⟩ : ∃ W2, W2 = W1.setCell ⟨gm, i, none⟩ (.bool true) := ⟨_, rfl⟩
        have b1 : ∀ k, k ≠ gt → W1.heap[k]? = w.heap[k]? := fun k e => by rw [hW1]; exact setc_other _ _ _ _ _ (Ne.symm e)
        have b2 : ∀ k, k ≠ gm → W2.heap[k]? = W1.heap[k]? := fun k e => by rw [hW2]; exact setc_other _ _ _ _ _ (Ne.symm e)
        have hbm : BRow 4 gm s.m W1 := (b1 gm (Ne.symm a4)).trans h.marks
        have hm2 := hbm.cell (i := i) (by rw [h.ok.mrk]; exact hi)
        have hmf2 := hbm.thaw i
        have hC1 : Hid (W1.cell? ⟨p, 0, none⟩ = some (.slice (some ⟨gt, 0, none⟩) s.t.length ct) ∧ W1.cell? ⟨p, 1, none⟩ = some (.slice (some ⟨gm, 0, none⟩) s.t.length cm) ∧ W1.cell? ⟨p, 2, none⟩ = some (.map (some gb))) := ⟨(World.cell?_of_block (b1 p a1)).trans c0, (World.cell?_of_block (b1 p a1)).trans c1, (World.cell?_of_block (b1 p a1)).trans c2⟩
        have hC2 : Hid (W2.cell? ⟨p, 0, none⟩ = some (.slice (some ⟨gt, 0, none⟩) s.t.length ct) ∧ W2.cell? ⟨p, 1, none⟩ = some (.slice (some ⟨gm, 0, none⟩) s.t.length cm) ∧ W2.cell? ⟨p, 2, none⟩ = some (.map (some gb))) := ⟨(World.cell?_of_block (b2 p a2)).trans hC1.out.1, (World.cell?_of_block (b2 p a2)).trans hC1.out.2.1, (World.cell?_of_block (b2 p a2)).trans hC1.out.2.2⟩
        have hC3 : Hid (∀ W3, W2.drew.mapTurned W3 gb → W3.cell? ⟨p, 0, none⟩ = some (.slice (some ⟨gt, 0, none⟩) s.t.length ct) ∧ W3.cell? ⟨p, 1, none⟩ = some (.slice (some ⟨gm, 0, none⟩) s.t.length cm) ∧ W3.cell? ⟨p, 2, none⟩ = some (.map (some gb))) := fun W3 ht => ⟨(World.cell?_of_block (turned_other ht a3)).trans hC2.out.1, (World.cell?_of_block (turned_other ht a3)).trans hC2.out.2.1, (World.cell?_of_block (turned_other ht a3)).trans hC2.out.2.2⟩
        have hC4 : Hid (∀ W3 W4, W2.drew.mapTurned W3 gb → W3.mapTurned W4 gb → W4.cell? ⟨p, 0, none⟩ = some (.slice (some ⟨gt, 0, none⟩) s.t.length ct) ∧ W4.cell? ⟨p, 1, none⟩ = some (.slice (some ⟨gm, 0, none⟩) s.t.length cm) ∧ W4.cell? ⟨p, 2, none⟩ = some (.map (some gb))) := fun W3 W4 ht h4 => ⟨(World.cell?_of_block (turned_other h4 a3)).trans (hC3.out W3 ht).1, (World.cell?_of_block (turned_other h4 a3)).trans (hC3.out W3 ht).2.1, (World.cell?_of_block (turned_other h4 a3)).trans (hC3.out W3 ht).2.2⟩
        have HM2 : Hid (W2.ownsMap Try.prog 3 (plainElem Try.prog 3) gb (Maps.size D) D) := map_heap h.map ((b2 gb (Ne.symm a6)).trans (b1 gb (Ne.symm a5)))
        have HSZ : Hid (Maps.size D < maxLen) := by
          have h1 := h.says.few
          have h2 := cntC_le s.t
          have h3 := h.few
          unfold Hid maxLen; omega
        have HVAL : Hid (plainElem (H := Unit) Try.prog 3 (.int .i64 (i : Int)) = some (.lit (.int .i64 (i : Int)), [])) := plainElem_int Try.undIntC (by simp [Lit.wf, IntKind.min, IntKind.max, IntKind.signed, IntKind.bits]; omega)
        have HE : Hid (∀ W3 W4 m, W2.drew.mapTurned W3 gb → W3.mapTurned W4 gb → W4.ownsMap Try.prog 3 (plainElem Try.prog 3) gb m (D.put (.int .i64 n) (.lit (.int .i64 (i : Int)))) → (∃ D', ClockIn W4 p gt gm gb ct cm D' ⟨s.t.set i n, s.m.set i true, s.h⟩) ∧ Away (ownC p gt gm gb) w W4) := fun W3 W4 m h3 h4 ho =>
          ⟨⟨_, h.come hn (by omega) hc3 hi hfr (hW2.trans (by rw [hW1])) (fun k e => show W3.heap[k]? = W2.drew.heap[k]? from turned_other h3 e) h4 ho⟩,
            away_turned (away_turned (away_drew1 (by rw [hW2, hW1]; exact ((Away.refl _ w).set own_t _ _).set own_m _ _)) h3 own_b) h4 own_b⟩
        obtain ⟨N, hN⟩ : ∃ N, N = s.t.length := ⟨_, rfl⟩
        rw [← hN] at HIX c0 c1 k1 hC1 hC2 hC3 hC4
        obtain ⟨v1, hv1⟩ : ∃ v, v = s.t.getD i 0 := ⟨_, rfl⟩
        obtain ⟨v2, hv2⟩ : ∃ v, v = s.m.getD i false := ⟨_, rfl⟩
        rw [← hv1] at hm
        rw [← hv2] at hm2
        obtain ⟨s2, hs2⟩ : ∃ s2, s2 = (⟨s.t.set i n, s.m.set i true, s.h⟩ : Ck) := ⟨_, rfl⟩
        rw [← hs2] at HE ⊢
        obtain ⟨st, w3, hr3, ht3, hst⟩ := map_entry (w := W2.drew) HM2.out keyC Try.undMapC HSZ.out zeroC hkey.out HX2.out
        obtain ⟨w4, hr4, ho4, ht4⟩ := hst w3 _ _ _ rfl HVAL.out
        have hr5 : (Instr.mapEntry 51 (.map (some gb)) (.int .i64 n)).run Try.prog ((w.setCell ⟨gt, i, none⟩ (.int .i64 n)).setCell ⟨gm, i, none⟩ (.bool true)).drew = .ok (.tuple #[.int .i64 0, .int .i64 (st : Int)]) w3 := by rw [← hW1, ← hW2]; exact hr3
        have hr6 : (Instr.entryStore 51 (.map (some gb)) (.int .i64 (st : Int)) (.int .i64 (i : Int))).run Try.prog w3 = .ok () w4 := hr4
        have HT3 := Lib.hid ht3
        have HT4 := Lib.hid ht4
        have HO4 := Lib.hid ho4
        clear hr3 hr4 ht3 ht4 hst ho4
        rw [hW1] at hm2 hmf2
        have HW1 := Lib.hid hW1
        have HW2 := Lib.hid hW2
        have hc0 := c0
        clear h hx1 hx2 hwhy hE hA hS hc hN hN40 hn hx3 hc3 hf hi hfr hie b1 b2 hbm hv1 hv2 hs2 hW1 hW2 a1 a2 a3 a4 a5 a6 HR
        have hC0 : Hid (w.cell? ⟨p, 0, none⟩ = some (.slice (some ⟨gt, 0, none⟩) N ct) ∧ w.cell? ⟨p, 1, none⟩ = some (.slice (some ⟨gm, 0, none⟩) N cm) ∧ w.cell? ⟨p, 2, none⟩ = some (.map (some gb))) := ⟨c0, c1, c2⟩
        go_enter Try.func11, Try.ntmps11
        go_wp2_with (first
          | (at_lookup; refine wpList_lookM _ rfl _ _ 51 rfl 3 3 .i64 keyC Try.undMapC Try.undIntC (zeroC _) gb _ D rfl HM.out _ _ rfl hkey.out _ _ HX1.out HX2.out ?_)
          | (go_at_call 23; with_reducible (refine Calls.mono HIX.out ?_); rintro e w1 ⟨rfl, rfl⟩))
        go_region_held3 (fun W => W.cell? ⟨p, 0, none⟩ = some (.slice (some ⟨gt, 0, none⟩) N ct) ∧ W.cell? ⟨p, 1, none⟩ = some (.slice (some ⟨gm, 0, none⟩) N cm) ∧ W.cell? ⟨p, 2, none⟩ = some (.map (some gb)))
          (first
            | exact hC0.out
            | exact hC4.out _ _ HT3.out HT4.out
            | exact hC3.out _ HT3.out
            | (rw [← HW1.out, ← HW2.out]; exact hC2.out)
            | (rw [← HW1.out]; exact hC1.out))
          (fail)
        go_wp2
        go_ret2
        exact ⟨rfl, HE.out _ _ _ HT3.out HT4.out HO4.out⟩
      · have hE : putE s n = 6 := by rw [hwhy, if_neg h0, if_neg (by omega), if_neg hf]
        have hA : putA s n = 0 := if_neg (by omega)
        have hS : putS s n = s := if_neg (by omega)
        rw [hE, hA, hS]
        rw [if_neg hf] at HIX
        obtain ⟨N, hN⟩ : ∃ N, N = s.t.length := ⟨_, rfl⟩
        rw [← hN] at HIX c0 c1
        clear h hx1 hx2 hwhy hE hA hS hc hN hN40 hn hx3 hc3 hf
        go_enter Try.func11, Try.ntmps11
        go_wp2_with (first
          | (at_lookup; refine wpList_lookM _ rfl _ _ 51 rfl 3 3 .i64 keyC Try.undMapC Try.undIntC (zeroC _) gb _ D rfl HM.out _ _ rfl hkey.out _ _ HX1.out HX2.out ?_)
          | (go_at_call 23; with_reducible (refine Calls.mono HIX.out ?_); rintro e w1 ⟨rfl, rfl⟩))
        go_ret2
        exact ⟨rfl, HR.out⟩
end

end Go.Proofs.Ytdfalnjdjkoofaa
