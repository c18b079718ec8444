/-
  The document's own disk: Flush, Crash.
-/
import Derived.Test.YtnbgnllkikajpaaDiskRef2
namespace Go.Proofs.Ytnbgnllkikajpaa
open Go.RowKit

theorem take_pair (l : List (Nat × List Nat)) {k : Nat} (h : k < l.length) : l.take (k + 1) = l.take k ++ [l.getD k (0, [])] := by
  rw [List.take_succ_eq_append_getElem h]; simp [List.getD, h]
section
variable {base : Nat} {W : World} {q lg lc : Nat} {v : Value} {z : Int} {s : Dk}
/-- One write of those that last. -/
theorem RefD.put (h : RefD base W q lg lc v z s) {k : Nat} (hk : k < s.pend.length) {l : List (List Nat)} (hl : l = s.last) :
    RefD base (W.setCell ⟨lg, (s.pend.getD k (0, [])).1, none⟩ (txtV (s.pend.getD k (0, [])).2)) q lg lc v z ⟨l.set (s.pend.getD k (0, [])).1 (s.pend.getD k (0, [])).2, s.pend, s.lim, s.off⟩ := by
  subst hl
  exact h.setSec _ (h.ok.pen k hk).2

set_option maxHeartbeats 3200000 in
set_option maxRecDepth 20000 in
theorem refFlush_any (h : RefD base W q lg lc v z s) (hm : s.pend.length ≤ 100000) : Calls Try.prog 17 #[.pointer (some ⟨q, 0, none⟩)] W fun e w' => e = .returned (.int .i64 (flushE s)) ∧ RefT base W q lg lc v (flushS s) w' := by
  obtain ⟨c0, c1, c2, c3⟩ := h.cells
  cases ho : s.off with
  | true =>
    have hE : flushE s = 8 := by unfold flushE; rw [ho]; rfl
    have R : Hid (RefT base W q lg lc v (flushS s) W) := ⟨v, z, by unfold flushS; rw [ho]; exact h, Away.refl _ _, .inl rfl⟩
    rw [ho] at c3
    rw [hE]
    clear h hm hE
    go_enter Try.func17, Try.ntmps17
    go_wp2
    go_ret
    exact ⟨rfl, R.out⟩
  | false =>
    rw [ho] at c3
    have HSP := refSpend_any h
    by_cases hsp : spendE s = 0
    · have hE : flushE s = 0 := by unfold flushE; rw [ho, hsp]; rfl
      have hS : flushS s = ⟨putP s.pend s.last, [], (spendS s).lim, (spendS s).off⟩ := by unfold flushS; rw [ho, hsp]; rfl
      have hss : (spendS s).last = s.last ∧ (spendS s).pend = s.pend := by unfold spendS; split <;> exact ⟨rfl, rfl⟩
      rw [hE]
      rw [hsp] at HSP
      replace HSP := Lib.hid HSP
      have HS := Lib.hid hS
      have HSS := Lib.hid hss
      have hMM : s.pend.length ≤ 100000 := hm
      have hfrm := h.form
      have hlq : lg < W.heap.size := (h.last.lt lg rfl).2
      clear hE hS hss hsp hm c0 c1 c2 h
      go_enter Try.func17, Try.ntmps17
      go_wp2_with (go_at_call 28; with_reducible (refine Calls.mono HSP.out ?_); rintro e w1 ⟨rfl, z1, hr1, ha1⟩)
      have hst : Hid (RefD base w1 q lg lc v z1 ⟨putP (s.pend.take 0) s.last, s.pend, (spendS s).lim, (spendS s).off⟩ ∧ Away (RefF q lg v) W w1) := by
        refine ⟨?_, ha1⟩
        have e : spendS s = ⟨s.last, s.pend, (spendS s).lim, (spendS s).off⟩ := by
          rw [← HSS.out.1, ← HSS.out.2]
        rw [e] at hr1
        exact hr1
      clear hr1 ha1 HSP c3
      obtain ⟨lm, hlm⟩ : ∃ lm, lm = (spendS s).lim := ⟨_, rfl⟩
      obtain ⟨of, hof⟩ : ∃ of, of = (spendS s).off := ⟨_, rfl⟩
      rw [← hlm, ← hof] at hst HS
      obtain ⟨M, hM⟩ : ∃ M, M = s.pend.length := ⟨_, rfl⟩
      rw [← hM] at hMM
      have HM := Lib.hid hM
      have hMi : (M : Int) ≤ 100000 := by omega
      clear hlm hof hM
      go_loopw [4] (fun i wx => ∃ k : Nat, k ≤ M ∧ i = .int .i64 k ∧ Hid (RefD base wx q lg lc v z1 ⟨putP (s.pend.take k) s.last, s.pend, lm, of⟩ ∧ Away (RefF q lg v) W wx)) (fun i _ => M - (intOf i).toNat)
      case atStart => exact ⟨0, Nat.zero_le _, rfl, hst.out⟩
      case round =>
        clear hst
        obtain ⟨k, hk, rfl, hR⟩ := hrel
        have k0 : (0 : Int) ≤ (k : Int) := by omega
        obtain ⟨d0, d1, d2, d3⟩ := hR.out.1.cells
        have f1 := hR.out.1.thaw 1
        rcases hR.out.1.form with ⟨hv, hp⟩ | ⟨g, c, hv, hp⟩
        · have hM0 : M = 0 := by have := HM.out; rw [hp] at this; exact this
          have hk9 : k = 0 := by omega
          subst hv
          subst hk9
          have R : Hid (RefT base W q lg lc (.slice none 0 0) (flushS s) (wr.setCell ⟨q, 1, none⟩ (.slice none 0 0))) := by
            refine ⟨.slice none 0 0, z1, ?_, hR.out.2.set (.inl rfl) 1 _, .inl rfl⟩
            rw [HS.out, show putP s.pend s.last = putP (s.pend.take 0) s.last by rw [show s.pend = [] from hp]; rfl]
            exact hR.out.1.setNil
          clear hR hfrm hp HM HS HSS hM0
          go_wp2
          go_ret
          exact ⟨rfl, R.out⟩
        · subst hv
          by_cases hkM : k < M
          · have k1 : (k : Int) < (M : Int) := by omega
            have hkl : k < s.pend.length := by have := HM.out; omega
            obtain ⟨p1, p2⟩ := hp k hkl
            have hpk := hR.out.1.ok.pen k hkl
            have hst := hR.out.1.put hkl (l := putP (s.pend.take k) s.last) rfl
            have hsc := hR.out.1.sect (i := (s.pend.getD k (0, [])).1) hpk.1
            have hfz : wr.frozen? ⟨lg, (s.pend.getD k (0, [])).1, none⟩ = false := hR.out.1.last.frozenAt _
            have HT : Hid (putP (s.pend.take (k + 1)) s.last = (putP (s.pend.take k) s.last).set (s.pend.getD k (0, [])).1 (s.pend.getD k (0, [])).2) := by
              unfold Hid; rw [take_pair s.pend hkl, putP_app]
            have e0 : (s.pend.getD k (0, [])).1 < (putP (s.pend.take k) s.last).length := hpk.1
            obtain ⟨pn, hpn⟩ : ∃ pn, pn = (s.pend.getD k (0, [])).1 := ⟨_, rfl⟩
            obtain ⟨pt, hpt⟩ : ∃ pt, pt = (s.pend.getD k (0, [])).2 := ⟨_, rfl⟩
            simp only [] at p1 p2 hst hsc
            rw [← hpn] at p1 hst hsc hfz HT e0
            rw [← hpt] at p2 hst HT
            have hst2 : ∃ tx, txtV pt = .string tx := ⟨_, rfl⟩
            obtain ⟨tx, htx⟩ := hst2
            have hst3 : ∃ ty, txtV ((putP (s.pend.take k) s.last).getD pn []) = .string ty := ⟨_, rfl⟩
            obtain ⟨ty, hty⟩ := hst3
            rw [htx] at p2 hst
            rw [hty] at hsc
            obtain ⟨N, hN⟩ : ∃ N, N = (putP (s.pend.take k) s.last).length := ⟨_, rfl⟩
            simp only [← hN] at d0 e0
            have hML := HM.out
            simp only [← hML] at d1
            have e1 : (pn : Int) < (N : Int) := by omega
            have e2 : (0 : Int) ≤ (pn : Int) := by omega
            have R : Hid (RefD base (wr.drew.setCell ⟨lg, pn, none⟩ (.string tx)) q lg lc (.slice (some ⟨g, 0, none⟩) s.pend.length c) z1 ⟨putP (s.pend.take (k + 1)) s.last, s.pend, lm, of⟩ ∧ Away (RefF q lg (.slice (some ⟨g, 0, none⟩) s.pend.length c)) W (wr.drew.setCell ⟨lg, pn, none⟩ (.string tx))) := by
              refine ⟨?_, (away_drew1 hR.out.2).set (.inr (.inl rfl)) pn _⟩
              rw [HT.out]
              exact ⟨hst.cell, hst.last, hst.pend, hst.lim, hst.d1, hst.d2, hst.d3, hst.bq, hst.zi, hst.ok⟩
            clear hR hfrm hp hpk hst HT hN htx hty hpn hpt d2 d3 f1 HS HSS hML hkl
            go_wp2_with fail
            go_region
            go_wp2
            go_roundw
            case rel => first | exact ⟨k + 1, by omega, by go_num, R.out⟩ | ((repeat apply Exists.intro); exact ⟨⟨k + 1, by omega, by go_num, R.out⟩, rfl⟩)
            case measure => simp [intOf]; omega
          · have k1 : ¬ (k : Int) < (M : Int) := by omega
            have hk9 : k = s.pend.length := by have := HM.out; omega
            have hML := HM.out
            have R : Hid (RefT base W q lg lc (.slice (some ⟨g, 0, none⟩) s.pend.length c) (flushS s) (wr.setCell ⟨q, 1, none⟩ (.slice none 0 0))) := by
              refine ⟨.slice none 0 0, z1, ?_, hR.out.2.set (.inl rfl) 1 _, .inr (.inl rfl)⟩
              rw [HS.out]
              have h5 := hR.out.1.setNil
              rw [hk9, List.take_length] at h5
              exact h5
            simp only [← hML] at d1
            clear hR hfrm hp HS HSS hk9 hML
            go_wp2
            go_ret
            exact ⟨rfl, R.out⟩
    · have h8 : spendE s = 8 := by unfold spendE at hsp ⊢; split <;> simp_all
      have hE : flushE s = 8 := by unfold flushE; rw [ho, h8]; rfl
      have HS : Hid (flushS s = spendS s) := by unfold Hid flushS; rw [ho, if_neg hsp]; rfl
      rw [hE]
      rw [h8] at HSP
      replace HSP := Lib.hid HSP
      clear h hm h8 hE hsp
      go_enter Try.func17, Try.ntmps17
      go_wp2_with (go_at_call 28; with_reducible (refine Calls.mono HSP.out ?_); rintro e w1 ⟨rfl, z1, hr1, ha1⟩)
      go_ret
      exact ⟨rfl, v, z1, by rw [HS.out]; exact hr1, ha1, .inl rfl⟩

set_option maxHeartbeats 3200000 in
set_option maxRecDepth 20000 in
theorem refCrash_any (h : RefD base W q lg lc v z s) (hm : s.pend.length ≤ 100000) (A : Option Addr) (c0 : Nat) (l : List Bool) (hB : Bools W W.heap.size A l) (hF : Off (RefF q lg v) A l.length) : Calls Try.prog 20 #[.pointer (some ⟨q, 0, none⟩), .slice A l.length c0] W fun e w' => e = .returned (.tuple #[]) ∧ RefT base W q lg lc v (crashS s l) w' := by
  obtain ⟨L, hL⟩ : ∃ L, L = l.length := ⟨_, rfl⟩
  have HL := Lib.hid hL
  have HB : Hid (∀ W', Away (RefF q lg v) W W' → ∀ i, i < l.length → ∃ b o, A = some ⟨b, o, none⟩ ∧ W'.cell? ⟨b, o + i, none⟩ = some (.bool (l.getD i false))) := fun W' ha i hi => by
    obtain ⟨b, o, e, hlt, hc⟩ := hB i hi
    exact ⟨b, o, e, (ha.cell (o := o + i) hlt (hF (by omega) b o e)).trans hc⟩
  have HST : Hid (RefD base W q lg lc v z ⟨putP (keptP s.pend l 0) s.last, s.pend, s.lim, s.off⟩ ∧ Away (RefF q lg v) W W) := ⟨h, Away.refl _ _⟩
  obtain ⟨M, hM⟩ : ∃ M, M = s.pend.length := ⟨_, rfl⟩
  have HM := Lib.hid hM
  have hMi : (M : Int) ≤ 100000 := by omega
  rw [← hL]
  clear hB hF hM hL hm
  go_enter Try.func20, Try.ntmps20
  go_wp2
  go_loopw [4] (fun i wx => ∃ k : Nat, k ≤ M ∧ i = .int .i64 k ∧ Hid (RefD base wx q lg lc v z ⟨putP (keptP s.pend l k) s.last, s.pend, s.lim, s.off⟩ ∧ Away (RefF q lg v) W wx)) (fun i _ => M - (intOf i).toNat)
  case atStart => exact ⟨0, Nat.zero_le _, rfl, HST.out⟩
  case round =>
    clear HST
    obtain ⟨k, hk, rfl, hR⟩ := hrel
    have k0 : (0 : Int) ≤ (k : Int) := by omega
    obtain ⟨d0, d1, d2, d3⟩ := hR.out.1.cells
    have f1 := hR.out.1.thaw 1
    have f2 := hR.out.1.thaw 2
    have f3 := hR.out.1.thaw 3
    by_cases hkM : k < M
    · have hkl : k < s.pend.length := by have := HM.out; omega
      rcases hR.out.1.form with ⟨_, hp⟩ | ⟨g, c, hv, hp⟩
      · have hp' : s.pend = [] := hp
        rw [hp'] at hkl; exact absurd hkl (Nat.not_lt_zero _)
      subst hv
      have k1 : (k : Int) < (M : Int) := by omega
      obtain ⟨p1, p2⟩ := hp k hkl
      have hpk := hR.out.1.ok.pen k hkl
      have hst := hR.out.1.put hkl (l := putP (keptP s.pend l k) s.last) rfl
      have hsc := hR.out.1.sect (i := (s.pend.getD k (0, [])).1) hpk.1
      have hfz : wr.frozen? ⟨lg, (s.pend.getD k (0, [])).1, none⟩ = false := hR.out.1.last.frozenAt _
      have HT1 : Hid (l.getD k false = true → putP (keptP s.pend l (k + 1)) s.last = (putP (keptP s.pend l k) s.last).set (s.pend.getD k (0, [])).1 (s.pend.getD k (0, [])).2) := fun e => by
        rw [show keptP s.pend l (k + 1) = keptP s.pend l k ++ [s.pend.getD k (0, [])] from if_pos e, putP_app]
      have HT0 : Hid (l.getD k false = false → keptP s.pend l (k + 1) = keptP s.pend l k) := fun e => by
        show (if l.getD k false = true then keptP s.pend l k ++ [s.pend.getD k (0, [])] else keptP s.pend l k) = _
        rw [if_neg (by rw [e]; decide)]
      have e0 : (s.pend.getD k (0, [])).1 < (putP (keptP s.pend l k) s.last).length := hpk.1
      obtain ⟨pn, hpn⟩ : ∃ pn, pn = (s.pend.getD k (0, [])).1 := ⟨_, rfl⟩
      obtain ⟨pt, hpt⟩ : ∃ pt, pt = (s.pend.getD k (0, [])).2 := ⟨_, rfl⟩
      simp only [] at p1 p2 hst hsc
      rw [← hpn] at p1 hst hsc hfz HT1 e0
      rw [← hpt] at p2 hst HT1
      have hst2 : ∃ tx, txtV pt = .string tx := ⟨_, rfl⟩
      obtain ⟨tx, htx⟩ := hst2
      have hst3 : ∃ ty, txtV ((putP (keptP s.pend l k) s.last).getD pn []) = .string ty := ⟨_, rfl⟩
      obtain ⟨ty, hty⟩ := hst3
      rw [htx] at p2 hst
      rw [hty] at hsc
      obtain ⟨N, hN⟩ : ∃ N, N = (putP (keptP s.pend l k) s.last).length := ⟨_, rfl⟩
      simp only [← hN] at d0 e0
      have hML := HM.out
      simp only [← hML] at d1
      have e1 : (pn : Int) < (N : Int) := by omega
      have e2 : (0 : Int) ≤ (pn : Int) := by omega
      have RK : Hid (l.getD k false = true → RefD base (wr.drew.setCell ⟨lg, pn, none⟩ (.string tx)) q lg lc (.slice (some ⟨g, 0, none⟩) s.pend.length c) z ⟨putP (keptP s.pend l (k + 1)) s.last, s.pend, s.lim, s.off⟩ ∧ Away (RefF q lg (.slice (some ⟨g, 0, none⟩) s.pend.length c)) W (wr.drew.setCell ⟨lg, pn, none⟩ (.string tx))) := fun e => by
        refine ⟨?_, (away_drew1 hR.out.2).set (.inr (.inl rfl)) pn _⟩
        rw [HT1.out e]
        exact ⟨hst.cell, hst.last, hst.pend, hst.lim, hst.d1, hst.d2, hst.d3, hst.bq, hst.zi, hst.ok⟩
      have RN : Hid (l.getD k false = false → RefD base wr q lg lc (.slice (some ⟨g, 0, none⟩) s.pend.length c) z ⟨putP (keptP s.pend l (k + 1)) s.last, s.pend, s.lim, s.off⟩ ∧ Away (RefF q lg (.slice (some ⟨g, 0, none⟩) s.pend.length c)) W wr) := fun e => by
        rw [HT0.out e]; exact hR.out
      have hfl : Hid (¬ k < L → l.getD k false = false) := fun e => by
        rw [List.getD_eq_getElem?_getD, List.getElem?_eq_none (by have := HL.out; omega)]; rfl
      by_cases hkL : k < L
      · obtain ⟨b9, o9, rfl, hc9⟩ := HB.out wr hR.out.2 k (by have := HL.out; omega)
        have k2 : (k : Int) < (L : Int) := by omega
        cases hbk : l.getD k false with
        | true =>
          have R := Lib.hid (RK.out hbk)
          rw [hbk] at hc9
          clear hR hp hpk hst HT1 HT0 hN htx hty hpn hpt d2 d3 f1 f2 f3 hML hkl RK RN hfl hbk h HB
          go_wp2_with fail
          go_region
          go_wp2
          go_roundw
          case rel => first | exact ⟨k + 1, by omega, by go_num, R.out⟩ | ((repeat apply Exists.intro); exact ⟨⟨k + 1, by omega, by go_num, R.out⟩, rfl⟩)
          case measure => simp [intOf]; omega
        | false =>
          have R := Lib.hid (RN.out hbk)
          rw [hbk] at hc9
          clear hR hp hpk hst HT1 HT0 hN htx hty hpn hpt d2 d3 f1 f2 f3 hML hkl RK RN hfl hbk h HB
          go_wp2
          go_roundw
          case rel => first | exact ⟨k + 1, by omega, by go_num, R.out⟩ | ((repeat apply Exists.intro); exact ⟨⟨k + 1, by omega, by go_num, R.out⟩, rfl⟩)
          case measure => simp [intOf]; omega
      · have k2 : ¬ (k : Int) < (L : Int) := by omega
        have R := Lib.hid (RN.out (hfl.out hkL))
        clear hR hp hpk hst HT1 HT0 hN htx hty hpn hpt d2 d3 f1 f2 f3 hML hkl RK RN hfl h HB
        go_wp2
        go_roundw
        case rel => first | exact ⟨k + 1, by omega, by go_num, R.out⟩ | ((repeat apply Exists.intro); exact ⟨⟨k + 1, by omega, by go_num, R.out⟩, rfl⟩)
        case measure => simp [intOf]; omega
    · have k1 : ¬ (k : Int) < (M : Int) := by omega
      have hk9 : k = s.pend.length := by have := HM.out; omega
      have hfm := hR.out.1.form
      have R : Hid (RefT base W q lg lc v (crashS s l) (((wr.setCell ⟨q, 1, none⟩ (.slice none 0 0)).setCell ⟨q, 3, none⟩ (.bool false)).setCell ⟨q, 2, none⟩ (.int .i64 (-1)))) := by
        refine ⟨.slice none 0 0, -1, ?_, ((hR.out.2.set (.inl rfl) 1 _).set (.inl rfl) 3 _).set (.inl rfl) 2 _, .inr (.inl rfl)⟩
        have h5 := ((hR.out.1.setNil).setOff false).setZ (z' := -1) (by unfold I64c; omega)
        rw [hk9] at h5
        exact h5
      have hML := HM.out
      rcases hfm with ⟨rfl, hp⟩ | ⟨g, c, rfl, hp⟩
      · have hM0 : M = 0 := by rw [hML]; have hp' : s.pend = [] := hp; rw [hp']; rfl
        subst hM0
        clear hR HB hk9 hML hp h
        go_wp2
        refine bodyPost_end (results_none rfl _ _ _) rfl ⟨rfl, R.out⟩
      · simp only [← hML] at d1
        clear hR HB hk9 hML hp h
        go_wp2
        refine bodyPost_end (results_none rfl _ _ _) rfl ⟨rfl, R.out⟩
end

end Go.Proofs.Ytnbgnllkikajpaa
