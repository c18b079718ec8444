/-
  ClockPlays: any calls, one behind the other, of a ring of any size. Written by wip/gen/clock_plays.py.
-/
import Derived.Test.YtdfalnjdjkoofaaClockTwo
import Derived.Deep.RegionWith
import Derived.Deep.CutRange
import Derived.Deep.CutBlock
import Derived.Deep.RegionHeld3
namespace Go.Proofs.Ytdfalnjdjkoofaa
open Go.RowKit

def Acts (w : World) (A : Option Addr) (acs : List Act13) : Prop :=
  ∀ i, (hi : i < acs.length) → ∃ b off, A = some ⟨b, off, none⟩ ∧ b < w.heap.size ∧ w.cell? ⟨b, off + i * 3, none⟩ = some (.int .i64 acs[i].what) ∧ w.cell? ⟨b, off + i * 3 + 1, none⟩ = some (.int .i64 acs[i].thing) ∧
    w.cell? ⟨b, off + i * 3 + 2, none⟩ = some (.slice acs[i].A acs[i].l.length acs[i].c) ∧ acs[i].ok w
/-- Between two calls. -/
def TwoS (Rep : World → Nat → (Nat → Prop) → Ck → Prop) (w : World) (p rb q tg tc mg mc N : Nat) (s : Ck) (W : World) : Prop :=
  Below w.heap.size w W ∧ RefR rb W q tg tc mg mc N s ∧ (∃ F, Rep W p F s ∧ (∀ b, F b → w.heap.size ≤ b) ∧ ¬ F q ∧ ¬ F tg ∧ ¬ F mg) ∧ w.heap.size ≤ q ∧ w.heap.size ≤ tg ∧ w.heap.size ≤ mg
section
variable {w : World} {Rep : World → Nat → (Nat → Prop) → Ck → Prop} {p rb q tg tc mg mc N : Nat} {s : Ck} {W : World}
theorem TwoS.act (HS : ClockSpec w Rep) (h : TwoS Rep w p rb q tg tc mg mc N s W) (a : Act13) : TwoR Rep w p rb q tg tc mg mc N W.heap.size a s s (W.alloc (.cells #[.int .i64 a.what, .int .i64 a.thing, .slice a.A a.l.length a.c] 32)) := by
  obtain ⟨h1, h2, ⟨F, h3, h4, n1, n2, n3⟩, h5, h6, h7⟩ := h
  have hb : Below W.heap.size W (W.alloc (.cells #[.int .i64 a.what, .int .i64 a.thing, .slice a.A a.l.length a.c] 32)) := (Below.refl _ _).alloc (Nat.le_refl _) _
  have lq := (Array.getElem?_eq_some_iff.1 h2.cell).1
  have lt := (h2.tow.lt tg rfl).2
  have lm := (h2.mow.lt mg rfl).2
  exact ⟨chain h1 hb, h2.away (Away.of_below (F := F) hb) n1 n2 n3, ⟨F, HS.later h3 hb, h4, n1, n2, n3, fun e => by have := HS.lt W p F s h3 _ e; omega⟩, ⟨h5, h6, h7⟩, heap_alloc_new W _, ⟨by omega, by omega, by omega⟩⟩
theorem TwoR.none {g : Nat} {a : Act13} (h : TwoR Rep w p rb q tg tc mg mc N g a s s W) : TwoS Rep w p rb q tg tc mg mc N s W := by
  obtain ⟨F, h1, h2, n1, n2, n3, _⟩ := h.rep
  exact ⟨h.bel, h.ref, ⟨F, h1, h2, n1, n2, n3⟩, h.hi⟩

set_option maxHeartbeats 3200000 in
set_option maxRecDepth 20000 in
/-- ClockPlays. -/
theorem clockPlays_go (pl : Int) (A1 : Option Addr) (c1 : Nat) (acs : List Act13) (w : World) (HS : ClockSpec w Rep) (hpl : I64c pl) (hacts : Acts w A1 acs) :
    Calls Try.prog 3 #[.int .i64 pl, .slice A1 acs.length c1] w fun e w' => e = .returned (.bool true) ∧ Below w.heap.size w w' := by
  have HA := Lib.hid (fun (W : World) (hb : Below w.heap.size w W) => clockAwake HS W hb)
  by_cases hbad : pl < 1 ∨ 4096 < pl
  · have HN := Lib.hid (HS.no pl w (Below.refl _ _) hpl hbad)
    rcases hbad with hb | hb
    · have d1 : decide (pl < 1) = true := decide_eq_true hb
      clear HS hpl hacts
      go_enter Try.func3, Try.ntmps3
      go_wp2_with (first
        | (go_at_call 8; with_reducible (refine Calls.mono HN.out ?_); rintro e w1 ⟨rfl, hb1⟩)
        | (go_at_call 9; with_reducible (refine Calls.mono (HA.out _ hb1) ?_); rintro e w2 ⟨rfl, hb2⟩; have hx2 := chain hb1 hb2))
      go_ret
      exact ⟨rfl, hx2⟩
    · have hb' : ¬ pl < 1 := by omega
      have d1 : decide (pl < 1) = false := decide_eq_false hb'
      have d2 : decide (4096 < pl) = true := decide_eq_true hb
      clear HS hpl hacts
      go_enter Try.func3, Try.ntmps3
      go_wp2_with (first
        | (go_at_call 8; with_reducible (refine Calls.mono HN.out ?_); rintro e w1 ⟨rfl, hb1⟩)
        | (go_at_call 9; with_reducible (refine Calls.mono (HA.out _ hb1) ?_); rintro e w2 ⟨rfl, hb2⟩; have hx2 := chain hb1 hb2))
      go_ret
      exact ⟨rfl, hx2⟩
  · obtain ⟨N, hN⟩ : ∃ N : Nat, pl = (N : Int) := ⟨pl.toNat, by omega⟩
    subst hN
    have hN1 : 1 ≤ N := by omega
    have hN2 : N ≤ 4096 := by omega
    have H1 := Lib.hid (own_new (Rep := Rep) HS (W := w) (n := N) (Below.refl _ _) hN1 hN2)
    have HLT : Hid (∀ W W' p s, OwnK Rep w W p s → Below W.heap.size W W' → OwnK Rep w W' p s) := fun W W' p s h hb => h.later HS hb
    have HOB : Hid (∀ W p s, OwnK Rep w W p s → Below w.heap.size w W) := fun W p s h => h.choose_spec.2.2
    have i1 : ¬ (N : Int) < 1 := by omega
    have i2 : ¬ (4096 : Int) < (N : Int) := by omega
    have e1 : decide ((N : Int) < 1) = false := decide_eq_false i1
    have e2 : decide ((4096 : Int) < (N : Int)) = false := decide_eq_false i2
    by_cases h200 : 200 < N
    · have i3 : (200 : Int) < (N : Int) := by omega
      have e3 : decide ((200 : Int) < (N : Int)) = true := decide_eq_true i3
      clear HS hpl hacts hbad
      go_enter Try.func3, Try.ntmps3
      go_wp2_with (first
        | (go_at_call 8; with_reducible (refine Calls.mono H1.out ?_); rintro e w1 ⟨p, rfl, ho1⟩)
        | (go_at_call 9; with_reducible (refine Calls.mono (HA.out _ hb2) ?_); rintro e w3 ⟨rfl, hb3⟩; have hb3' := chain hb2 hb3)
        | (go_at_call 9; with_reducible (refine Calls.mono (HA.out _ (HOB.out _ _ _ ho1)) ?_); rintro e w2 ⟨rfl, hb2'⟩; have hb2 := chain (HOB.out _ _ _ ho1) hb2'))
      go_ret
      exact ⟨rfl, hb3'⟩
    · have i3 : ¬ (200 : Int) < (N : Int) := by omega
      have e3 : decide ((200 : Int) < (N : Int)) = false := decide_eq_false i3
      have HREF : Hid (∀ W p, OwnK Rep w W p (newC N) → Calls Try.prog 10 #[.int .i64 (N : Int)] W fun e w' => e = .returned (.pointer (some ⟨W.heap.size, 0, none⟩)) ∧ ∃ tg tc mg mc, TwoS Rep w p W.heap.size W.heap.size tg tc mg mc N (newC N) w') := fun W p h => by
        obtain ⟨F, hr, hF, hb⟩ := h
        refine (refNewK_any N W hN1 (by omega)).mono fun e w' ⟨q1, ⟨tg, tc, mg, mc, q2, q3, q4⟩, q5⟩ => ⟨q1, tg, tc, mg, mc, chain hb q5, q2, ⟨F, HS.later hr q5, hF, fun e => ?_, fun e => ?_, fun e => ?_⟩, hb.size, ?_, ?_⟩
        · have := HS.lt W p F _ hr _ e; omega
        · have := HS.lt W p F _ hr _ e; omega
        · have := HS.lt W p F _ hr _ e; omega
        · have := hb.size; omega
        · have := hb.size; omega
      have HACT : Hid (∀ (p rb q tg tc mg mc N : Nat) (s : Ck) (W : World) (a : Act13), TwoS Rep w p rb q tg tc mg mc N s W → TwoR Rep w p rb q tg tc mg mc N W.heap.size a s s (W.alloc (.cells #[.int .i64 a.what, .int .i64 a.thing, .slice a.A a.l.length a.c] 32))) := fun p rb q tg tc mg mc N s W a h => h.act HS a
      have HAS : Hid (∀ W, Below w.heap.size w W → ∀ i, (hi : i < acs.length) → ∃ b off, A1 = some ⟨b, off, none⟩ ∧ W.cell? ⟨b, off + i * 3, none⟩ = some (.int .i64 acs[i].what) ∧ W.cell? ⟨b, off + i * 3 + 1, none⟩ = some (.int .i64 acs[i].thing) ∧
          W.cell? ⟨b, off + i * 3 + 2, none⟩ = some (.slice acs[i].A acs[i].l.length acs[i].c) ∧ acs[i].ok w) := fun W hb i hi => by
        obtain ⟨b, off, e, hbl, q1, q2, q3, q4⟩ := hacts i hi
        exact ⟨b, off, e, (hb.cell (p := ⟨b, off + i * 3, none⟩) hbl).trans q1, (hb.cell (p := ⟨b, off + i * 3 + 1, none⟩) hbl).trans q2, (hb.cell (p := ⟨b, off + i * 3 + 2, none⟩) hbl).trans q3, q4⟩
      have HSS := Lib.hid HS
      obtain ⟨L, hL⟩ : ∃ L, L = acs.length := ⟨_, rfl⟩
      have HL := Lib.hid hL
      rw [← hL]
      clear HS hpl hacts hbad hL
      go_enter Try.func3, Try.ntmps3
      go_wp2_with (first
        | (go_at_call 8; with_reducible (refine Calls.mono H1.out ?_); rintro e w1 ⟨p, rfl, ho1⟩)
        | (go_at_call 9; with_reducible (refine Calls.mono (HA.out _ (HOB.out _ _ _ ho1)) ?_); rintro e w2 ⟨rfl, hb2'⟩; have ho2 := Lib.hid (HLT.out _ _ _ _ ho1 hb2'))
        | (go_at_call 10; with_reducible (refine Calls.mono (HREF.out _ _ ho2.out) ?_); rintro e w3 ⟨rfl, tg, tc, mg, mc, hr3⟩; have HR3 := Lib.hid hr3; clear hr3))
      clear ho1 ho2 hb2' HREF HLT HOB H1
      obtain ⟨q, hq⟩ : ∃ q, q = w2.heap.size := ⟨_, rfl⟩
      rw [← hq] at HR3 ⊢
      clear hq
      go_loopw [8] (fun i wx => ∃ j : Nat, j ≤ L ∧ j ≤ 200 ∧ i = .int .i64 j ∧ Hid (∃ s, TwoS Rep w p q q tg tc mg mc N s wx)) (fun i _ => 200 - (intOf i).toNat)
      case atStart => exact ⟨0, Nat.zero_le _, Nat.zero_le _, rfl, _, HR3.out⟩
      case round =>
        clear HR3
        obtain ⟨j, hjL, hj2, rfl, hR⟩ := hrel
        obtain ⟨wo, hwo⟩ : ∃ x, x = wr := ⟨_, rfl⟩
        subst hwo
        obtain ⟨s, hs⟩ := hR.out
        have HT := Lib.hid hs
        clear hR hs
        have j0 : (0 : Int) ≤ (j : Int) := by omega
        by_cases hj : j < L
        · have j1 : (j : Int) < (L : Int) := by omega
          by_cases hjj : j < 200
          · have j2 : (j : Int) < 200 := by omega
            obtain ⟨b, off, rfl, a0, a1, a2, hok⟩ := HAS.out wo HT.out.1 j (by have := HL.out; omega)
            obtain ⟨a, ha⟩ : ∃ a, a = acs[j]'(by have := HL.out; omega) := ⟨_, rfl⟩
            rw [← ha] at a0 a1 a2 hok
            have HOK := Lib.hid hok
            have hta := HACT.out _ _ _ _ _ _ _ _ _ _ a HT.out
            obtain ⟨wh, hwh⟩ : ∃ x, x = a.what := ⟨_, rfl⟩
            obtain ⟨th, hth⟩ : ∃ x, x = a.thing := ⟨_, rfl⟩
            obtain ⟨mA, hmA⟩ : ∃ x, x = a.A := ⟨_, rfl⟩
            obtain ⟨ml, hml⟩ : ∃ x, x = a.l.length := ⟨_, rfl⟩
            obtain ⟨mC, hmC⟩ : ∃ x, x = a.c := ⟨_, rfl⟩
            rw [← hwh] at a0
            rw [← hth] at a1
            rw [← hmA, ← hml, ← hmC] at a2
            rw [← hwh, ← hth, ← hmA, ← hml, ← hmC] at hta
            have HTA := Lib.hid hta
            have HTH := Lib.hid hth
            have HMA := Lib.hid hmA
            have HML := Lib.hid hml
            have HMC := Lib.hid hmC
            have HCE : Hid (∀ (g : Nat) (s s' : Ck) (W : World), TwoR Rep w p q q tg tc mg mc N g a s s' W → W.cell? ⟨g, 1, none⟩ = some (.int .i64 th) ∧ W.cell? ⟨g, 2, none⟩ = some (.slice mA ml mC)) := fun g s s' W h => by
              rw [hth, hmA, hml, hmC]; exact h.cells.2
            have HP1 : Hid (∀ (g : Nat) (s s' : Ck) (W : World), TwoR Rep w p q q tg tc mg mc N g a s s' W → Calls Try.prog 11 #[.pointer (some ⟨p, 0, none⟩), .int .i64 th] W fun e w' => e = .returned (.tuple #[.int .i64 (putA s th), .int .i64 (putE s th)]) ∧ TwoR Rep w p q q tg tc mg mc N g a (putS s th) s' w') := fun g s s' W h => by rw [hth]; exact two_put HSS.out h HOK.out
            have HP2 : Hid (∀ (g : Nat) (s s' : Ck) (W : World), TwoR Rep w p q q tg tc mg mc N g a s s' W → Calls Try.prog 12 #[.pointer (some ⟨q, 0, none⟩), .int .i64 th] W fun e w' => e = .returned (.tuple #[.int .i64 (putA s' th), .int .i64 (putE s' th)]) ∧ TwoR Rep w p q q tg tc mg mc N g a s (putS s' th) w') := fun g s s' W h => by rw [hth]; exact two_rput HSS.out h
            have HT1 : Hid (∀ (g : Nat) (s s' : Ck) (W : World), TwoR Rep w p q q tg tc mg mc N g a s s' W → Calls Try.prog 13 #[.pointer (some ⟨p, 0, none⟩), .int .i64 th] W fun e w' => e = .returned (.int .i64 (touchE s th)) ∧ TwoR Rep w p q q tg tc mg mc N g a (touchS s th) s' w') := fun g s s' W h => by rw [hth]; exact two_touch HSS.out h HOK.out
            have HT2 : Hid (∀ (g : Nat) (s s' : Ck) (W : World), TwoR Rep w p q q tg tc mg mc N g a s s' W → Calls Try.prog 14 #[.pointer (some ⟨q, 0, none⟩), .int .i64 th] W fun e w' => e = .returned (.int .i64 (touchE s' th)) ∧ TwoR Rep w p q q tg tc mg mc N g a s (touchS s' th) w') := fun g s s' W h => by rw [hth]; exact two_rtouch HSS.out h
            have HD1 : Hid (∀ (g : Nat) (s s' : Ck) (W : World), TwoR Rep w p q q tg tc mg mc N g a s s' W → Calls Try.prog 15 #[.pointer (some ⟨p, 0, none⟩), .int .i64 th] W fun e w' => e = .returned (.int .i64 (touchE s th)) ∧ TwoR Rep w p q q tg tc mg mc N g a (dropS s th) s' w') := fun g s s' W h => by rw [hth]; exact two_drop HSS.out h HOK.out
            have HD2 : Hid (∀ (g : Nat) (s s' : Ck) (W : World), TwoR Rep w p q q tg tc mg mc N g a s s' W → Calls Try.prog 16 #[.pointer (some ⟨q, 0, none⟩), .int .i64 th] W fun e w' => e = .returned (.int .i64 (touchE s' th)) ∧ TwoR Rep w p q q tg tc mg mc N g a s (dropS s' th) w') := fun g s s' W h => by rw [hth]; exact two_rdrop HSS.out h
            have HL1 : Hid (∀ (g : Nat) (s s' : Ck) (W : World), TwoR Rep w p q q tg tc mg mc N g a s s' W → Calls Try.prog 17 #[.pointer (some ⟨p, 0, none⟩), .slice mA ml mC] W fun e w' => e = .returned (.tuple #[.int .i64 (leaveN s a.l), .int .i64 (leaveE s a.l)]) ∧ TwoR Rep w p q q tg tc mg mc N g a (leaveS s a.l) s' w') := fun g s s' W h => by rw [hmA, hml, hmC]; exact two_leave HSS.out h HOK.out
            have HL2 : Hid (∀ (g : Nat) (s s' : Ck) (W : World), TwoR Rep w p q q tg tc mg mc N g a s s' W → Calls Try.prog 18 #[.pointer (some ⟨q, 0, none⟩), .slice mA ml mC] W fun e w' => e = .returned (.bool (anyK s' a.l)) ∧ w' = W) := fun g s s' W h => by rw [hmA, hml, hmC]; exact two_rany h HOK.out
            have HL3 : Hid (∀ (g : Nat) (s s' : Ck) (W : World), TwoR Rep w p q q tg tc mg mc N g a s s' W → anyK s' a.l = true → Calls Try.prog 19 #[.pointer (some ⟨q, 0, none⟩), .slice mA ml mC] W fun e w' => e = .returned (.tuple #[.int .i64 (leaveN s' a.l), .int .i64 0]) ∧ TwoR Rep w p q q tg tc mg mc N g a s (leaveS s' a.l) w') := fun g s s' W h hany => by rw [hmA, hml, hmC]; exact two_rleave HSS.out h HOK.out hany
            clear ha hok hwh hth hmA hml hmC hta
            go_upto_block 2 with fail
            obtain ⟨g, hg⟩ : ∃ g, g = wo.heap.size := ⟨_, rfl⟩
            obtain ⟨wa, hwa⟩ : ∃ x, x = wo.alloc (.cells #[.int .i64 wh, .int .i64 th, .slice mA ml mC] 32) := ⟨_, rfl⟩
            rw [← hwa, ← hg]
            rw [← hwa, ← hg] at HTA
            clear a0 a1 a2 hwa hg
            go_cut [10, 11, 12, 13] from 55 to 142 (fun vn vm vf vg wx => ∃ x y : Int, vn = .int .i64 x ∧ vm = .int .i64 x ∧ vf = .int .i64 y ∧ vg = .int .i64 y ∧ Hid (∃ s, TwoR Rep w p q q tg tc mg mc N g a s s wx))
            case first =>
              by_cases h0 : wh = 0
              · subst h0
                have k1 := (HCE.out _ _ _ _ HTA.out).1
                go_wp2_with (first
                  | (go_at_call 11; with_reducible (refine Calls.mono (HP1.out _ _ _ _ HTA.out) ?_); rintro e w4 ⟨rfl, ht4⟩; have HT4 := Lib.hid ht4; have k2 := (HCE.out _ _ _ _ ht4).1; clear ht4)
                  | (go_at_call 12; with_reducible (refine Calls.mono (HP2.out _ _ _ _ HT4.out) ?_); rintro e w5 ⟨rfl, ht5⟩; have HT5 := Lib.hid ht5; clear ht5))
                go_meet
                exact ⟨_, _, rfl, rfl, rfl, rfl, _, HT5.out⟩
              · have b0 : (wh == 0) = false := beq_eq_false_iff_ne.2 h0
                by_cases h1 : wh = 1
                · subst h1
                  clear b0 h0
                  have k1 := (HCE.out _ _ _ _ HTA.out).1
                  go_wp2_with (first
                    | (go_at_call 13; with_reducible (refine Calls.mono (HT1.out _ _ _ _ HTA.out) ?_); rintro e w4 ⟨rfl, ht4⟩; have HT4 := Lib.hid ht4; have k2 := (HCE.out _ _ _ _ ht4).1; clear ht4)
                    | (go_at_call 14; with_reducible (refine Calls.mono (HT2.out _ _ _ _ HT4.out) ?_); rintro e w5 ⟨rfl, ht5⟩; have HT5 := Lib.hid ht5; clear ht5))
                  go_meet
                  exact ⟨_, _, rfl, rfl, rfl, rfl, _, HT5.out⟩
                · have b1 : (wh == 1) = false := beq_eq_false_iff_ne.2 h1
                  by_cases h2 : wh = 2
                  · subst h2
                    clear b0 h0 b1 h1
                    have k1 := (HCE.out _ _ _ _ HTA.out).1
                    go_wp2_with (first
                      | (go_at_call 15; with_reducible (refine Calls.mono (HD1.out _ _ _ _ HTA.out) ?_); rintro e w4 ⟨rfl, ht4⟩; have HT4 := Lib.hid ht4; have k2 := (HCE.out _ _ _ _ ht4).1; clear ht4)
                      | (go_at_call 16; with_reducible (refine Calls.mono (HD2.out _ _ _ _ HT4.out) ?_); rintro e w5 ⟨rfl, ht5⟩; have HT5 := Lib.hid ht5; clear ht5))
                    go_meet
                    exact ⟨_, _, rfl, rfl, rfl, rfl, _, HT5.out⟩
                  · have b2 : (wh == 2) = false := beq_eq_false_iff_ne.2 h2
                    have k1 := (HCE.out _ _ _ _ HTA.out).2
                    have hokN := HTA.out.ref.ok
                    cases hany : anyK s a.l with
                    | true =>
                      have hle := leave_yes hokN hany
                      have HLL := Lib.hid (HL1.out _ _ _ _ HTA.out)
                      have HAY := Lib.hid (fun g s2 W h => HL2.out g s2 s W h)
                      have HLY := Lib.hid (fun g s2 W h => HL3.out g s2 s W h hany)
                      rw [hle] at HLL
                      rw [hany] at HAY
                      clear hle hany hokN
                      go_wp2_with (first
                        | (go_at_call 17; with_reducible (refine Calls.mono HLL.out ?_); rintro e w4 ⟨rfl, ht4⟩; have HT4 := Lib.hid ht4; have k2 := (HCE.out _ _ _ _ ht4).2; clear ht4)
                        | (go_at_call 18; with_reducible (refine Calls.mono (HAY.out _ _ _ HT4.out) ?_); rintro e w5 ⟨rfl, hw5⟩; subst hw5)
                        | (go_at_call 19; with_reducible (refine Calls.mono (HLY.out _ _ _ HT4.out) ?_); rintro e w6 ⟨rfl, ht6⟩; have HT6 := Lib.hid ht6; clear ht6))
                      go_meet
                      exact ⟨_, _, rfl, rfl, rfl, rfl, _, HT6.out⟩
                    | false =>
                      obtain ⟨hle, hln, hls⟩ := leave_no hany
                      have HLL := Lib.hid (HL1.out _ _ _ _ HTA.out)
                      have HAY := Lib.hid (fun g s2 W h => HL2.out g s2 s W h)
                      rw [hle, hln, hls] at HLL
                      rw [hany] at HAY
                      clear hle hln hls hany hokN
                      go_wp2_with (first
                        | (go_at_call 17; with_reducible (refine Calls.mono HLL.out ?_); rintro e w4 ⟨rfl, ht4⟩; have HT4 := Lib.hid ht4; have k2 := (HCE.out _ _ _ _ ht4).2; clear ht4)
                        | (go_at_call 18; with_reducible (refine Calls.mono (HAY.out _ _ _ HT4.out) ?_); rintro e w5 ⟨rfl, hw5⟩; subst hw5))
                      go_meet
                      exact ⟨_, _, rfl, rfl, rfl, rfl, _, HT4.out⟩
            case rest =>
              obtain ⟨x, y, rfl, rfl, rfl, rfl, hS⟩ := hcut
              obtain ⟨s2, ht⟩ := hS.out
              have HT5 := Lib.hid ht
              clear hS ht HP1 HP2 HT1 HT2 HD1 HD2 HL1 HL2 HL3 HCE HTA HACT HAS
              have hlen := HT5.out.ref.ok.len
              have hle := HT5.out.ref.le
              have HTG : Hid (∀ W, TwoR Rep w p q q tg tc mg mc N g a s2 s2 W → Calls Try.prog 21 #[.pointer (some ⟨p, 0, none⟩)] W fun e w' => ∃ A c, e = .returned (.slice A N c) ∧ Ints w' w'.heap.size .i64 A s2.t ∧ TwoR Rep w p q q tg tc mg mc N g a s2 s2 w') := fun W h => by
                have h2 := two_things HSS.out h
                rw [hlen] at h2; exact h2
              have HSI : Hid (∀ (W : World) (A0 A1 : Option Addr) (c0 c1 : Nat), Ints W W.heap.size .i64 A0 s2.t → Ints W W.heap.size .i64 A1 s2.t → Calls Try.prog 20 #[.slice A0 N c0, .slice A1 N c1] W fun e w' => e = .returned (.bool true) ∧ ∃ m, w' = W.drewN m) := fun W A0 A1 c0 c1 h0 h1 => by
                have h2 := sameInts_any A0 A1 c0 c1 s2.t W h0 h1 (by omega)
                rw [hlen] at h2; exact h2
              have HDR : Hid (∀ W n, TwoR Rep w p q q tg tc mg mc N g a s2 s2 W → TwoS Rep w p q q tg tc mg mc N s2 (W.drewN n)) := fun W n h => (h.drew HSS.out n).none
              have ht0 := HT5.out.drew HSS.out
              have HT6 : Hid (TwoR Rep w p q q tg tc mg mc N g a s2 s2 wc.drew) := two_r HSS.out HT5.out HT5.out.ref.drew (away_drew1 (Away.refl _ _))
              have cq := (HT5.out.ref.cells).1
              have dx : (x != x) = false := by simp
              have dy : (y != y) = false := by simp
              clear hlen hle ht0 HSS
              go_wp2_with fail
              have cq6 : wc.drew.cell? ⟨q, 0, none⟩ = some (.slice (some ⟨tg, 0, none⟩) N tc) := cq
              have CQ6 := Lib.hid cq6
              clear cq6
              go_region_held3 (fun W => W.cell? ⟨q, 0, none⟩ = some (.slice (some ⟨tg, 0, none⟩) N tc))
                (first
                  | exact CQ6.out
                  | exact CQ8.out
                  | exact CQ7.out)
                (first
                  | (go_at_call 21; with_reducible (refine Calls.mono (HTG.out _ HT6.out) ?_); rintro e w7 ⟨A7, c7, rfl, hi7, ht7⟩; have CQ7 := Lib.hid (ht7.ref.cells).1; have hr7 := ht7.ref.ints; have HT7 := Lib.hid ht7; clear ht7)
                  | (go_at_call 20; refine Calls.mono (HSI.out w7 A7 (some ⟨tg, 0, none⟩) c7 tc hi7 hr7) ?_; rintro e w8 ⟨rfl, m8, hw8⟩; have ht8 := HDR.out _ m8 HT7.out; rw [← hw8] at ht8; have CQ8 := Lib.hid (ht8.2.1.cells).1; have HT8 := Lib.hid ht8; clear hw8 ht8))
              have HR9 : Hid (∃ s, TwoS Rep w p q q tg tc mg mc N s w8) := ⟨s2, HT8.out⟩
              clear CQ6 CQ7 CQ8 hi7 hr7 HT7 HT8 cq
              go_wp2
              go_roundw
              case rel => first | exact ⟨j + 1, by omega, by omega, by go_num, HR9.out⟩ | ((repeat apply Exists.intro); exact ⟨⟨j + 1, by omega, by omega, by go_num, HR9.out⟩, rfl⟩)
              case measure => simp [intOf]; omega
          · have j2 : ¬ (j : Int) < 200 := by omega
            have HB9 := Lib.hid HT.out.1
            go_wp2
            go_ret
            exact ⟨rfl, HB9.out⟩
        · have j1 : ¬ (j : Int) < (L : Int) := by omega
          have HB9 := Lib.hid HT.out.1
          go_wp2
          go_ret
          exact ⟨rfl, HB9.out⟩
end

end Go.Proofs.Ytdfalnjdjkoofaa
