/-
  DiskPlays: any calls, one behind the other, of a disk of any size.
-/
import Derived.Test.YtnbgnllkikajpaaDiskTwo
import Derived.Deep.RegionWith
import Derived.Deep.CutRange
import Derived.Deep.CutBlock
import Derived.Deep.RegionHeld3
namespace Go.Proofs.Ytnbgnllkikajpaa
open Go.RowKit

def Acts14 (w : World) (A : Option Addr) (acs : List Act14) : Prop :=
  ∀ i, (hi : i < acs.length) → ∃ b off, A = some ⟨b, off, none⟩ ∧ b < w.heap.size ∧ w.cell? ⟨b, off + i * 4, none⟩ = some (.int .i64 acs[i].what) ∧ w.cell? ⟨b, off + i * 4 + 1, none⟩ = some (.int .i64 acs[i].n) ∧
    w.cell? ⟨b, off + i * 4 + 2, none⟩ = some (.slice acs[i].A acs[i].t.length acs[i].c) ∧ w.cell? ⟨b, off + i * 4 + 3, none⟩ = some (.slice acs[i].B acs[i].l.length acs[i].k) ∧ acs[i].ok w
/-- Between two calls. -/
structure TwoP (Rep : World → Nat → (Nat → Prop) → Dk → Prop) (w : World) (p q lg lc m : Nat) (s : Dk) (W : World) : Prop where
  bel : Below w.heap.size w W
  two : ∃ v z F, RefD w.heap.size W q lg lc v z s ∧ Rep W p F s ∧ (∀ b, F b → w.heap.size ≤ b) ∧ ¬ F q ∧ ¬ F lg ∧ Free F v
  pen : s.pend.length ≤ m
section
variable {w : World} {Rep : World → Nat → (Nat → Prop) → Dk → Prop} {p q lg lc m g : Nat} {a : Act14} {s s' : Dk} {W : World}
theorem TwoP.act (HS : DiskSpec w Rep) (h : TwoP Rep w p q lg lc m s W) (a : Act14) : TwoD Rep w p q lg lc m W.heap.size a s s (W.alloc (.cells (actC a) 33)) := by
  obtain ⟨v, z, F, hr, h1, h2, n1, n2, n3⟩ := h.two
  have hb : Below W.heap.size W (W.alloc (.cells (actC a) 33)) := (Below.refl _ _).alloc (Nat.le_refl _) _
  have lq := (Array.getElem?_eq_some_iff.1 hr.cell).1
  have ll := (hr.last.lt lg rfl).2
  exact ⟨chain h.bel hb, ⟨v, z, F, hr.grown hb, HS.later h1 hb, h2, n1, n2, n3, fun e => by have := HS.lt W p F s h1 _ e; omega, fun e => by have := (hr.pend.lt _ e).2; omega⟩, heap_alloc_new W _, ⟨by omega, by omega⟩, ⟨h.pen, h.pen⟩⟩
theorem TwoD.none (h : TwoD Rep w p q lg lc m g a s s W) : TwoP Rep w p q lg lc m s W := by
  obtain ⟨v, z, F, hr, h1, h2, n1, n2, n3, _⟩ := h.two
  exact ⟨h.bel, ⟨v, z, F, hr, h1, h2, n1, n2, n3⟩, h.pen.1⟩
theorem TwoD.more (h : TwoD Rep w p q lg lc m g a s s' W) {m2 : Nat} (hm : m ≤ m2) : TwoD Rep w p q lg lc m2 g a s s' W := ⟨h.bel, h.two, h.act, h.ne, ⟨Nat.le_trans h.pen.1 hm, Nat.le_trans h.pen.2 hm⟩⟩
theorem TwoD.fit (h : TwoD Rep w p q lg lc m g a s s W) {m2 : Nat} (hp : s.pend.length ≤ m2) : TwoD Rep w p q lg lc m2 g a s s W := ⟨h.bel, h.two, h.act, h.ne, ⟨hp, hp⟩⟩
theorem some_text (c : Prop) [Decidable c] (t : List Nat) : ∃ tx : ByteArray, (if c then txtV t else .string ⟨#[]⟩) = .string tx := by
  split
  · exact ⟨_, rfl⟩
  · exact ⟨_, rfl⟩
/-- The limit's field is set. -/
theorem two_rlimit (HS : DiskSpec w Rep) (h : TwoD Rep w p q lg lc m g a s s' W) (ok : a.ok w) : TwoD Rep w p q lg lc m g a s (limitS s' a.n) (W.setCell ⟨q, 2, none⟩ (.int .i64 a.n)) ∧ (∃ z, W.cell? ⟨q, 2, none⟩ = some (.int .i64 z)) ∧ W.frozen? ⟨q, 2, none⟩ = false := by
  obtain ⟨v, z, F, hr, _⟩ := h.two
  exact ⟨two_ref HS h hr (s2 := limitS s' a.n) ⟨v, a.n, hr.setZ ok.n64, (Away.refl _ _).set (.inl rfl) 2 _, .inl rfl⟩ (Nat.le_refl _) h.pen.2, ⟨z, hr.cells.2.2.1⟩, hr.thaw 2⟩
/-- What the law reads of the document's disk itself. -/
theorem two_fields (h : TwoD Rep w p q lg lc m g a s s' W) : W.cell? ⟨q, 0, none⟩ = some (.slice (some ⟨lg, 0, none⟩) s'.last.length lc) ∧ (∃ A c, W.cell? ⟨q, 1, none⟩ = some (.slice A s'.pend.length c)) ∧ ∀ i, i < s'.last.length → W.cell? ⟨lg, i, none⟩ = some (txtV (s'.last.getD i [])) := by
  obtain ⟨v, z, F, hr, _⟩ := h.two
  refine ⟨hr.cells.1, ?_, fun i hi => hr.sect hi⟩
  rcases hr.form with ⟨hv, hp⟩ | ⟨g, c, hv, _⟩
  · exact ⟨none, 0, by rw [hr.cells.2.1, hv, hp]; rfl⟩
  · exact ⟨_, c, by rw [hr.cells.2.1, hv]⟩

set_option maxHeartbeats 3200000 in
set_option maxRecDepth 20000 in
/-- DiskPlays. -/
theorem diskPlays_go (pl : Int) (A1 : Option Addr) (c1 : Nat) (acs : List Act14) (w : World) (HS : DiskSpec w Rep) (hpl : I64c pl) (hacts : Acts14 w A1 acs) :
    Calls Try.prog 3 #[.int .i64 pl, .slice A1 acs.length c1] w fun e w' => e = .returned (.bool true) ∧ Below w.heap.size w w' := by
  have HA := Lib.hid (fun (W : World) (hb : Below w.heap.size w W) => diskAwake HS W hb)
  by_cases hbad : pl < 1 ∨ 4096 < pl
  · have HN := Lib.hid (HS.no pl w (Below.refl _ _) hpl hbad)
    rcases hbad with hb | hb
    · clear HS hpl hacts
      go_enter Try.func3, Try.ntmps3
      go_wp2_with (first
        | (go_at_call 9; with_reducible (refine Calls.mono HN.out ?_); rintro e w1 ⟨rfl, hb1⟩)
        | (go_at_call 10; with_reducible (refine Calls.mono (HA.out _ hb1) ?_); rintro e w2 ⟨rfl, hb2⟩; have hx2 := chain hb1 hb2))
      go_ret
      exact ⟨rfl, hx2⟩
    · have hb' : ¬ pl < 1 := by omega
      clear HS hpl hacts
      go_enter Try.func3, Try.ntmps3
      go_wp2_with (first
        | (go_at_call 9; with_reducible (refine Calls.mono HN.out ?_); rintro e w1 ⟨rfl, hb1⟩)
        | (go_at_call 10; with_reducible (refine Calls.mono (HA.out _ hb1) ?_); rintro e w2 ⟨rfl, hb2⟩; have hx2 := chain hb1 hb2))
      go_ret
      exact ⟨rfl, hx2⟩
  · obtain ⟨N, hN⟩ : ∃ N : Nat, pl = (N : Int) := ⟨pl.toNat, by omega⟩
    subst hN
    have hN1 : 1 ≤ N := by omega
    have hN2 : N ≤ 4096 := by omega
    have H1 := Lib.hid (own_newD (Rep := Rep) HS (W := w) (n := N) (Below.refl _ _) hN1 hN2)
    have HLT : Hid (∀ W W' p s, OwnD Rep w W p s → Below W.heap.size W W' → OwnD Rep w W' p s) := fun W W' p s h hb => h.later HS hb
    have HOB : Hid (∀ W p s, OwnD Rep w W p s → Below w.heap.size w W) := fun W p s h => h.below
    have i1 : ¬ (N : Int) < 1 := by omega
    have i2 : ¬ (4096 : Int) < (N : Int) := by omega
    have HREF : Hid (∀ W p, OwnD Rep w W p (newD N) → Calls Try.prog 11 #[.int .i64 (N : Int)] W fun e w' => e = .returned (.pointer (some ⟨W.heap.size, 0, none⟩)) ∧ ∃ lg lc, TwoP Rep w p W.heap.size lg lc 0 (newD N) w') := fun W p h => by
      obtain ⟨F, hr, hF, hb⟩ := h
      refine (refNew_any N W hN1 hN2).mono fun e w' ⟨q1, lg, lc, q2, q5⟩ => ⟨q1, lg, lc, chain hb q5, ⟨_, _, F, q2.since hb.size, HS.later hr q5, hF, fun e => ?_, fun e => ?_, fun b hb => by cases hb⟩, Nat.zero_le _⟩
      · have := HS.lt W p F _ hr _ e; omega
      · have := HS.lt W p F _ hr _ e; have := (q2.last.lt lg rfl).1; omega
    have HACT : Hid (∀ (p q lg lc m : Nat) (s : Dk) (W : World) (a : Act14), TwoP Rep w p q lg lc m s W → TwoD Rep w p q lg lc m W.heap.size a s s (W.alloc (.cells (actC a) 33))) := fun p q lg lc m s W a h => h.act HS a
    have HAS : Hid (∀ W, Below w.heap.size w W → ∀ i, (hi : i < acs.length) → ∃ b off, A1 = some ⟨b, off, none⟩ ∧ W.cell? ⟨b, off + i * 4, none⟩ = some (.int .i64 acs[i].what) ∧ W.cell? ⟨b, off + i * 4 + 1, none⟩ = some (.int .i64 acs[i].n) ∧
        W.cell? ⟨b, off + i * 4 + 2, none⟩ = some (.slice acs[i].A acs[i].t.length acs[i].c) ∧ W.cell? ⟨b, off + i * 4 + 3, none⟩ = some (.slice acs[i].B acs[i].l.length acs[i].k) ∧ acs[i].ok w) := fun W hb i hi => by
      obtain ⟨b, off, e, hbl, q1, q2, q3, q4, q5⟩ := hacts i hi
      exact ⟨b, off, e, (hb.cell (p := ⟨b, off + i * 4, none⟩) hbl).trans q1, (hb.cell (p := ⟨b, off + i * 4 + 1, none⟩) hbl).trans q2, (hb.cell (p := ⟨b, off + i * 4 + 2, none⟩) hbl).trans q3, (hb.cell (p := ⟨b, off + i * 4 + 3, none⟩) hbl).trans q4, q5⟩
    have HSS := Lib.hid HS
    obtain ⟨L, hL⟩ : ∃ L, L = acs.length := ⟨_, rfl⟩
    have HL := Lib.hid hL
    rw [← hL]
    clear HS hpl hacts hbad hL
    go_enter Try.func3, Try.ntmps3
    go_wp2_with (first
      | (go_at_call 9; with_reducible (refine Calls.mono H1.out ?_); rintro e w1 ⟨p, rfl, ho1⟩)
      | (go_at_call 10; with_reducible (refine Calls.mono (HA.out _ (HOB.out _ _ _ ho1)) ?_); rintro e w2 ⟨rfl, hb2'⟩; have ho2 := Lib.hid (HLT.out _ _ _ _ ho1 hb2'))
      | (go_at_call 11; with_reducible (refine Calls.mono (HREF.out _ _ ho2.out) ?_); rintro e w3 ⟨rfl, lg, lc, hr3⟩; have HR3 := Lib.hid hr3; clear hr3))
    clear ho1 ho2 hb2' HREF HLT HOB H1 HA
    obtain ⟨q, hq⟩ : ∃ q, q = w2.heap.size := ⟨_, rfl⟩
    rw [← hq] at HR3 ⊢
    clear hq
    go_loopw [8] (fun i wx => ∃ j : Nat, j ≤ 200 ∧ i = .int .i64 j ∧ Hid (∃ s, TwoP Rep w p q lg lc j s wx ∧ s.last.length = N)) (fun i _ => 200 - (intOf i).toNat)
    case atStart => exact ⟨0, Nat.zero_le _, rfl, _, HR3.out, by simp [newD]⟩
    case round =>
      clear HR3
      obtain ⟨j, hj2, rfl, hR⟩ := hrel
      obtain ⟨wo, hwo⟩ : ∃ x, x = wr := ⟨_, rfl⟩
      subst hwo
      obtain ⟨s, hs, hsN⟩ := hR.out
      have HT := Lib.hid hs
      have HSN := Lib.hid hsN
      clear hR hs hsN
      have j0 : (0 : Int) ≤ (j : Int) := by omega
      by_cases hj : j < L
      · have j1 : (j : Int) < (L : Int) := by omega
        by_cases hjj : j < 200
        · have j2 : (j : Int) < 200 := by omega
          obtain ⟨b, off, rfl, a0, a1, a2, a3, hok⟩ := HAS.out wo HT.out.bel j (by have := HL.out; omega)
          obtain ⟨a, ha⟩ : ∃ a, a = acs[j]'(by have := HL.out; omega) := ⟨_, rfl⟩
          rw [← ha] at a0 a1 a2 a3 hok
          have HOK := Lib.hid hok
          have hta := HACT.out _ _ _ _ _ _ _ a HT.out
          unfold actC at hta
          obtain ⟨wh, hwh⟩ : ∃ x, x = a.what := ⟨_, rfl⟩
          obtain ⟨nn, hnn⟩ : ∃ x, x = a.n := ⟨_, rfl⟩
          obtain ⟨tA, htA⟩ : ∃ x, x = a.A := ⟨_, rfl⟩
          obtain ⟨tl, htl⟩ : ∃ x, x = a.t.length := ⟨_, rfl⟩
          obtain ⟨tC, htC⟩ : ∃ x, x = a.c := ⟨_, rfl⟩
          obtain ⟨kA, hkA⟩ : ∃ x, x = a.B := ⟨_, rfl⟩
          obtain ⟨kl, hkl⟩ : ∃ x, x = a.l.length := ⟨_, rfl⟩
          obtain ⟨kC, hkC⟩ : ∃ x, x = a.k := ⟨_, rfl⟩
          rw [← hwh] at a0
          rw [← hnn] at a1
          rw [← htA, ← htl, ← htC] at a2
          rw [← hkA, ← hkl, ← hkC] at a3
          rw [← hwh, ← hnn, ← htA, ← htl, ← htC, ← hkA, ← hkl, ← hkC] at hta
          have HTA := Lib.hid hta
          have HCE : Hid (∀ (g m : Nat) (s s' : Dk) (W : World), TwoD Rep w p q lg lc m g a s s' W → W.cell? ⟨g, 0, none⟩ = some (.int .i64 wh) ∧ W.cell? ⟨g, 1, none⟩ = some (.int .i64 nn) ∧ W.cell? ⟨g, 2, none⟩ = some (.slice tA tl tC) ∧ W.cell? ⟨g, 3, none⟩ = some (.slice kA kl kC)) := fun g m s s' W h => by
            rw [hwh, hnn, htA, htl, htC, hkA, hkl, hkC]; exact h.cells
          have HNN : Hid (nn = a.n) := hnn
          have HTL : Hid (tl = a.t.length) := htl
          have HTE : Hid (tA = a.A ∧ tC = a.c) := ⟨htA, htC⟩
          have HKE : Hid (kA = a.B ∧ kl = a.l.length ∧ kC = a.k) := ⟨hkA, hkl, hkC⟩
          clear ha hok hwh hnn htA htl htC hkA hkl hkC hta
          go_upto_block 2 with fail
          obtain ⟨g, hg⟩ : ∃ g, g = wo.heap.size := ⟨_, rfl⟩
          obtain ⟨wa, hwa⟩ : ∃ x, x = wo.alloc (.cells #[.int .i64 wh, .int .i64 nn, .slice tA tl tC, .slice kA kl kC] 33) := ⟨_, rfl⟩
          rw [← hwa, ← hg]
          rw [← hwa, ← hg] at HTA
          clear a0 a1 a2 a3 hwa hg HT HACT HAS
          go_cut [10, 11, 12, 13] from 62 to 154 (fun vf vg vx vy wx => ∃ (y : Int) (tx : ByteArray), vf = .int .i64 y ∧ vg = .int .i64 y ∧ vx = .string tx ∧ vy = .string tx ∧ Hid (∃ s, TwoD Rep w p q lg lc (j + 1) g a s s wx ∧ s.last.length = N))
          case first =>
            obtain ⟨k0, k1, k2, k3⟩ := HCE.out _ _ _ _ _ HTA.out
            have hsp := HTA.out.pen.1
            by_cases h0 : wh = 0
            · subst h0
              have htl := HOK.out.len
              have HW1 : Hid (∀ W A c, Below wa.heap.size wa W → Ints W W.heap.size .u8 A (up a.t) → tl ≤ c → (∀ b o, A = some ⟨b, o, none⟩ → wa.heap.size ≤ b) → Calls Try.prog 12 #[.pointer (some ⟨p, 0, none⟩), .int .i64 nn, .slice A tl c] W fun e w' => e = .returned (.int .i64 (writeE s a.n a.t)) ∧ TwoD Rep w p q lg lc (j + 1) g a (writeS s a.n a.t) s w') := fun W A c hb hI hc hF => by
                rw [HNN.out, HTL.out]; exact two_write HSS.out HTA.out hb HOK.out (by omega) A c hI (by rw [← HTL.out]; exact hc) (fun _ => hF)
              have HRF : Hid (∀ W, TwoD Rep w p q lg lc (j + 1) g a (writeS s a.n a.t) s W → Calls Try.prog 13 #[.pointer (some ⟨q, 0, none⟩), .int .i64 nn, .slice tA tl tC] W fun e w' => e = .returned (.int .i64 (writeE s a.n a.t)) ∧ TwoD Rep w p q lg lc (j + 1 + 1) g a (writeS s a.n a.t) (writeS s a.n a.t) w') := fun W h => by
                rw [HNN.out, HTL.out, HTE.out.1, HTE.out.2]; exact two_rwrite HSS.out h HOK.out (by omega)
              have R : Hid (∀ W, TwoD Rep w p q lg lc (j + 1 + 1) g a (writeS s a.n a.t) (writeS s a.n a.t) W → ∃ s, TwoD Rep w p q lg lc (j + 1) g a s s W ∧ s.last.length = N) := fun W h => ⟨_, h.fit (Nat.le_trans (write_len s a.n a.t).2 (Nat.succ_le_succ hsp)), (write_len s a.n a.t).1.trans HSN.out⟩
              obtain ⟨E, hE⟩ : ∃ E, E = writeE s a.n a.t := ⟨_, rfl⟩
              rw [← hE] at HW1 HRF
              obtain ⟨i0, hif, hz0, hz1, hz2⟩ := info_parts Try.infoU8s
              have hgl : g < wa.heap.size := (Array.getElem?_eq_some_iff.1 HTA.out.act).1
              have hbe : Below wa.heap.size wa (wa.alloc (.cells #[] 5)).drew := ((Below.refl _ _).alloc (Nat.le_refl _) _).drew
              have hbd : Below wa.heap.size wa wa.drew := (Below.refl _ _).drew
              have HOW : Hid ((wa.alloc (.cells #[] 5)).drew.ownsRow wa.heap.size 5 1 (.slice (some ⟨wa.heap.size, 0, none⟩) 0 0) ([] : List Int).length (([] : List Int).map (Value.int .u8))) := World.ownsRow_made wa #[] 0 (Nat.le_refl _) (by decide) rfl
              have HIN : Hid (Ints (wa.alloc (.cells #[] 5)).drew wa.heap.size .u8 tA (up a.t)) := by
                rw [HTE.out.1]
                exact ((HOK.out.ints.below HTA.out.bel).more HTA.out.bel.size).below hbe
              have HNI : Hid (tA = none → tC = 0) := by rw [HTE.out.1, HTE.out.2]; exact HOK.out.nil
              have HUL : Hid ((up a.t).length = tl) := by unfold Hid; rw [up_len]; exact HTL.out.symm
              have HCX : Hid (∀ W, Below wa.heap.size wa W → W.cell? ⟨g, 1, none⟩ = some (.int .i64 nn) ∧ W.cell? ⟨g, 2, none⟩ = some (.slice tA tl tC)) := fun W hb => ⟨(hb.cell (p := ⟨g, 1, none⟩) hgl).trans k1, (hb.cell (p := ⟨g, 2, none⟩) hgl).trans k2⟩
              have HCY : Hid (∀ m s s' W, TwoD Rep w p q lg lc m g a s s' W → W.cell? ⟨g, 1, none⟩ = some (.int .i64 nn) ∧ W.cell? ⟨g, 2, none⟩ = some (.slice tA tl tC)) := fun m s s' W h => ⟨(HCE.out _ _ _ _ _ h).2.1, (HCE.out _ _ _ _ _ h).2.2.1⟩
              have htl2 : (up a.t).length ≤ 140737488351232 := by rw [up_len]; exact htl
              have hsz : wa.heap.size ≤ (wa.alloc (.cells #[] 5)).drew.heap.size := hbe.size
              have HBE := Lib.hid hbe
              have HBD := Lib.hid hbd
              clear hE k0 k1 k2 k3 htl hbe hbd hgl HTA
              go_wp2_with fail
              go_region_held3 (fun W => W.cell? ⟨g, 1, none⟩ = some (.int .i64 nn) ∧ W.cell? ⟨g, 2, none⟩ = some (.slice tA tl tC))
                (first
                  | exact HCX.out _ HBD.out
                  | exact HCX.out _ HBE.out
                  | exact HCX.out _ hb5
                  | exact HCY.out _ _ _ _ ht6)
                (first
                  | (refine step_append_when _ (by rfl) _ _ 30 (by rfl) wa.heap.size 5 i0 (.int .u8 0) 1 Try.underlying30 hif hz0 hz1 hz2 rfl .u8 (.slice (some ⟨wa.heap.size, 0, none⟩) 0 0) [] (up a.t) wa.heap.size tC tl tA HUL.out rfl rfl HOW.out HIN.out HNI.out (by unfold maxLen; simp only [List.length_nil]; omega) (by simp only [List.length_nil]; omega) hsz ?_
                     intro v5 w5 hown5 hg5 _
                     rw [List.nil_append, HUL.out] at hown5
                     have hb5 : Below wa.heap.size wa w5 := HBE.out.grown hg5 hsz (fun q hq => Nat.le_of_eq (ob_lit hq))
                     obtain ⟨A5, c5, rfl⟩ := own_slice hown5
                     have hc5 := own_le hown5
                     have hi5 : Ints w5 w5.heap.size .u8 A5 (up a.t) := Ints.of_own (n := tl) (c := c5) (by rw [HUL.out]; exact hown5)
                     have hf5 : ∀ b o, A5 = some ⟨b, o, none⟩ → wa.heap.size ≤ b := fun b o e => (hown5.lt b (by rw [e]; rfl)).1)
                  | (go_at_call 12; with_reducible (refine Calls.mono (HW1.out w5 A5 c5 hb5 hi5 hc5 hf5) ?_); rintro e w6 ⟨rfl, ht6⟩))
              have HT6 := Lib.hid ht6
              clear ht6 hown5 hg5 hb5 hi5 hc5 hf5 HW1 HOW HIN HCX
              obtain ⟨k5, k6⟩ := HCY.out _ _ _ _ HT6.out
              go_wp2_with (go_at_call 13; with_reducible (refine Calls.mono (HRF.out _ HT6.out) ?_); rintro e w7 ⟨rfl, ht7⟩; have HT7 := Lib.hid ht7; clear ht7)
              go_meet
              exact ⟨_, _, rfl, rfl, rfl, rfl, R.out _ HT7.out⟩
            · have d0 : (wh == 0) = false := beq_eq_false_iff_ne.2 h0
              by_cases h1 : wh = 1
              · subst h1
                obtain ⟨tx, htx⟩ := some_text (readE s a.n = 0) (nowD s a.n.toNat)
                have HD : Hid (∀ W, TwoD Rep w p q lg lc j g a s s W → Calls Try.prog 14 #[.pointer (some ⟨p, 0, none⟩), .int .i64 nn] W fun e w' => ∃ A l c, e = .returned (.tuple #[.slice A l c, .int .i64 (readE s a.n)]) ∧ (convert 30 9 (.slice A l c)).run Try.prog w' = .ok (.string tx) w' ∧ TwoD Rep w p q lg lc j g a s s w') := fun W h => by
                  have := two_read HSS.out h HOK.out
                  rw [htx, ← HNN.out] at this
                  rw [← HNN.out]; exact this
                have HRF : Hid (∀ W, TwoD Rep w p q lg lc j g a s s W → Calls Try.prog 15 #[.pointer (some ⟨q, 0, none⟩), .int .i64 nn] W fun e w' => e = .returned (.tuple #[.string tx, .int .i64 (readE s a.n)]) ∧ w' = W) := fun W h => by
                  have := two_rread h (by omega)
                  rw [htx, ← HNN.out] at this
                  rw [← HNN.out]; exact this
                obtain ⟨E, hE⟩ : ∃ E, E = readE s a.n := ⟨_, rfl⟩
                rw [← hE] at HD HRF
                clear hE htx k2 k3 h0
                go_wp2_with (first
                  | (go_at_call 14; with_reducible (refine Calls.mono (HD.out _ HTA.out) ?_); rintro e w4 ⟨A4, l4, c4, rfl, hc4, ht4⟩; have HT4 := Lib.hid ht4; have k5 := (HCE.out _ _ _ _ _ ht4).2.1; clear ht4)
                  | (go_at_call 15; with_reducible (refine Calls.mono (HRF.out _ HT4.out) ?_); rintro e w5 ⟨rfl, hw5⟩; subst hw5))
                go_meet
                exact ⟨_, _, rfl, rfl, rfl, rfl, s, HT4.out.more (Nat.le_succ j), HSN.out⟩
              · have d1 : (wh == 1) = false := beq_eq_false_iff_ne.2 h1
                by_cases h2 : wh = 2
                · subst h2
                  have HD := Lib.hid (two_flush HSS.out HTA.out)
                  have HRF := Lib.hid (fun W (h : TwoD Rep w p q lg lc (j + 1) g a (flushS s) s W) => two_rflush HSS.out h (by omega))
                  have R : Hid (∀ W, TwoD Rep w p q lg lc (j + 1 + 1) g a (flushS s) (flushS s) W → ∃ s, TwoD Rep w p q lg lc (j + 1) g a s s W ∧ s.last.length = N) := fun W h => ⟨_, h.fit (Nat.le_trans (flush_len s).2 (Nat.le_trans hsp (Nat.le_succ j))), (flush_len s).1.trans HSN.out⟩
                  obtain ⟨E, hE⟩ : ∃ E, E = flushE s := ⟨_, rfl⟩
                  rw [← hE] at HD HRF
                  clear hE k1 k2 k3 h0 h1
                  go_wp2_with (first
                    | (go_at_call 16; with_reducible (refine Calls.mono HD.out ?_); rintro e w4 ⟨rfl, ht4⟩; have HT4 := Lib.hid ht4; clear ht4)
                    | (go_at_call 17; with_reducible (refine Calls.mono (HRF.out _ HT4.out) ?_); rintro e w5 ⟨rfl, ht5⟩; have HT5 := Lib.hid ht5; clear ht5))
                  go_meet
                  exact ⟨_, _, rfl, rfl, rfl, rfl, R.out _ HT5.out⟩
                · have d2 : (wh == 2) = false := beq_eq_false_iff_ne.2 h2
                  by_cases h3 : wh = 3
                  · subst h3
                    have HD : Hid (Calls Try.prog 18 #[.pointer (some ⟨p, 0, none⟩), .int .i64 nn] wa fun e w' => e = .returned (.tuple #[]) ∧ TwoD Rep w p q lg lc (j + 1) g a (limitS s a.n) s w') := by
                      rw [HNN.out]; exact two_limit HSS.out HTA.out HOK.out
                    have R : Hid (∀ W, TwoD Rep w p q lg lc (j + 1) g a (limitS s a.n) s W → (∃ s, TwoD Rep w p q lg lc (j + 1) g a s s (W.setCell ⟨q, 2, none⟩ (.int .i64 nn)) ∧ s.last.length = N) ∧ (∃ z, W.cell? ⟨q, 2, none⟩ = some (.int .i64 z)) ∧ W.frozen? ⟨q, 2, none⟩ = false) := fun W h => by
                      obtain ⟨r1, r2, r3⟩ := two_rlimit HSS.out h HOK.out
                      rw [HNN.out]
                      exact ⟨⟨_, r1, HSN.out⟩, r2, r3⟩
                    clear k2 k3 h0 h1 h2
                    go_wp2_with (first
                      | (go_at_call 18; with_reducible (refine Calls.mono HD.out ?_); rintro e w4 ⟨rfl, ht4⟩; have R4 := Lib.hid (R.out _ ht4).1; obtain ⟨z4, y4⟩ := (R.out _ ht4).2.1; have y5 := (R.out _ ht4).2.2; have k5 := (HCE.out _ _ _ _ _ ht4).2.1; clear ht4))
                    go_meet
                    exact ⟨_, _, rfl, rfl, rfl, rfl, R4.out⟩
                  · have d3 : (wh == 3) = false := beq_eq_false_iff_ne.2 h3
                    by_cases h4 : wh = 4
                    · subst h4
                      have HD : Hid (Calls Try.prog 19 #[.pointer (some ⟨p, 0, none⟩), .slice kA kl kC] wa fun e w' => e = .returned (.tuple #[]) ∧ TwoD Rep w p q lg lc (j + 1) g a (crashS s a.l) s w') := by
                        rw [HKE.out.1, HKE.out.2.1, HKE.out.2.2]; exact two_crash HSS.out HTA.out HOK.out
                      have HRF : Hid (∀ W, TwoD Rep w p q lg lc (j + 1) g a (crashS s a.l) s W → Calls Try.prog 20 #[.pointer (some ⟨q, 0, none⟩), .slice kA kl kC] W fun e w' => e = .returned (.tuple #[]) ∧ TwoD Rep w p q lg lc (j + 1 + 1) g a (crashS s a.l) (crashS s a.l) w') := fun W h => by
                        rw [HKE.out.1, HKE.out.2.1, HKE.out.2.2]; exact two_rcrash HSS.out h HOK.out (by omega)
                      have R : Hid (∀ W, TwoD Rep w p q lg lc (j + 1 + 1) g a (crashS s a.l) (crashS s a.l) W → ∃ s, TwoD Rep w p q lg lc (j + 1) g a s s W ∧ s.last.length = N) := fun W h => ⟨_, h.fit (Nat.zero_le _), (crash_len s a.l).1.trans HSN.out⟩
                      clear k1 k2 h0 h1 h2 h3
                      go_wp2_with (first
                        | (go_at_call 19; with_reducible (refine Calls.mono HD.out ?_); rintro e w4 ⟨rfl, ht4⟩; have HT4 := Lib.hid ht4; have k5 := (HCE.out _ _ _ _ _ ht4).2.2.2; clear ht4)
                        | (go_at_call 20; with_reducible (refine Calls.mono (HRF.out _ HT4.out) ?_); rintro e w5 ⟨rfl, ht5⟩; have HT5 := Lib.hid ht5; clear ht5))
                      go_meet
                      exact ⟨_, _, rfl, rfl, rfl, rfl, R.out _ HT5.out⟩
                    · have d4 : (wh == 4) = false := beq_eq_false_iff_ne.2 h4
                      obtain ⟨tx, htx⟩ := some_text (lastE s a.n = 0) (s.last.getD a.n.toNat [])
                      have HD : Hid (Calls Try.prog 21 #[.pointer (some ⟨p, 0, none⟩), .int .i64 nn] wa fun e w' => ∃ A l c, e = .returned (.tuple #[.slice A l c, .int .i64 (lastE s a.n)]) ∧ (convert 30 9 (.slice A l c)).run Try.prog w' = .ok (.string tx) w' ∧ TwoD Rep w p q lg lc j g a s s w') := by
                        have := two_last HSS.out HTA.out HOK.out
                        rw [htx, ← HNN.out] at this
                        rw [← HNN.out]; exact this
                      have hnn := HNN.out
                      rw [← hnn] at HD htx
                      by_cases hout : outD s nn
                      · have hE : lastE s nn = 7 := by unfold lastE; rw [if_pos hout]
                        rw [hE, if_neg (by decide)] at htx
                        injection htx with htx
                        subst htx
                        rw [hE] at HD
                        clear k0 k2 k3 h0 h1 h2 h3 h4 hE hnn
                        by_cases hn0 : nn < 0
                        · have g0 : ¬ (0 : Int) ≤ nn := by omega
                          clear hout
                          go_wp2_with (go_at_call 21; with_reducible (refine Calls.mono HD.out ?_); rintro e w4 ⟨A4, l4, c4, rfl, hc4, ht4⟩; have HT4 := Lib.hid ht4; have k5 := (HCE.out _ _ _ _ _ ht4).2.1; clear ht4)
                          go_meet
                          exact ⟨_, _, rfl, rfl, rfl, rfl, s, HT4.out.more (Nat.le_succ j), HSN.out⟩
                        · have g0 : (0 : Int) ≤ nn := by omega
                          have g1 : ¬ nn < (N : Int) := by have := HSN.out; unfold outD at hout; omega
                          clear hout
                          go_wp2_with (go_at_call 21; with_reducible (refine Calls.mono HD.out ?_); rintro e w4 ⟨A4, l4, c4, rfl, hc4, ht4⟩; have HT4 := Lib.hid ht4; have k5 := (HCE.out _ _ _ _ _ ht4).2.1; clear ht4)
                          go_meet
                          exact ⟨_, _, rfl, rfl, rfl, rfl, s, HT4.out.more (Nat.le_succ j), HSN.out⟩
                      · have hE : lastE s nn = 0 := by unfold lastE; rw [if_neg hout]
                        obtain ⟨i, hi, hil⟩ := not_out hout
                        rw [hE, if_pos rfl, hi, Int.toNat_natCast] at htx
                        rw [hE] at HD
                        have g0 : (0 : Int) ≤ (i : Int) := by omega
                        have g1 : (i : Int) < (N : Int) := by have := HSN.out; omega
                        have HFI : Hid (∀ W, TwoD Rep w p q lg lc j g a s s W → W.cell? ⟨q, 0, none⟩ = some (.slice (some ⟨lg, 0, none⟩) N lc) ∧ W.cell? ⟨lg, i, none⟩ = some (.string tx)) := fun W h => by
                          obtain ⟨r1, _, r3⟩ := two_fields h
                          rw [HSN.out] at r1
                          exact ⟨r1, by rw [r3 i hil, htx]⟩
                        rw [hi] at HD k1 HCE
                        rw [hi]
                        clear k0 k2 k3 h0 h1 h2 h3 h4 hE hi hil hout htx hnn
                        go_wp2_with (go_at_call 21; with_reducible (refine Calls.mono HD.out ?_); rintro e w4 ⟨A4, l4, c4, rfl, hc4, ht4⟩; have HT4 := Lib.hid ht4; have k5 := (HCE.out _ _ _ _ _ ht4).2.1; have x1 := (HFI.out _ ht4).1; have x2 := (HFI.out _ ht4).2; clear ht4)
                        have X1 : ∀ n, (w4.drewN n).cell? ⟨q, 0, none⟩ = some (.slice (some ⟨lg, 0, none⟩) N lc) := fun _ => x1
                        have X2 : ∀ n, (w4.drewN n).cell? ⟨lg, i, none⟩ = some (.string tx) := fun _ => x2
                        have X3 : ∀ n, (w4.drewN n).cell? ⟨g, 1, none⟩ = some (.int .i64 (i : Int)) := fun _ => k5
                        have HT5 : Hid (∀ n, TwoD Rep w p q lg lc j g a s s (w4.drewN n)) := fun n => HT4.out.later HSS.out (below_drawn w4 n)
                        clear x1 x2 k5 HT4
                        go_quiet (fail)
                        go_wp2
                        go_meet
                        exact ⟨_, _, rfl, rfl, rfl, rfl, s, (HT5.out _).more (Nat.le_succ j), HSN.out⟩
          case rest =>
            clear HTA HNN HTL HTE HKE HSN
            obtain ⟨y, tx, rfl, rfl, rfl, rfl, hS⟩ := hcut
            obtain ⟨s2, ht, hn2⟩ := hS.out
            have HN2 := Lib.hid hn2
            have hbd : Below wc.heap.size wc wc.drew := (Below.refl _ _).drew
            have HT6 := Lib.hid (ht.later HSS.out hbd)
            obtain ⟨A6, c6, hx6⟩ := (two_fields ht).2.1
            obtain ⟨v6, z6, F6, hr6, _⟩ := ht.two
            have hql := (Array.getElem?_eq_some_iff.1 hr6.cell).1
            have HCX : Hid (∀ W, Below wc.heap.size wc W → W.cell? ⟨q, 1, none⟩ = some (.slice A6 s2.pend.length c6)) := fun W hb => (hb.cell (p := ⟨q, 1, none⟩) hql).trans hx6
            have HPD : Hid (Calls Try.prog 22 #[.pointer (some ⟨p, 0, none⟩)] wc.drew fun e w' => e = .returned (.int .i64 (s2.pend.length : Int)) ∧ Below wc.heap.size wc w') := by
              obtain ⟨v, z, F, hr, h1, h2, _⟩ := HT6.out.two
              exact (HSS.out.pending p F s2 wc.drew HT6.out.bel h1 h2).mono fun e w' ⟨r1, r2⟩ => ⟨r1, hbd.trans (r2.mono hbd.size)⟩
            have HEND : Hid (∀ W, Below wc.heap.size wc W → ∃ s, TwoP Rep w p q lg lc (j + 1) s W ∧ s.last.length = N) := fun W hb => ⟨s2, (ht.later HSS.out hb).none, HN2.out⟩
            obtain ⟨M, hM⟩ : ∃ M, M = s2.pend.length := ⟨_, rfl⟩
            rw [← hM] at HCX HPD hx6
            have dy : (y != y) = false := by simp
            have dx : (tx.toList != tx.toList) = false := by simp
            have HBD := Lib.hid hbd
            clear hS ht hn2 hbd HT6 hr6 hql hM hx6 HCE HOK
            go_wp2_with fail
            go_region_held3 (fun W => W.cell? ⟨q, 1, none⟩ = some (.slice A6 M c6))
              (first
                | exact HCX.out _ HBD.out
                | exact HCX.out _ hb7)
              (first
                | (go_at_call 22; with_reducible (refine Calls.mono HPD.out ?_); rintro e w7 ⟨rfl, hb7⟩))
            have HR9 := Lib.hid (HEND.out _ hb7)
            clear hb7 HCX HPD HEND HBD
            go_wp2
            go_roundw
            case rel => first | exact ⟨j + 1, by omega, by go_num, HR9.out⟩ | ((repeat apply Exists.intro); exact ⟨⟨j + 1, by omega, by go_num, HR9.out⟩, rfl⟩)
            case measure => simp [intOf]; omega
        · have j2 : ¬ (j : Int) < 200 := by omega
          have HB9 := Lib.hid HT.out.bel
          go_wp2
          go_ret
          exact ⟨rfl, HB9.out⟩
      · have j1 : ¬ (j : Int) < (L : Int) := by omega
        have HB9 := Lib.hid HT.out.bel
        go_wp2
        go_ret
        exact ⟨rfl, HB9.out⟩
end

end Go.Proofs.Ytnbgnllkikajpaa
