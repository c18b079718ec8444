/-
  The landed disk: Write's attempt, walked.
-/
import Derived.Test.YtbnhkplhmanmoaaGreatDiskC8G
import Derived.Deep.CutRange
namespace Go.Proofs.YtbnhkplhmanmoaaGreat
open Go.RowKit

section
variable {w : World} {p gl gn : Nat} {V : Value} {z : Int} {DL : DataW Value} {DN : DataW Unit} {s : Dk}

set_option maxHeartbeats 1600000 in
theorem write1_no (h : DiskIn w p gl gn V z DL DN s) (b0 b1 b2 N c : Nat) (A : Option Addr) (n : Int) (t : List Nat) (hN : N = t.length) (hb0 : w.cell? ⟨b0, 0, none⟩ = some (.pointer (some ⟨p, 0, none⟩))) (hb1 : w.cell? ⟨b1, 0, none⟩ = some (.slice A N c)) (hb2 : w.cell? ⟨b2, 0, none⟩ = some (.int .i64 n)) (hE : writeE s n t ≠ 0) :
    Calls Tryz.prog 118 #[.pointer (some ⟨b0, 0, none⟩), .pointer (some ⟨b1, 0, none⟩), .pointer (some ⟨b2, 0, none⟩)] w fun e w' => e = .panicked (upV (writeE s n t)) ∧ (DiskIn w' p gl gn V z DL DN (writeS s n t) ∧ Away (ownD p gl gn V) w w') := by
  obtain ⟨_, _, _, _, _, c5⟩ := h.cells
  have hnot : ∀ (x : Bool) (w : World), (Op.unary .not (.bool x)).run Tryz.prog w = .ok (.bool (!x)) w := fun _ _ => rfl
  have R0 := Lib.hid (And.intro h (Away.refl (ownD p gl gn V) w))
  cases ho : s.off with
  | true =>
    have e : writeE s n t = 8 := by unfold writeE; rw [ho]; rfl
    have e2 : writeS s n t = s := by unfold writeS; rw [ho]; rfl
    rw [e, e2]
    rw [ho] at c5
    clear h hE e e2 hN
    go_enter Tryz.func118, Tryz.ntmps118
    go_wp2_with (go_at_call 55; with_reducible (refine Calls.mono (demand_no _ _) ?_); rintro e w1 ⟨rfl, rfl⟩)
    exact ⟨rfl, rfl, R0.out⟩
  | false =>
    rw [ho] at c5
    have hf : ¬ (false = true) := by decide
    by_cases hl : t.length = 64
    · have hl' : ¬ (t.length ≠ 64) := by omega
      have d1 : N = 64 := by omega
      by_cases hout : outD s n
      · have e : writeE s n t = 7 := by unfold writeE; rw [ho, if_neg hf, if_neg hl', if_pos hout]
        have e2 : writeS s n t = s := by unfold writeS; rw [ho, if_neg hf, if_neg hl', if_pos hout]
        rw [e, e2]
        have HH := Lib.hid (has_no h n hout)
        subst d1
        clear h hE e e2 hN hl hl' hout
        go_enter Tryz.func118, Tryz.ntmps118
        go_wp2_with (first
          | (go_at_call 56; with_reducible (refine Calls.mono HH.out ?_); rintro e w1 ⟨rfl, rfl⟩; have h7 := hnot)
          | (go_at_call 55; have h7' := h7; with_reducible (refine Calls.mono (demand_no _ _) ?_); rintro e w1 ⟨rfl, rfl⟩)
          | (go_at_call 55; with_reducible (refine Calls.mono (demand_ok _ _) ?_); rintro e w1 ⟨rfl, rfl⟩))
        exact ⟨rfl, rfl, R0.out⟩
      · have hs : spendE s ≠ 0 := fun q => hE (by unfold writeE; rw [ho, if_neg hf, if_neg hl', if_neg hout]; exact q)
        have e : writeE s n t = 8 := by unfold writeE; rw [ho, if_neg hf, if_neg hl', if_neg hout]; exact (spendE_or s).resolve_left hs
        have e2 : writeS s n t = spendS s := by unfold writeS; rw [ho, if_neg hf, if_neg hl', if_neg hout, if_neg hs]
        rw [e, e2]
        have HH := Lib.hid (has_yes h n hout)
        have HSP := Lib.hid (spend_no_go h hs)
        obtain ⟨s2, hs2⟩ : ∃ s2, s2 = spendS s := ⟨_, rfl⟩
        rw [← hs2] at HSP ⊢
        subst d1
        clear h hE e e2 hN hl hl' hout hs hs2 R0
        go_enter Tryz.func118, Tryz.ntmps118
        go_wp2_with (first
          | (go_at_call 56; with_reducible (refine Calls.mono HH.out ?_); rintro e w1 ⟨rfl, rfl⟩)
          | (go_at_call 119; with_reducible (refine Calls.mono HSP.out ?_); rintro e w1 ⟨rfl, hr1, ha1⟩)
          | (go_at_call 55; with_reducible (refine Calls.mono (demand_ok _ _) ?_); rintro e w1 ⟨rfl, rfl⟩))
        exact ⟨rfl, rfl, hr1, ha1⟩
    · have e : writeE s n t = 1 := by unfold writeE; rw [ho, if_neg hf, if_pos hl]
      have e2 : writeS s n t = s := by unfold writeS; rw [ho, if_neg hf, if_pos hl]
      rw [e, e2]
      have d1 : ((N : Int) == 64) = false := beq_eq_false_iff_ne.2 (by omega)
      clear h hE e e2 hN hl
      go_enter Tryz.func118, Tryz.ntmps118
      go_wp2_with (first
        | (go_at_call 55; with_reducible (refine Calls.mono (demand_ok 8 _) ?_); rintro e w1 ⟨rfl, rfl⟩)
        | (go_at_call 55; with_reducible (refine Calls.mono (demand_no 1 _) ?_); rintro e w1 ⟨rfl, rfl⟩))
      exact ⟨rfl, rfl, R0.out⟩

set_option maxHeartbeats 3200000 in
set_option maxRecDepth 20000 in
theorem write1_ok (h : DiskIn w p gl gn V z DL DN s) (b0 b1 b2 c i : Nat) (A : Option Addr) (t : List Nat) (hI : Ints w w.heap.size .u8 A (up t)) (ht : ∀ y ∈ t, y < 256) (hF : ∀ b o, A = some ⟨b, o, none⟩ → ¬ ownD p gl gn V b)
    (hb0 : w.cell? ⟨b0, 0, none⟩ = some (.pointer (some ⟨p, 0, none⟩))) (hb1 : w.cell? ⟨b1, 0, none⟩ = some (.slice A t.length c)) (hb2 : w.cell? ⟨b2, 0, none⟩ = some (.int .i64 (i : Int)))
    (hn : ¬ ownD p gl gn V b0 ∧ ¬ ownD p gl gn V b1 ∧ ¬ ownD p gl gn V b2) (hm : s.pend.length ≤ 2147483647) (hE : writeE s (i : Int) t = 0) :
    Calls Tryz.prog 118 #[.pointer (some ⟨b0, 0, none⟩), .pointer (some ⟨b1, 0, none⟩), .pointer (some ⟨b2, 0, none⟩)] w fun e w' => e = .returned (.tuple #[]) ∧
      ((∃ V' z' DN', DiskIn w' p gl gn V' z' DL DN' (writeS s (i : Int) t) ∧ (V.ownBlock = V'.ownBlock ∨ ∃ g, V'.ownBlock = some g ∧ w.heap.size ≤ g)) ∧ Away (ownD p gl gn V) w w') := by
  obtain ⟨_, _, _, _, _, c5⟩ := h.cells
  have hnot : ∀ (x : Bool) (w : World), (Op.unary .not (.bool x)).run Tryz.prog w = .ok (.bool (!x)) w := fun _ _ => rfl
  have hf : ¬ (false = true) := by decide
  have ho : s.off = false := by
    cases q : s.off
    · rfl
    · unfold writeE at hE; rw [q] at hE; cases hE
  have hl : t.length = 64 := by
    unfold writeE at hE
    rw [ho, if_neg hf] at hE
    by_cases q : t.length = 64
    · exact q
    · rw [if_pos q] at hE; cases hE
  have hl' : ¬ (t.length ≠ 64) := by omega
  have hout : ¬ outD s (i : Int) := fun q => by unfold writeE at hE; rw [ho, if_neg hf, if_neg hl', if_pos q] at hE; cases hE
  have hs : spendE s = 0 := by unfold writeE at hE; rw [ho, if_neg hf, if_neg hl', if_neg hout] at hE; exact hE
  have e2 : writeS s (i : Int) t = ⟨s.last, s.pend ++ [(i, t)], (spendS s).lim, false⟩ := by
    unfold writeS; rw [ho, if_neg hf, if_neg hl', if_neg hout, if_pos hs, (spend_off hs).1, ho]; rfl
  rw [e2]
  rw [ho] at c5
  rw [hl] at hb1
  have hi : i < s.last.length := by unfold outD at hout; omega
  have hi6 : (i : Int) < 4096 := by have := h.ok.le; omega
  have HH := Lib.hid (has_yes h (i : Int) hout)
  have HSP := Lib.hid (spend_ok_go h hs)
  have hkey := Lib.hid (keyOfD (x := (i : Int)) (by unfold I64c; omega))
  obtain ⟨b, o, rfl, hbl, _⟩ := hI 0 (by rw [up_len, hl]; decide)
  have HC : Hid (∀ W, Away (ownD p gl gn V) w W → W.cell? ⟨b0, 0, none⟩ = some (.pointer (some ⟨p, 0, none⟩)) ∧ W.cell? ⟨b1, 0, none⟩ = some (.slice (some ⟨b, o, none⟩) 64 c) ∧ W.cell? ⟨b2, 0, none⟩ = some (.int .i64 (i : Int)) ∧ W.rangeAt b o (BA t).toList) := fun W ha => by
    refine ⟨(ha.cell (World.block_lt_of_cell? w _ hb0) hn.1).trans hb0, (ha.cell (World.block_lt_of_cell? w _ hb1) hn.2.1).trans hb1, (ha.cell (World.block_lt_of_cell? w _ hb2) hn.2.2).trans hb2, fun j v hv => ?_⟩
    have hj : j < t.length := by
      rcases Nat.lt_or_ge j t.length with q | q
      · exact q
      · rw [List.getElem?_eq_none (by rw [Array.length_toList, BA_size]; exact q)] at hv; cases hv
    have hv2 : (BA t)[j]? = some v := by rw [← Array.getElem?_toList]; exact hv
    rw [BA_at t j hj] at hv2
    obtain ⟨b', o', e', _, hc⟩ := hI j (by rw [up_len]; exact hj)
    injection e' with e'
    injection e' with e1 e2
    subst e1 e2
    rw [up_getD] at hc
    rw [ha.cell hbl (hF _ _ rfl), hc]; exact hv2
  have hpn : (s.pend.length : Int) ≤ 2147483647 := by omega
  -- what the map of the newest writes becomes
  have HMU : Hid (∀ W z', DiskIn W p gl gn V z' DL DN ⟨s.last, s.pend, (spendS s).lim, false⟩ → ∃ w2, (Instr.mapUpdate 59 (.map (some gn)) (.int .i64 (i : Int)) (.int .i64 (s.pend.length : Int))).run Tryz.prog W.drew = .ok () w2 ∧ w2.ownsMap Tryz.prog 3 (plainElem Tryz.prog 3) gn (s.pend.length + 1) (DN.put (.int .i64 (i : Int)) (.lit (.int .i64 (s.pend.length : Int)))) ∧ W.drew.mapTurned w2 gn) := fun W z' hW =>
    World.ownsMap.store (w := W.drew) hW.new keyD Tryz.undMapN (by show s.pend.length < maxLen; unfold maxLen; omega) hkey.out (plainElem_int Tryz.undIntD (by simp [Lit.wf, IntKind.min, IntKind.max, IntKind.signed, IntKind.bits]; omega))
  obtain ⟨A', c', hV, _, _⟩ := h.len
  have HV := Lib.hid hV
  have hsec : Sec t := ⟨hl, ht⟩
  have HHN := Lib.hid hn
  clear hI hF hE ho hl' hout hs e2 h hn hV hf
  go_enter Tryz.func118, Tryz.ntmps118
  go_wp2_with (first
    | (go_at_call 56; with_reducible (refine Calls.mono HH.out ?_); rintro e wx ⟨rfl, hwx⟩; obtain rfl := hwx.symm)
    | (go_at_call 119; with_reducible (refine Calls.mono HSP.out ?_); rintro e w1 ⟨rfl, ⟨z1, hr1⟩, ha1⟩; have y0 := (HC.out _ ha1).1)
    | (go_at_call 55; with_reducible (refine Calls.mono (demand_ok _ _) ?_); rintro e wx ⟨rfl, hwx⟩; obtain rfl := hwx.symm))
  obtain ⟨w2, hmu, ho2, hm2⟩ := HMU.out w1 z1 hr1
  obtain ⟨_, _, y2, y3, _, _⟩ := hr1.cells
  obtain ⟨_, _, y4, _⟩ := HC.out _ ha1
  rw [HV.out] at y2
  have ha2 : Away (ownD p gl gn V) w w2 := mt_away (away_drew1 ha1) hm2 own_n
  have HS2 : Hid (w2.cell? ⟨b0, 0, none⟩ = some (.pointer (some ⟨p, 0, none⟩)) ∧ w2.cell? ⟨p, 3, none⟩ = some (.map (some gn)) ∧ w2.cell? ⟨b2, 0, none⟩ = some (.int .i64 (i : Int)) ∧ w2.cell? ⟨p, 2, none⟩ = some (.slice A' s.pend.length c')) :=
    ⟨(HC.out _ ha2).1, (World.cell?_of_block (mt_other hm2 hr1.a1.2.1)).trans y3, (HC.out _ ha2).2.2.1, (World.cell?_of_block (mt_other hm2 hr1.a1.2.1)).trans y2⟩
  have HR1 := Lib.hid (And.intro hr1 (And.intro ho2 hm2))
  have HA := Lib.hid (And.intro ha1 ha2)
  have HS2V : Hid (w2.cell? ⟨p, 2, none⟩ = some V) := by unfold Hid; rw [HV.out]; exact HS2.out.2.2.2
  clear hr1 ho2 hm2 ha1 ha2 HMU HSP HH
  go_region_held3 (fun W => W.cell? ⟨b0, 0, none⟩ = some (.pointer (some ⟨p, 0, none⟩)) ∧ W.cell? ⟨p, 3, none⟩ = some (.map (some gn)) ∧ W.cell? ⟨b2, 0, none⟩ = some (.int .i64 (i : Int)) ∧ W.cell? ⟨p, 2, none⟩ = some (.slice A' s.pend.length c'))
    (first
      | exact ⟨y0, y3, y4, y2⟩
      | exact HS2.out)
    (first | fail)
  obtain ⟨T, hT⟩ : ∃ T, T = BA t := ⟨_, rfl⟩
  have hTs : T.size = 64 := by rw [hT, BA_size, hl]
  obtain ⟨C, hC⟩ : ∃ C, C = (T.toList ++ [Value.int .i64 (i : Int)]).toArray := ⟨_, rfl⟩
  have hCw : Hid (C = (wrV (i, t)).toArray) := by unfold Hid wrV; rw [hC, hT]
  have HBD := Lib.hid (fun W => buildW (i : Int) hTs hC W)
  have hCs : C.size = 65 := by rw [hC]; simp [hTs]
  have HSL := Lib.hid (fun W => sliceW hCs W)
  have hu := Tryz.und64
  have hinL : (Tryz.prog.info? 103).map (·.size) = some T.toList.length := by rw [Array.length_toList, hTs]; exact Tryz.infS
  have HS5 : Hid (∀ W, Away (ownD p gl gn V) w W → W.cell? ⟨b0, 0, none⟩ = some (.pointer (some ⟨p, 0, none⟩)) ∧ W.cell? ⟨b1, 0, none⟩ = some (.slice (some ⟨b, o, none⟩) 64 c) ∧ W.cell? ⟨b2, 0, none⟩ = some (.int .i64 (i : Int)) ∧ W.rangeAt b o T.toList) := by rw [hT]; exact HC.out
  have HA5 := Lib.hid (away_drew1 HA.out.2)
  have harr : ∀ W : World, (Instr.arrayAt 103 (.slice (some ⟨b, o, none⟩) 64 c)).run Tryz.prog W = .ok (.pointer (some ⟨b, o, none⟩)) W := fun W => by simp [Instr.arrayAt, run_underlying hu]
  clear hT hC y0 y2 y3 y4 hmu
  -- the facts behind the slice
  have hV2 := HV.out
  obtain ⟨hr1, ho2, hm2⟩ := HR1.out
  have hw1s : w1.heap.size ≤ w2.heap.size := by
    obtain ⟨es, clock, es', clock', hb', rfl⟩ := hm2
    simp [ChangeMaps.setBlock]
  obtain ⟨W3, hW3⟩ : ∃ W3, W3 = w2.drew.alloc (.cells C 105) := ⟨_, rfl⟩
  have HW3 := Lib.hid hW3
  have hb3 : Below w2.heap.size w2 W3 := by rw [hW3]; exact (Below.refl w2.heap.size w2).drew.alloc (Nat.le_refl _) _
  have HA6 : Hid (Away (ownD p gl gn V) w (w2.drew.alloc (.cells C 105))) := al_away HA5.out _
  have HA6b : Hid (Away (ownD p gl gn V) w W3) := by rw [hW3]; exact HA6.out
  have k3 : ∀ b', b' < w1.heap.size → b' ≠ gn → W3.heap[b']? = w1.heap[b']? := fun b' q1 q2 => (hb3.block b' (Nat.lt_of_lt_of_le q1 hw1s)).trans (mt_other (w := w1.drew) hm2 q2)
  have kp := (k3 p (hr1.lt p own_p) hr1.a1.2.1).trans hr1.box
  have HPD : Hid (W3.ownsRow 0 105 65 (.slice A' s.pend.length c') s.pend.length (pendC s.pend)) := by
    rw [← hV2]
    exact own_same hr1.pend (fun g e => k3 g (hr1.pend.lt g e).2 (fun e2 => hr1.a2.2.2 (e2 ▸ e)))
  have y2 : w2.drew.cell? ⟨p, 2, none⟩ = some (.slice A' s.pend.length c') := by rw [← hV2]; exact HS2V.out
  have y3 : W3.cell? ⟨p, 2, none⟩ = some (.slice A' s.pend.length c') := by rw [← hV2]; exact cell_of_row _ _ _ _ _ _ kp
  have HCl : Hid (C.toList.length = 1 * 65) := by unfold Hid; rw [Array.length_toList, hCs]
  have HCN : Hid (∀ (j : Nat) (u : Value), C.toList[j]? = some u → W3.cell? ((⟨w2.heap.size, 0, none⟩ : Addr).add j) = some u) := fun j u hj => by
    have hg : W3.heap[w2.heap.size]? = some (.cells C 105 (0, 0)) := by rw [hW3]; exact heap_alloc_new w2.drew _
    rw [Addr.add_mid, cell_of_row _ _ _ _ _ _ hg, Nat.zero_add, ← Array.getElem?_toList]; exact hj
  have HC1 : Hid (∀ u ∈ C.toList, u.oneCell' = true) := fun u hu => by
    have h1 := wrV_one (i, t)
    rw [← hCw.out, Array.all_eq_true_iff_forall_mem] at h1
    exact h1 u (by simpa using hu)
  have HG : Hid (∀ w7, W3.grownBy w7 (Value.ownBlock (.slice A' s.pend.length c')) → Away (ownD p gl gn V) w w7) := fun w7 hg => by
    rw [← hV2] at hg
    exact ⟨hg.os.trans HA6b.out.os, hg.tape.trans HA6b.out.tape, hg.output.trans HA6b.out.output, Nat.le_trans HA6b.out.size hg.size, fun k k1 k2 => (hg.block k (Nat.lt_of_lt_of_le k1 HA6b.out.size) (fun e => k2 (.inr (.inr (.inr e.symm))))).trans (HA6b.out.block k k1 k2)⟩
  have HQ : Hid (∀ w7, W3.grownBy w7 (Value.ownBlock (.slice A' s.pend.length c')) → w7.cell? ⟨p, 2, none⟩ = some (.slice A' s.pend.length c') ∧ w7.frozen? ⟨p, 2, none⟩ = false) := fun w7 hg => by
    rw [← hV2] at hg ⊢
    have hc := (hg.block p (Array.getElem?_eq_some_iff.1 kp).1 (fun e => hr1.a2.1 e.symm)).trans kp
    exact ⟨cell_of_row _ _ _ _ _ _ hc, frozen_of_row _ _ _ _ _ hc⟩
  have HE : Hid (∀ g7 c7 w7, w7.ownsRow 0 105 65 (.slice (some ⟨g7, 0, none⟩) (s.pend.length + 1) c7) (s.pend.length + 1) (pendC s.pend ++ C.toList) → W3.grownBy w7 (Value.ownBlock (.slice A' s.pend.length c')) → (Value.ownBlock (.slice A' s.pend.length c') = some g7 ∨ g7 = W3.heap.size) →
      ((∃ V' z' DN', DiskIn (w7.setCell ⟨p, 2, none⟩ (.slice (some ⟨g7, 0, none⟩) (s.pend.length + 1) c7)) p gl gn V' z' DL DN' ⟨s.last, s.pend ++ [(i, t)], (spendS s).lim, false⟩ ∧ (V.ownBlock = V'.ownBlock ∨ ∃ g, V'.ownBlock = some g ∧ w.heap.size ≤ g)) ∧ Away (ownD p gl gn V) w (w7.setCell ⟨p, 2, none⟩ (.slice (some ⟨g7, 0, none⟩) (s.pend.length + 1) c7)))) := fun g7 c7 w7 q1 q2 q3 => by
    have qa := (HG.out w7 q2).set own_p 2 (.slice (some ⟨g7, 0, none⟩) (s.pend.length + 1) c7)
    rw [hCw.out] at q1
    rw [← hV2] at q2 q3
    refine ⟨⟨_, _, _, (hr1.keep (w' := w1.drew) (fun _ _ => rfl)).push hi hsec ho2 hm2 hb3 q2 q1 (q3.imp (fun e => e) (fun e => ⟨g7, rfl, by rw [e]; exact Nat.le_refl _⟩)), q3.imp (fun e => e) (fun e => ⟨g7, rfl, by rw [e]; exact HA6b.out.size⟩)⟩, qa⟩
  obtain ⟨i0, hif, hz0, hz1, hz2⟩ := info_parts Tryz.infoWb
  have HZs : Hid ((Value.agg (wrV (0, zeroSec)).toArray).cells.size = 65) := rfl
  clear hr1 ho2 hm2 hw1s hW3 hb3 k3 kp hV2 hCs
  go_wp2_with fail
  refine wp_region_held_drew (S := (fun W => W.cell? ⟨b0, 0, none⟩ = some (.pointer (some ⟨p, 0, none⟩)) ∧ W.cell? ⟨b1, 0, none⟩ = some (.slice (some ⟨b, o, none⟩) 64 c) ∧ W.cell? ⟨b2, 0, none⟩ = some (.int .i64 (i : Int)) ∧ W.rangeAt b o T.toList)) (by kernel_rfl) (HS5.out _ HA5.out) (fun hHeld => ?_)
  refine wpAnyH_take (i := 0) (oi := _) (v := ?_) rfl (by kernel_rfl) (by kernel_rfl) (by kernel_rfl) (fun _ _ _ h => h) (Or.inl ⟨by rfl, ?_⟩) (by assumption) ?_
  rotate_left 1
  · intro w hSw; (try dsimp only at hSw); (try obtain ⟨m0, m1, m2, m3⟩ := hSw); first | (go_simp; done) | (go_simp; with_reducible rfl)
  change wpAnyH _ _ _ _ _ _ _ (Act.put _ (some 29) _) _
  (try simp only [Act.put, List.setIfInBounds_toArray, List.set_cons_zero, List.set_cons_succ])
  refine wpAnyH_take (i := 1) (oi := _) (v := ?_) rfl (by kernel_rfl) (by kernel_rfl) (by kernel_rfl) (fun _ _ _ h => h) (Or.inl ⟨by rfl, ?_⟩) (by assumption) ?_
  rotate_left 1
  · intro w hSw; (try dsimp only at hSw); (try obtain ⟨m0, m1, m2, m3⟩ := hSw); first | (go_simp; done) | (go_simp; with_reducible rfl)
  change wpAnyH _ _ _ _ _ _ _ (Act.put _ (some 30) _) _
  (try simp only [Act.put, List.setIfInBounds_toArray, List.set_cons_zero, List.set_cons_succ])
  refine wpAnyH_take (i := 2) (oi := _) (v := ?_) rfl (by kernel_rfl) (by kernel_rfl) (by kernel_rfl) (fun _ _ _ h => h) (Or.inl ⟨by rfl, ?_⟩) (by assumption) ?_
  rotate_left 1
  · intro w hSw; (try dsimp only at hSw); (try obtain ⟨m0, m1, m2, m3⟩ := hSw); first | (go_simp; done) | (go_simp; with_reducible rfl)
  change wpAnyH _ _ _ _ _ _ _ (Act.put _ (some 31) _) _
  (try simp only [Act.put, List.setIfInBounds_toArray, List.set_cons_zero, List.set_cons_succ])
  refine wpAnyH_take (i := 3) (oi := _) (v := ?_) rfl (by kernel_rfl) (by kernel_rfl) (by kernel_rfl) (fun _ _ _ h => h) (Or.inl ⟨by rfl, ?_⟩) (by assumption) ?_
  rotate_left 1
  · intro w hSw; (try dsimp only at hSw); (try obtain ⟨m0, m1, m2, m3⟩ := hSw); first | (go_simp; done) | (go_simp; with_reducible rfl)
  change wpAnyH _ _ _ _ _ _ _ (Act.put _ (some 32) _) _
  (try simp only [Act.put, List.setIfInBounds_toArray, List.set_cons_zero, List.set_cons_succ])
  refine wpAnyH_take (i := 5) (oi := _) (v := ?_) rfl (by kernel_rfl) (by kernel_rfl) (by kernel_rfl) (fun _ _ _ h => h) (Or.inl ⟨by rfl, ?_⟩) (by assumption) ?_
  rotate_left 1
  · intro w hSw; (try dsimp only at hSw); (try obtain ⟨m0, m1, m2, m3⟩ := hSw); first | (go_simp; done) | (go_simp; with_reducible rfl)
  change wpAnyH _ _ _ _ _ _ _ (Act.put _ (some 34) _) _
  (try simp only [Act.put, List.setIfInBounds_toArray, List.set_cons_zero, List.set_cons_succ])
  refine wpAnyH_take (i := 6) (oi := _) (v := ?_) rfl (by kernel_rfl) (by kernel_rfl) (by kernel_rfl) (fun _ _ _ h => h) (Or.inl ⟨by rfl, ?_⟩) (by assumption) ?_
  rotate_left 1
  · intro w hSw; (try dsimp only at hSw); (try obtain ⟨m0, m1, m2, m3⟩ := hSw); first | (go_simp; done) | (go_simp; with_reducible rfl)
  change wpAnyH _ _ _ _ _ _ _ (Act.put _ (some 35) _) _
  (try simp only [Act.put, List.setIfInBounds_toArray, List.set_cons_zero, List.set_cons_succ])
  refine wpAnyH_take (i := 7) (oi := _) rfl (by kernel_rfl) (by kernel_rfl) (by kernel_rfl) (fun _ _ _ h => h) (yieldsIf_load_mid (by rfl) 103 _ rfl b o rfl T.toList _ (fun W hW => hW.2.2.2) hu rfl hinL) (by assumption) ?_
  change wpAnyH _ _ _ _ _ _ _ (Act.put _ (some 36) _) _
  (try simp only [Act.put, List.setIfInBounds_toArray, List.set_cons_zero, List.set_cons_succ])
  refine wpAnyH_take (i := 8) (oi := _) (v := ?_) rfl (by kernel_rfl) (by kernel_rfl) (by kernel_rfl) (fun _ _ _ h => h) (Or.inl ⟨by rfl, ?_⟩) (by assumption) ?_
  rotate_left 1
  · intro w hSw; (try dsimp only at hSw); (try obtain ⟨m0, m1, m2, m3⟩ := hSw); first | (go_simp; done) | (go_simp; with_reducible rfl)
  change wpAnyH _ _ _ _ _ _ _ (Act.put _ (some 37) _) _
  (try simp only [Act.put, List.setIfInBounds_toArray, List.set_cons_zero, List.set_cons_succ])
  refine wpAnyH_take (i := 9) (oi := _) rfl (by kernel_rfl) (by kernel_rfl) (by kernel_rfl) (fun _ _ _ h => h) (yields_build (by rfl) 105 #[(0, Operand.tmp 36), (1, Operand.tmp 37)] rfl #[(0, .agg T), (1, .int .i64 (i : Int))] (by simp; exact ⟨rfl, rfl⟩) C HBD.out) (by assumption) ?_
  change wpAnyH _ _ _ _ _ _ _ (Act.put _ (some 38) _) _
  (try simp only [Act.put, List.setIfInBounds_toArray, List.set_cons_zero, List.set_cons_succ])
  refine wpAnyH_ready (rs := [4, 10]) (by kernel_rfl) (by simp) ?_
  refine AllReadyH.cons (o := _) rfl (fun K hK => ?_) (AllReadyH.cons (o := _) rfl (fun K hK => ?_) (AllReadyH.nil))
  · go_simp
    refine hK.out _ _ (HS5.out _ (HA5.out)) (fun hHeld4 => ?_)
    (try simp only [Act.put, List.setIfInBounds_toArray, List.set_cons_zero, List.set_cons_succ])
    clear hK K
    refine wpAnyH_ready (rs := [10]) (by kernel_rfl) (by simp) ?_
    refine AllReadyH.cons (o := _) rfl (fun K hK => ?_) (AllReadyH.nil)
    refine step_buildSlice (by rfl) 60 1 #[(0, Operand.tmp 38)] rfl #[(0, .agg C)] (by simp; rfl) _ _ (HSL.out w2.drew) ?_
    refine hK.out _ _ (HS5.out _ (HA6.out)) (fun hHeld10 => ?_)
    change wpAnyH _ _ _ _ _ _ _ (Act.put _ (some 39) _) _
    (try simp only [Act.put, List.setIfInBounds_toArray, List.set_cons_zero, List.set_cons_succ])
    clear hK K
    rw [← HW3.out]
    refine wpAnyH_ready (rs := [11]) (by kernel_rfl) (by simp) ?_
    refine AllReadyH.cons (o := _) rfl (fun K hK => ?_) (AllReadyH.nil)
    refine step_append_lies _ rfl _ _ 60 rfl 0 105 i0 (.agg (wrV (0, zeroSec)).toArray) 65 72 Tryz.underlying60 hif hz0 hz1 hz2 HZs.out (by decide) (.slice A' s.pend.length c') s.pend.length (pendC s.pend) rfl HPD.out ⟨w2.heap.size, 0, none⟩ 1 1 C.toList rfl HCl.out HCN.out HC1.out (by decide) (by unfold maxLen; omega) (by omega) (Nat.zero_le _) W3.heap.size rfl ?_
    intro g7 c7 w7 hown7 hg7 hl7 _
    refine hK.out _ _ (HS5.out _ (HG.out _ hg7)) (fun hHeld11 => ?_)
    change wpAnyH _ _ _ _ _ _ _ (Act.put _ (some 40) _) _
    (try simp only [Act.put, List.setIfInBounds_toArray, List.set_cons_zero, List.set_cons_succ])
    clear hK K
    refine wpAnyH_take (i := 12) (oi := _) (v := ?_) rfl (by kernel_rfl) (by kernel_rfl) (by kernel_rfl) (fun _ _ _ h => h) (Or.inl ⟨by rfl, ?_⟩) (by assumption) ?_
    rotate_left 1
    · intro w hSw; (try dsimp only at hSw); (try obtain ⟨m0, m1, m2, m3⟩ := hSw); first | (go_simp; done) | (go_simp; with_reducible rfl)
    change wpAnyH _ _ _ _ _ _ _ (Act.put _ (some 41) _) _
    (try simp only [Act.put, List.setIfInBounds_toArray, List.set_cons_zero, List.set_cons_succ])
    refine wpAnyH_take (i := 13) (oi := _) (v := ?_) rfl (by kernel_rfl) (by kernel_rfl) (by kernel_rfl) (fun _ _ _ h => h) (Or.inl ⟨by rfl, ?_⟩) (by assumption) ?_
    rotate_left 1
    · intro w hSw; (try dsimp only at hSw); (try obtain ⟨m0, m1, m2, m3⟩ := hSw); first | (go_simp; done) | (go_simp; with_reducible rfl)
    change wpAnyH _ _ _ _ _ _ _ (Act.put _ (some 42) _) _
    (try simp only [Act.put, List.setIfInBounds_toArray, List.set_cons_zero, List.set_cons_succ])
    refine wpAnyH_ready (rs := [14]) (by kernel_rfl) (by simp) ?_
    refine AllReadyH.cons (o := _) rfl (fun K hK => ?_) (AllReadyH.nil)
    have y7 := (HQ.out _ hg7).1
    have y8 := (HQ.out _ hg7).2
    go_simp
    refine hK.out _ _ (HS5.out _ ((HG.out _ hg7).set own_p _ _)) (fun hHeld14 => ?_)
    (try simp only [Act.put, List.setIfInBounds_toArray, List.set_cons_zero, List.set_cons_succ])
    clear hK K
    refine wpAnyH_done (by kernel_rfl) ?_ _
    exact bodyPost_end (results_none rfl _ _ _) rfl ⟨rfl, HE.out _ _ _ hown7 hg7 hl7⟩
  · refine step_buildSlice (by rfl) 60 1 #[(0, Operand.tmp 38)] rfl #[(0, .agg C)] (by simp; rfl) _ _ (HSL.out w2.drew) ?_
    refine hK.out _ _ (HS5.out _ (HA6.out)) (fun hHeld10 => ?_)
    change wpAnyH _ _ _ _ _ _ _ (Act.put _ (some 39) _) _
    (try simp only [Act.put, List.setIfInBounds_toArray, List.set_cons_zero, List.set_cons_succ])
    clear hK K
    rw [← HW3.out]
    refine wpAnyH_ready (rs := [4]) (by kernel_rfl) (by simp) ?_
    refine AllReadyH.cons (o := _) rfl (fun K hK => ?_) (AllReadyH.nil)
    go_simp
    refine hK.out _ _ (HS5.out _ (HA6b.out)) (fun hHeld4 => ?_)
    (try simp only [Act.put, List.setIfInBounds_toArray, List.set_cons_zero, List.set_cons_succ])
    clear hK K
    refine wpAnyH_ready (rs := [11]) (by kernel_rfl) (by simp) ?_
    refine AllReadyH.cons (o := _) rfl (fun K hK => ?_) (AllReadyH.nil)
    refine step_append_lies _ rfl _ _ 60 rfl 0 105 i0 (.agg (wrV (0, zeroSec)).toArray) 65 72 Tryz.underlying60 hif hz0 hz1 hz2 HZs.out (by decide) (.slice A' s.pend.length c') s.pend.length (pendC s.pend) rfl HPD.out ⟨w2.heap.size, 0, none⟩ 1 1 C.toList rfl HCl.out HCN.out HC1.out (by decide) (by unfold maxLen; omega) (by omega) (Nat.zero_le _) W3.heap.size rfl ?_
    intro g7 c7 w7 hown7 hg7 hl7 _
    refine hK.out _ _ (HS5.out _ (HG.out _ hg7)) (fun hHeld11 => ?_)
    change wpAnyH _ _ _ _ _ _ _ (Act.put _ (some 40) _) _
    (try simp only [Act.put, List.setIfInBounds_toArray, List.set_cons_zero, List.set_cons_succ])
    clear hK K
    refine wpAnyH_take (i := 12) (oi := _) (v := ?_) rfl (by kernel_rfl) (by kernel_rfl) (by kernel_rfl) (fun _ _ _ h => h) (Or.inl ⟨by rfl, ?_⟩) (by assumption) ?_
    rotate_left 1
    · intro w hSw; (try dsimp only at hSw); (try obtain ⟨m0, m1, m2, m3⟩ := hSw); first | (go_simp; done) | (go_simp; with_reducible rfl)
    change wpAnyH _ _ _ _ _ _ _ (Act.put _ (some 41) _) _
    (try simp only [Act.put, List.setIfInBounds_toArray, List.set_cons_zero, List.set_cons_succ])
    refine wpAnyH_take (i := 13) (oi := _) (v := ?_) rfl (by kernel_rfl) (by kernel_rfl) (by kernel_rfl) (fun _ _ _ h => h) (Or.inl ⟨by rfl, ?_⟩) (by assumption) ?_
    rotate_left 1
    · intro w hSw; (try dsimp only at hSw); (try obtain ⟨m0, m1, m2, m3⟩ := hSw); first | (go_simp; done) | (go_simp; with_reducible rfl)
    change wpAnyH _ _ _ _ _ _ _ (Act.put _ (some 42) _) _
    (try simp only [Act.put, List.setIfInBounds_toArray, List.set_cons_zero, List.set_cons_succ])
    refine wpAnyH_ready (rs := [14]) (by kernel_rfl) (by simp) ?_
    refine AllReadyH.cons (o := _) rfl (fun K hK => ?_) (AllReadyH.nil)
    have y7 := (HQ.out _ hg7).1
    have y8 := (HQ.out _ hg7).2
    go_simp
    refine hK.out _ _ (HS5.out _ ((HG.out _ hg7).set own_p _ _)) (fun hHeld14 => ?_)
    (try simp only [Act.put, List.setIfInBounds_toArray, List.set_cons_zero, List.set_cons_succ])
    clear hK K
    refine wpAnyH_done (by kernel_rfl) ?_ _
    exact bodyPost_end (results_none rfl _ _ _) rfl ⟨rfl, HE.out _ _ _ hown7 hg7 hl7⟩
end

end Go.Proofs.YtbnhkplhmanmoaaGreat
