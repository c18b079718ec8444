/-
  The law LineCuts as a walk, from what is asked of the layer line.
-/
import Derived.Test.YtbfchclfonicmaaLineTurned
import Derived.Test.YtbfchclfonicmaaLineCutN
import Derived.Test.YtbfchclfonicmaaLineCutR
namespace Go.Proofs.Ytbfchclfonicmaa
open Go.RowKit

theorem Try.infoSec : (Try.prog.info? 26).map (fun i => (i.zero, i.size, i.bytes)) = some (some (.slice none 0 0), 1, 24) := by kernel_rfl
theorem Try.infoEnd : (Try.prog.info? 3).map (fun i => (i.zero, i.size, i.bytes)) = some (some (.int .i64 0), 1, 8) := by kernel_rfl
/-- The transactions' slices, as they came in. -/
def WholeV (w : World) (Vw : List Value) (whole : List (List Rc)) : Prop := Vw.length = whole.length ∧ ∀ i, (h : i < whole.length) → ∃ Ai ci, Vw[i]? = some (.slice Ai whole[i].length ci) ∧ whole[i].length ≤ ci ∧ RecsAt w w.heap.size Ai whole[i]
theorem wholeV_more {w : World} {Vw : List Value} {whole : List (List Rc)} (h : WholeV w Vw whole) {A : Option Addr} {c : Nat} {t : List Rc} (hc : t.length ≤ c) (hr : RecsAt w w.heap.size A t) : WholeV w (Vw ++ [.slice A t.length c]) (whole ++ [t]) := by
  refine ⟨by rw [List.length_append, List.length_append, h.1]; rfl, fun i hi => ?_⟩
  by_cases hi2 : i < whole.length
  · obtain ⟨Ai, ci, e1, e2, e3⟩ := h.2 i hi2
    rw [List.getElem?_append_left (by rw [h.1]; exact hi2), List.getElem_append_left hi2]
    exact ⟨Ai, ci, e1, e2, e3⟩
  · have hi3 : i = whole.length := by rw [List.length_append] at hi; simp at hi; omega
    subst hi3
    rw [List.getElem?_append_right (by rw [h.1]; exact Nat.le_refl _), List.getElem_append_right (Nat.le_refl _)]
    refine ⟨A, c, by simp [h.1], ?_, ?_⟩
    · simp only [Nat.sub_self, List.getElem_cons_zero]; exact hc
    · simp only [Nat.sub_self, List.getElem_cons_zero]; exact hr
theorem trans_of_whole {ts tw te : TypeId} {w wr : World} {vs ve : Value} {ps : List Sec} {Vw : List Value} {es : List Int} {whole : List (List Rc)} {A : Option Addr} {n c : Nat} (h : CutS ts tw te w wr vs (.slice A n c) ve ps Vw es) (hn : n = Vw.length) (hV : WholeV w Vw whole) : TransAt wr wr.heap.size A whole := fun i hi => by
  subst hn
  obtain ⟨Ai, ci, e1, e2, e3⟩ := hV.2 i hi
  obtain ⟨g, cap, hv, _, hlt⟩ := h.rw.form (by have := hV.1; omega)
  injection hv with hA _ _
  subst hA
  have hx := h.rw.cells (g := g) rfl i _ e1
  have hadd : (⟨g, 0, none⟩ : Addr).add i = ⟨g, 0 + i, none⟩ := by unfold Addr.add; split <;> simp_all
  rw [hadd] at hx
  exact ⟨g, 0, Ai, ci, rfl, hlt, hx, e2, (e3.below h.below).more h.below.size⟩

set_option maxHeartbeats 3200000 in
set_option maxRecDepth 20000 in
/-- LineCuts. -/
theorem lineCuts_go (A : Option Addr) (c : Nat) (ts : List (List Rc)) (g cut : Nat) (w : World) (HS : LineSpec w) (h : TransAt w w.heap.size A ts) (hok : ∀ t ∈ ts, ∀ r ∈ t, r.ok) (hm : ts.length * 24 ≤ 140737488351232) (hml : ∀ t ∈ ts, t.length * 56 ≤ 140737488351232) (hg : g < 65536) (hcut : cut < 65536) :
    Calls Try.prog 8 #[.slice A ts.length c, .int .u16 (g : Int), .int .u16 (cut : Int)] w fun e w' => e = .returned (.bool true) ∧ Below w.heap.size w w' := by
  obtain ⟨i1, hf1, hz10, hz11, hz12⟩ := info_parts Try.infoSec
  obtain ⟨i2, hf2, hz20, hz21, hz22⟩ := info_parts Try.infoTrans
  obtain ⟨i3, hf3, hz30, hz31, hz32⟩ := info_parts Try.infoEnd
  have HA := Lib.hid (fun W (hb : Below w.heap.size w W) => lineAwake HS W hb)
  have HSP := Lib.hid HS
  have HI := Lib.hid h
  have HOK : Hid (∀ i, (h : i < ts.length) → ∀ r ∈ ts[i], r.ok) := fun i h r hr => hok _ (List.getElem_mem h) r hr
  have HML : Hid (∀ i, (h : i < ts.length) → ts[i].length * 56 ≤ 140737488351232) := fun i h => hml _ (List.getElem_mem h)
  obtain ⟨N, hN⟩ : ∃ N, N = ts.length := ⟨_, rfl⟩
  have HN := Lib.hid hN
  rw [← hN] at hm ⊢
  have HST : Hid (CutS 26 45 3 w (((w.alloc (.cells #[] 26)).alloc (.cells #[] 45)).alloc (.cells #[] 3)) (.slice (some ⟨w.heap.size, 0, none⟩) 0 0) (.slice (some ⟨w.heap.size + 1, 0, none⟩) 0 0) (.slice (some ⟨w.heap.size + 2, 0, none⟩) 0 0) [] [] []) := by
    refine CutS.start _ _ _ w _ _ _ (by omega) (by omega) (by omega) ((((Below.refl _ _).alloc (Nat.le_refl _) _).alloc (by simp) _).alloc (by simp; omega) _) (Nat.le_refl _) (by omega) (by omega) ?_ ?_ ?_
    · rw [Below.heap_alloc _ _ _ (by simp; omega), Below.heap_alloc _ _ _ (by simp)]; exact heap_alloc_new _ _
    · rw [Below.heap_alloc _ _ _ (by simp)]
      have := heap_alloc_new (w.alloc (.cells #[] 26)) (.cells #[] 45)
      rwa [show (w.alloc (.cells #[] 26)).heap.size = w.heap.size + 1 by simp] at this
    · have := heap_alloc_new ((w.alloc (.cells #[] 26)).alloc (.cells #[] 45)) (.cells #[] 3)
      rwa [show ((w.alloc (.cells #[] 26)).alloc (.cells #[] 45)).heap.size = w.heap.size + 2 by simp] at this
  clear HS h hok hml hN
  go_enter Try.func8, Try.ntmps8
  go_wp2
  go_loopw [7, 8, 9, 10] (fun vs vw ve i wr => ∃ (m : Nat) (ps : List Sec) (Vw : List Value) (whole : List (List Rc)) (ends : List Nat), m ≤ N ∧ i = .int .i64 m ∧ (∃ A c, vs = .slice A ps.length c) ∧ (∃ A c, vw = .slice A Vw.length c) ∧ (∃ A c, ve = .slice A ends.length c) ∧ ps.length ≤ 2147483648 ∧
      Hid (CutS 26 45 3 w wr vs vw ve ps Vw (ends.map fun n : Nat => (n : Int))) ∧ Hid (CutSt (g : Int) (secsB ps) whole ends []) ∧ Hid (WholeV w Vw whole)) (fun _ _ _ i _ => N - (intOf i).toNat)
  case atStart =>
    exact ⟨0, [], [], [], [], Nat.zero_le _, rfl, ⟨_, _, rfl⟩, ⟨_, _, rfl⟩, ⟨_, _, rfl⟩, Nat.zero_le _, HST.out, cutSt_none _, rfl, fun i hi => absurd hi (Nat.not_lt_zero i)⟩
  case round =>
    obtain ⟨m, ps, Vw, whole, ends, hmN, rfl, ⟨As, cs, rfl⟩, ⟨Aw, cw, rfl⟩, ⟨Ae, ce, rfl⟩, hps, hC, hP, hW⟩ := hrel
    clear HST
    by_cases hgo : m < N ∧ ps.length < 300
    · obtain ⟨hlt, hl300⟩ := hgo
      have hmt : m < ts.length := by have := HN.out; omega
      obtain ⟨b, off, B, d, rfl, hbb, hcell, hd, hrec⟩ := HI.out m hmt
      have HROK := Lib.hid (HOK.out m hmt)
      have hmlt := HML.out m hmt
      have k1 : (m : Int) < (N : Int) := by omega
      have k0 : (0 : Int) ≤ (m : Int) := by omega
      have k3 : (ps.length : Int) < 300 := by omega
      have HCELL : Hid (∀ W, Below w.heap.size w W → W.cell? ⟨b, off + m, none⟩ = some (.slice B ts[m].length d)) := fun W hb => (hb.cell (p := ⟨b, off + m, none⟩) hbb).trans hcell
      have HREC := Lib.hid hrec
      have HSTART : Hid (CutIn g (secsB ps) whole ends ts[m] 0) := CutIn.start hP.out
      obtain ⟨t, ht⟩ : ∃ t, t = ts[m] := ⟨_, rfl⟩
      simp only [← ht] at HROK HCELL HREC HSTART
      rw [← ht] at hd hmlt
      obtain ⟨M, hM⟩ : ∃ M, M = t.length := ⟨_, rfl⟩
      have HM := Lib.hid hM
      simp only [← hM] at HCELL
      rw [← hM] at hd hmlt
      have hc0 := HCELL.out wr hC.out.below
      have HWL := Lib.hid hW.out.1
      clear hcell hrec ht hM hP
      obtain ⟨wo, hwo⟩ : ∃ x, x = wr := ⟨_, rfl⟩
      subst hwo
      go_wp2
      go_loopw [7, 11] (fun vs k wi => ∃ (j : Nat) (ps' : List Sec), j ≤ M ∧ k = .int .i64 j ∧ (∃ A c, vs = .slice A ps'.length c) ∧ ps'.length ≤ 2147483648 ∧ Hid (CutS 26 45 3 w wi vs (.slice Aw Vw.length cw) (.slice Ae ends.length ce) ps' Vw (ends.map fun n : Nat => (n : Int))) ∧ Hid (CutIn g (secsB ps') whole ends t j)) (fun _ k _ => M - (intOf k).toNat)
      case atStart => exact ⟨0, ps, Nat.zero_le _, rfl, ⟨As, cs, rfl⟩, hps, hC.out, HSTART.out⟩
      case round =>
        obtain ⟨j, ps', hjM, rfl, ⟨A2, c2, rfl⟩, hps', hC', hIn⟩ := hrel
        have hc1 := HCELL.out wr hC'.out.below
        by_cases hjl : j < M
        · have hjt : j < t.length := by have := HM.out; omega
          obtain ⟨gb, go, rfl, hgbl, q0, q1, q2, q3, q4, q5⟩ := HREC.out j hjt
          have hbw := hC'.out.below
          have hrok := HROK.out _ (List.getElem_mem hjt)
          have hlok : (lnOf g (secsB ps').length t j t[j]).ok := ⟨by unfold lnOf I64n; simp only; omega, by unfold lnOf I64n; simp only; rw [secsB_len]; omega, hrok⟩
          have hnext := hIn.out.next hjt
          have HENC := Lib.hid (fun W (hb : Below w.heap.size w W) (hE : encE (lnOf g (secsB ps').length t j t[j]) = 0) => HSP.out.enc _ W hb hlok hE)
          have HENO := Lib.hid (fun W (hb : Below w.heap.size w W) (hE : encE (lnOf g (secsB ps').length t j t[j]) ≠ 0) => HSP.out.encNo _ W hb hlok hE)
          have HSMALL : Hid (encE (lnOf g (secsB ps').length t j t[j]) = 0 → ps'.length ≤ 2147483647) := fun hE => by
            have := ((rangeL_iff _).1 (encE_zero.1 hE).1).2.1.2
            unfold lnOf at this
            simp only [secsB_len] at this
            omega
          have hlv : lnV (lnOf g (secsB ps').length t j t[j]) = #[.int .i64 (g : Int), .int .i64 (ps'.length : Int), .bool (decide (j + 1 = M)), .int .i64 t[j].k, .int .i64 t[j].a, .int .i64 t[j].b, .int .i64 t[j].c, .int .i64 t[j].d, .string t[j].key] := by
            rw [HM.out, ← secsB_len ps']; rfl
          rw [hlv] at HENC HENO
          obtain ⟨LN, hLN⟩ : ∃ l, l = lnOf g (secsB ps').length t j t[j] := ⟨_, rfl⟩
          rw [← hLN] at hnext HENC HENO HSMALL
          obtain ⟨⟨rk, ra, rb, rc, rd, rs⟩, hR⟩ : ∃ r, r = t[j] := ⟨_, rfl⟩
          simp only [← hR] at HENC HENO q0 q1 q2 q3 q4 q5
          have hdec : ((j : Int) == (M : Int) - 1) = decide (j + 1 = M) := by
            rw [Bool.eq_iff_iff, beq_iff_eq, decide_eq_true_eq]; omega
          obtain ⟨LB, hLB⟩ : ∃ b, b = decide (j + 1 = M) := ⟨_, rfl⟩
          rw [← hLB] at HENC HENO hdec
          have hS6 : Hid (∀ W, Below w.heap.size w W → W.cell? ⟨b, off + m, none⟩ = some (.slice (some ⟨gb, go, none⟩) M d) ∧ (W.cell? ⟨gb, go + j * 6, none⟩ = some (.int .i64 rk) ∧ W.cell? ⟨gb, go + j * 6 + 1, none⟩ = some (.int .i64 ra) ∧ W.cell? ⟨gb, go + j * 6 + 2, none⟩ = some (.int .i64 rb) ∧ W.cell? ⟨gb, go + j * 6 + 3, none⟩ = some (.int .i64 rc) ∧ W.cell? ⟨gb, go + j * 6 + 4, none⟩ = some (.int .i64 rd) ∧ W.cell? ⟨gb, go + j * 6 + 5, none⟩ = some (.string rs)) ∧ Below w.heap.size w W) := fun W hb =>
            ⟨HCELL.out W hb, ⟨by rw [Nat.mul_comm j 6]; exact (hb.cell (p := ⟨gb, _, none⟩) hgbl).trans q0, by rw [Nat.mul_comm j 6]; exact (hb.cell (p := ⟨gb, _, none⟩) hgbl).trans q1, by rw [Nat.mul_comm j 6]; exact (hb.cell (p := ⟨gb, _, none⟩) hgbl).trans q2, by rw [Nat.mul_comm j 6]; exact (hb.cell (p := ⟨gb, _, none⟩) hgbl).trans q3, by rw [Nat.mul_comm j 6]; exact (hb.cell (p := ⟨gb, _, none⟩) hgbl).trans q4, by rw [Nat.mul_comm j 6]; exact (hb.cell (p := ⟨gb, _, none⟩) hgbl).trans q5⟩, hb⟩
          have j1 : (j : Int) < (M : Int) := by omega
          have j0 : (0 : Int) ≤ (j : Int) := by omega
          have wM : IntKind.i64.wrap ((M : Int) - 1) = (M : Int) - 1 := IntWalk.i64_in _ (by omega)
          have wg : IntKind.i64.wrap (g : Int) = (g : Int) := IntWalk.i64_in _ (by omega)
          have hbx : Below w.heap.size w wr.drew := hbw.drew
          have HC' := Lib.hid (fun W (hb : Below wr.heap.size wr W) => hC'.out.later hb)
          clear hC' hIn hlok hlv hLN hR hLB q0 q1 q2 q3 q4 q5 hrok
          by_cases hE : encE LN = 0
          · have hel := encB_len hE
            have hp31 := HSMALL.out hE
            have HENC2 := Lib.hid (HENC.out wr.drew hbx hE)
            have hnx := hnext hE
            have HBN := Lib.hid (encB_mem LN)
            have HNX := Lib.hid hnx
            obtain ⟨EB, hEB⟩ : ∃ x, x = encB LN := ⟨_, rfl⟩
            rw [← hEB] at hel HENC2 HNX HBN
            clear HENC HENO HSMALL hnext hE hnx hEB
            go_wp2
            go_region_held3 (fun W => W.cell? ⟨b, off + m, none⟩ = some (.slice (some ⟨gb, go, none⟩) M d) ∧ (W.cell? ⟨gb, go + j * 6, none⟩ = some (.int .i64 rk) ∧ W.cell? ⟨gb, go + j * 6 + 1, none⟩ = some (.int .i64 ra) ∧ W.cell? ⟨gb, go + j * 6 + 2, none⟩ = some (.int .i64 rb) ∧ W.cell? ⟨gb, go + j * 6 + 3, none⟩ = some (.int .i64 rc) ∧ W.cell? ⟨gb, go + j * 6 + 4, none⟩ = some (.int .i64 rd) ∧ W.cell? ⟨gb, go + j * 6 + 5, none⟩ = some (.string rs)) ∧ Below w.heap.size w W)
              (first
                | exact hS6.out _ hbx
                | exact hS6.out _ hby)
              (first
                | (go_at_call 10; with_reducible (refine Calls.mono (HENC2.out) ?_); rintro e w3 ⟨A3, c3, rfl, hc3, hc3', hg3, hb3⟩; have hby := hbx.trans (hb3.mono hbx.size))
                | fail)
            have hbr : Below wr.heap.size wr w3 := (Below.refl wr.heap.size wr).drew.trans hb3
            have hC0 := HC'.out wr (Below.refl _ _)
            have hC3 := HC'.out w3 hbr
            have hba : Below w3.heap.size w3 (w3.alloc (.cells #[.slice A3 64 c3] 26)) := (Below.refl _ _).alloc (Nat.le_refl _) _
            have hC4 := hC3.later hba
            have hOff : SecOff w.heap.size (w3.alloc (.cells #[.slice A3 64 c3] 26)) (.slice A2 ps'.length c2) (.slice Aw Vw.length cw) (.slice Ae ends.length ce) ⟨A3, c3, EB⟩ := by
              have hi3 := hg3.ints
              obtain ⟨g3, o3, e3, k3, k4, _⟩ := hg3
              have k3' : wr.heap.size ≤ g3 := k3
              refine ⟨⟨(hi3.below hba).more hba.size, HBN.out, by show EB.length ≤ c3; omega, by show EB.length ≤ _; omega⟩, g3, o3, e3, Nat.le_trans hC0.below.size k3', Nat.lt_of_lt_of_le k4 hba.size, fun q => ?_, fun q => ?_, fun q => ?_⟩
              · have := (hC0.rs.lt g3 q.symm).2; omega
              · have := (hC0.rw.lt g3 q.symm).2; omega
              · have := (hC0.re.lt g3 q.symm).2; omega
            have HF : Hid (∀ v5 w5, w5.ownsRow w.heap.size 26 1 v5 (ps'.length + 1) (ps'.map secV ++ [.slice A3 64 c3]) → (w3.alloc (.cells #[.slice A3 64 c3] 26)).grownBy w5 (Value.slice A2 ps'.length c2).ownBlock → (v5.ownBlock = (Value.slice A2 ps'.length c2).ownBlock ∨ v5.ownBlock = some (w3.alloc (.cells #[.slice A3 64 c3] 26)).heap.size) →
                CutS 26 45 3 w w5 v5 (.slice Aw Vw.length cw) (.slice Ae ends.length ce) (ps' ++ [⟨A3, c3, EB⟩]) Vw (ends.map fun n : Nat => (n : Int))) := fun v5 w5 h1 h2 h3 => hC4.pushS hOff (by show w5.ownsRow _ _ _ _ _ (ps'.map secV ++ [.slice A3 EB.length c3]); rw [hel]; exact h1) h2 h3
            have hown4 := hC4.rs
            have hsz4 := hC4.below.size
            have HL5 : Hid ((ps' ++ [(⟨A3, c3, EB⟩ : Sec)]).length = ps'.length + 1) := by unfold Hid; simp
            have HNX2 : Hid (CutIn g (secsB (ps' ++ [⟨A3, c3, EB⟩])) whole ends t (j + 1)) := by
              have := HNX.out
              rwa [show secsB ps' ++ [EB] = secsB (ps' ++ [⟨A3, c3, EB⟩]) by simp [secsB]] at this
            clear hC0 hC3 hC4 hOff hg3 hb3 hby hbr hba HC' HNX hbx hS6 HENC2 HBN
            go_wp2_with (at_builtin; refine wpList_append_own_at _ rfl _ _ 39 rfl w.heap.size 26 i1 (.slice none 0 0) 1 24 Try.underlying39 hf1 hz10 hz11 hz12 rfl (by decide) _ _ _ rfl hown4 ⟨w3.heap.size, 0, none⟩ 1 1 [.slice A3 64 c3] rfl rfl (cell_one_new _ _ _) ?d1 ?d2 ?d3 ?d4 ?_)
            case d1 => first | rfl | (intro u hu; simp at hu; subst hu; rfl)
            case d2 => unfold maxLen; omega
            case d3 => omega
            case d4 => first | exact hsz4 | simpa using hsz4
            intro v5 w5 hown5 hg5 _ hob5
            have R5 := Lib.hid (HF.out v5 w5 hown5 hg5 (hob5.imp id fun q => by rw [q]; simp))
            obtain ⟨A5, c5, rfl⟩ := own_sliceN hown5
            clear hown5 hg5 hob5 HF hown4
            go_wp2
            go_roundw
            case rel => first | exact ⟨j + 1, ps' ++ [⟨A3, c3, EB⟩], by omega, by go_num, ⟨A5, c5, by rw [HL5.out]⟩, by rw [HL5.out]; omega, R5, HNX2⟩ | ((repeat apply Exists.intro); exact ⟨⟨j + 1, ps' ++ [⟨A3, c3, EB⟩], by omega, by go_num, ⟨A5, c5, by rw [HL5.out]⟩, by rw [HL5.out]; omega, R5, HNX2⟩, rfl⟩)
            case measure => first | (simp [intOf]; done) | (simp [intOf]; omega)
          · have HENO2 := Lib.hid (HENO.out wr.drew hbx hE)
            obtain ⟨E, hEe⟩ : ∃ E, E = encE LN := ⟨_, rfl⟩
            rw [← hEe] at hE HENO2
            have d1 : (E != 0) = true := by rw [bne_iff_ne]; exact hE
            have d2 : (E == 0) = false := by rw [beq_eq_false_iff_ne]; exact hE
            clear HENC HENO HSMALL hnext hE hEe
            go_wp2
            go_region_held3 (fun W => W.cell? ⟨b, off + m, none⟩ = some (.slice (some ⟨gb, go, none⟩) M d) ∧ (W.cell? ⟨gb, go + j * 6, none⟩ = some (.int .i64 rk) ∧ W.cell? ⟨gb, go + j * 6 + 1, none⟩ = some (.int .i64 ra) ∧ W.cell? ⟨gb, go + j * 6 + 2, none⟩ = some (.int .i64 rb) ∧ W.cell? ⟨gb, go + j * 6 + 3, none⟩ = some (.int .i64 rc) ∧ W.cell? ⟨gb, go + j * 6 + 4, none⟩ = some (.int .i64 rd) ∧ W.cell? ⟨gb, go + j * 6 + 5, none⟩ = some (.string rs)) ∧ Below w.heap.size w W)
              (first
                | exact hS6.out _ hbx
                | exact hS6.out _ hby)
              (first
                | (go_at_call 10; with_reducible (refine Calls.mono (HENO2.out) ?_); rintro e w3 ⟨A3, c3, rfl, hb3⟩; have hby := hbx.trans (hb3.mono hbx.size))
                | fail)
            have HBY := Lib.hid hby
            clear hb3 hby hbx hS6 HENO2
            go_wp2_with (go_at_call 12; with_reducible (refine Calls.mono (HA.out _ HBY.out) ?_); rintro e w4 ⟨rfl, hb4⟩)
            go_ret
            exact ⟨rfl, HBY.out.trans (hb4.mono HBY.out.size)⟩
        · have hjM2 : j = M := by omega
          subst hjM2
          have j1 : ¬ (j : Int) < (j : Int) := by omega
          by_cases hM0 : j = 0
          · have hR : Hid (CutSt (g : Int) (secsB ps') whole ends []) := by
              have := hIn.out.part (.inr (by have := HM.out; omega))
              rwa [hM0, List.take_zero] at this
            subst hM0
            have hc1' : wr.cell? ⟨b, off + m, none⟩ = some (.slice B 0 d) := hc1
            clear hIn HSTART hc1
            go_wp2
            go_roundw
            case rel => first | exact ⟨m + 1, ps', Vw, whole, ends, by omega, by go_num, ⟨A2, c2, rfl⟩, ⟨Aw, cw, rfl⟩, ⟨Ae, ce, rfl⟩, hps', hC', hR, hW⟩ | ((repeat apply Exists.intro); exact ⟨⟨m + 1, ps', Vw, whole, ends, by omega, by go_num, ⟨A2, c2, rfl⟩, ⟨Aw, cw, rfl⟩, ⟨Ae, ce, rfl⟩, hps', hC', hR, hW⟩, rfl⟩)
            case measure => first | (simp [intOf]; done) | (simp [intOf]; omega)
          · have hR : Hid (CutSt (g : Int) (secsB ps') (whole ++ [t]) (ends ++ [ps'.length]) []) := by
              have := hIn.out.done (by have := HM.out; omega) HM.out
              rwa [secsB_len] at this
            have hW2 : Hid (WholeV w (Vw ++ [.slice B j d]) (whole ++ [t])) := by
              have := wholeV_more hW.out (A := B) (c := d) (t := t) (by have := HM.out; omega) HREC.out
              rwa [← HM.out] at this
            have hwl := hW.out.1
            have hle := hR.out.len
            have hel2 : whole.length = ends.length := by simpa using hle
            have hwn : Vw.length ≤ 2147483648 := by
              have h9 := outTo_len (secsB ps') (secsB ps').length
              have h8 := hR.out.out
              rw [h8, List.length_append, secsB_len] at h9
              omega
            have hen : ends.length ≤ 2147483648 := by omega
            have jp : (0 : Int) < (j : Int) := by omega
            have hC4 := hC'.out.later ((Below.refl wr.heap.size wr).alloc (Nat.le_refl _) (.cells #[.slice B j d] 45))
            have HF : Hid (∀ v5 w5, w5.ownsRow w.heap.size 45 1 v5 (Vw.length + 1) (Vw ++ [.slice B j d]) → (wr.alloc (.cells #[.slice B j d] 45)).grownBy w5 (Value.slice Aw Vw.length cw).ownBlock → (v5.ownBlock = (Value.slice Aw Vw.length cw).ownBlock ∨ v5.ownBlock = some (wr.alloc (.cells #[.slice B j d] 45)).heap.size) →
                CutS 26 45 3 w w5 (.slice A2 ps'.length c2) v5 (.slice Ae ends.length ce) ps' (Vw ++ [.slice B j d]) (ends.map fun n : Nat => (n : Int))) := fun v5 w5 h1 h2 h3 => hC4.pushW h1 h2 h3
            have hown4 := hC4.rw
            have hsz4 := hC4.below.size
            clear hIn HSTART hwl hle hel2 hC4
            go_wp2_with (at_builtin; refine wpList_append_own_at _ rfl _ _ 41 rfl w.heap.size 45 i2 (.slice none 0 0) 1 24 Try.underlying41 hf2 hz20 hz21 hz22 rfl (by decide) _ _ _ rfl hown4 ⟨wr.heap.size, 0, none⟩ 1 1 [.slice B j d] rfl rfl (cell_one_new _ _ _) ?d1 ?d2 ?d3 ?d4 ?_)
            case d1 => first | rfl | (intro u hu; simp at hu; subst hu; rfl)
            case d2 => unfold maxLen; omega
            case d3 => omega
            case d4 => first | exact hsz4 | simpa using hsz4
            intro v5 w5 hown5 hg5 _ hob5
            have R5 := Lib.hid (HF.out v5 w5 hown5 hg5 (hob5.imp id fun q => by rw [q]; simp))
            obtain ⟨A5, c5, rfl⟩ := own_sliceN hown5
            have hC6 := R5.out.later ((Below.refl w5.heap.size w5).alloc (Nat.le_refl _) (.cells #[.int .i64 (ps'.length : Int)] 3))
            have HF6 : Hid (∀ v7 w7, w7.ownsRow w.heap.size 3 1 v7 (ends.length + 1) ((ends.map fun n : Nat => (n : Int)).map (Value.int .i64) ++ [.int .i64 (ps'.length : Int)]) → (w5.alloc (.cells #[.int .i64 (ps'.length : Int)] 3)).grownBy w7 (Value.slice Ae ends.length ce).ownBlock → (v7.ownBlock = (Value.slice Ae ends.length ce).ownBlock ∨ v7.ownBlock = some (w5.alloc (.cells #[.int .i64 (ps'.length : Int)] 3)).heap.size) →
                CutS 26 45 3 w w7 (.slice A2 ps'.length c2) (.slice A5 (Vw.length + 1) c5) v7 ps' (Vw ++ [.slice B j d]) ((ends ++ [ps'.length]).map fun n : Nat => (n : Int))) := fun v7 w7 h1 h2 h3 => by
              rw [List.map_append]
              exact hC6.pushE (by rw [List.length_map]; exact h1) h2 h3
            have hown6 := hC6.re
            rw [List.length_map] at hown6
            have hsz6 := hC6.below.size
            have HVL : Hid ((Vw ++ [Value.slice B j d]).length = Vw.length + 1) := by unfold Hid; simp
            have HEL : Hid ((ends ++ [ps'.length]).length = ends.length + 1) := by unfold Hid; simp
            clear hown5 hg5 hob5 HF hown4 hC6 hC' hc1 R5 hC hW
            go_wp2_with (at_builtin; refine wpList_append_own_at _ rfl _ _ 44 rfl w.heap.size 3 i3 (.int .i64 0) 1 8 Try.underlying44 hf3 hz30 hz31 hz32 rfl (by decide) _ _ _ rfl hown6 ⟨w5.heap.size, 0, none⟩ 1 1 [.int .i64 (ps'.length : Int)] rfl rfl (cell_one_new _ _ _) ?d1 ?d2 ?d3 ?d4 ?_)
            case d1 => first | rfl | (intro u hu; simp at hu; subst hu; rfl)
            case d2 => unfold maxLen; omega
            case d3 => omega
            case d4 => first | exact hsz6 | simpa using hsz6
            intro v7 w7 hown7 hg7 _ hob7
            have R7 := Lib.hid (HF6.out v7 w7 (by rw [List.map_map]; exact hown7) hg7 (hob7.imp id fun q => by rw [q]; simp))
            obtain ⟨A7, c7, rfl⟩ := own_sliceN hown7
            clear hown7 hg7 hob7 HF6 hown6
            go_wp2
            go_roundw
            case rel => first | exact ⟨m + 1, ps', Vw ++ [.slice B j d], whole ++ [t], ends ++ [ps'.length], by omega, by go_num, ⟨A2, c2, rfl⟩, ⟨A5, c5, by rw [HVL.out]⟩, ⟨A7, c7, by rw [HEL.out]⟩, hps', R7, hR, hW2⟩ | ((repeat apply Exists.intro); exact ⟨⟨m + 1, ps', Vw ++ [.slice B j d], whole ++ [t], ends ++ [ps'.length], by omega, by go_num, ⟨A2, c2, rfl⟩, ⟨A5, c5, by rw [HVL.out]⟩, ⟨A7, c7, by rw [HEL.out]⟩, hps', R7, hR, hW2⟩, rfl⟩)
            case measure => first | (simp [intOf]; done) | (simp [intOf]; omega)
    · have hC0 := hC.out
      have hPP := hP.out
      have hWW := hW.out
      have hwl : Vw.length = whole.length := hWW.1
      have hel : whole.length = ends.length := hPP.len
      obtain ⟨q, hq⟩ : ∃ q : Nat, q = cut % (ps.length + 1) := ⟨_, rfl⟩
      have hql : q ≤ ps.length := by have := Nat.mod_lt cut (show 0 < ps.length + 1 by omega); omega
      have hq1 : Int.tmod (cut : Int) ((ps.length : Int) + 1) = (q : Int) := by
        rw [Int.tmod_eq_emod_of_nonneg (by omega), hq]; push_cast; rfl
      have hq2 : (cut : Int) % ((ps.length : Int) + 1) = (q : Int) := by rw [hq]; push_cast; rfl
      have hcs := own_le hC0.rs
      have hcw := own_le hC0.rw
      have hg64 : I64n (g : Int) := by unfold I64n; omega
      have hg65 : I64n ((g : Int) + 1) := by unfold I64n; omega
      have HTW : Hid (∀ W, Below wr.heap.size wr W → TransAt W W.heap.size Aw whole) := fun W hb => trans_of_whole (hC0.later hb) rfl hWW
      have hml : whole.length ≤ 2147483648 := by
        have h9 := outTo_len (secsB ps) (secsB ps).length
        rw [hPP.out, secsB_len] at h9
        omega
      have hmx : ∀ x ∈ whole, x.length ≤ 9223372036854775807 := fun x hx => by
        have h9 := out_mem (secsB ps) (secsB ps).length x (by rw [hPP.out]; exact hx)
        rw [secsB_len] at h9
        omega
      have HRA : Hid (∀ W, Below wr.heap.size wr W → Calls Try.prog 16 #[.slice As ps.length cs, .int .i64 (g : Int)] W fun e w' => ∃ A' c', e = .returned (.slice A' whole.length c') ∧ TransAt w' w'.heap.size A' whole ∧ Below W.heap.size W w') := fun W hb => by
        have := HSP.out.repl As cs ps (g : Int) W (hC0.later hb).below ((hC0.later hb).toSecs rfl) hcs (by omega) hg64
        rw [hPP.all] at this
        exact this.mono fun e w' ⟨A', c', a1, _, a3, a4⟩ => ⟨A', c', a1, a3, a4⟩
      have HRB : Hid (∀ r, r ≤ ends.length → (∀ j, j < r → ends.getD j 0 ≤ q) → (r < ends.length → q < ends.getD r 0) → ∀ W, Below wr.heap.size wr W → Calls Try.prog 16 #[.slice As q cs, .int .i64 (g : Int)] W fun e w' => ∃ A' c', e = .returned (.slice A' r c') ∧ TransAt w' w'.heap.size A' (whole.take r) ∧ Below W.heap.size W w') := fun r hr h1 h2 W hb => by
        have hl : (ps.take q).length = q := by rw [List.length_take]; omega
        have := HSP.out.repl As cs (ps.take q) (g : Int) W (hC0.later hb).below (((hC0.later hb).toSecs rfl).take q) (by omega) (by omega) hg64
        rw [show secsB (ps.take q) = (secsB ps).take q by simp [secsB], hPP.part (by rw [secsB_len]; exact hql) hr h1 h2, hl, show (whole.take r).length = r by rw [List.length_take]; omega] at this
        exact this.mono fun e w' ⟨A', c', a1, _, a3, a4⟩ => ⟨A', c', a1, a3, a4⟩
      have HRC : Hid (∀ W, Below wr.heap.size wr W → Calls Try.prog 16 #[.slice As ps.length cs, .int .i64 ((g : Int) + 1)] W fun e w' => ∃ A' c', e = .returned (.slice A' 0 c') ∧ Below W.heap.size W w') := fun W hb => by
        have := HSP.out.repl As cs ps ((g : Int) + 1) W (hC0.later hb).below ((hC0.later hb).toSecs rfl) hcs (by omega) hg65
        rw [hPP.other (by omega)] at this
        exact this.mono fun e w' ⟨A', c', a1, _, _, a4⟩ => ⟨A', c', a1, a4⟩
      have HSA : Hid (∀ (W : World) (A' : Option Addr) (c' : Nat), Below wr.heap.size wr W → TransAt W W.heap.size A' whole → Calls Try.prog 15 #[.slice A' whole.length c', .slice Aw whole.length cw] W fun e w' => e = .returned (.bool true) ∧ ∃ m, w' = W.drewN m) := fun W A' c' hb h1 => by
        have := refSameT_any A' Aw c' cw whole whole W W.heap.size h1 (HTW.out W hb) (by omega) hmx
        rw [decide_eq_true rfl] at this
        exact this
      have HSB : Hid (∀ r, r ≤ ends.length → ∀ (W : World) (A' : Option Addr) (c' : Nat), Below wr.heap.size wr W → TransAt W W.heap.size A' (whole.take r) → Calls Try.prog 15 #[.slice A' r c', .slice Aw r cw] W fun e w' => e = .returned (.bool true) ∧ ∃ m, w' = W.drewN m) := fun r hr W A' c' hb h1 => by
        have hl : (whole.take r).length = r := by rw [List.length_take]; omega
        have := refSameT_any A' Aw c' cw (whole.take r) (whole.take r) W W.heap.size h1 ((HTW.out W hb).take r) (by omega) (fun x hx => hmx x (List.mem_of_mem_take hx))
        rw [decide_eq_true rfl, hl] at this
        exact this
      have HRE : Hid (Ints wr wr.heap.size .i64 Ae (ends.map fun n : Nat => (n : Int))) := Ints.of_own (n := ends.length) (c := ce) (by have := hC0.re; rw [List.length_map] at this ⊢; exact this)
      have HEG : Hid (∀ r, r < ends.length → (ends.map fun n : Nat => (n : Int)).getD r 0 = ((ends.getD r 0 : Nat) : Int)) := fun r hr => by simp [List.getD, hr]
      have hbw : Hid (Below w.heap.size w wr) := hC0.below
      rw [hwl]
      have hw1 : IntKind.i64.wrap ((ps.length : Int) + 1) = (ps.length : Int) + 1 := IntWalk.i64_in _ (by omega)
      have hn0 : ¬ (ps.length : Int) + 1 = 0 := by omega
      have hg1 : IntKind.i64.wrap ((g : Int) + 1) = (g : Int) + 1 := IntWalk.i64_in _ (by omega)
      have HWL := Lib.hid (And.intro hwl hel)
      have wg : IntKind.i64.wrap (g : Int) = (g : Int) := IntWalk.i64_in _ (by omega)
      have HQS : Hid ((q : Int) ≤ (cs : Int) ∧ (0 : Int) ≤ (q : Int)) := by unfold Hid; omega
      have HRW : Hid (∀ r : Nat, r ≤ ends.length → (r : Int) ≤ (cw : Int)) := fun r hr => by omega
      have hen31 : (ends.length : Int) ≤ 2147483648 := by omega
      have hdis : (¬ (m : Int) < (N : Int)) ∨ ((m : Int) < (N : Int) ∧ ¬ (ps.length : Int) < 300) := by omega
      clear HOK HML HSP hC0 hPP hWW hC hP hW hg64 hg65 hmx hq hwl hel
      rcases hdis with hd1 | ⟨hd1, hd2⟩
      all_goals
        go_wp2
        go_loop [15] (fun k => ∃ r : Nat, r ≤ ends.length ∧ k = .int .i64 r ∧ Hid (∀ j, j < r → ends.getD j 0 ≤ q)) (fun k => ends.length - (intOf k).toNat)
        case atStart => exact ⟨0, Nat.zero_le _, rfl, fun j hj => absurd hj (Nat.not_lt_zero j)⟩
        case round =>
          obtain ⟨r, hr, rfl, hall⟩ := hrel
          clear hq1 hq2 hw1 hn0 hcs hcw hql
          by_cases hgo3 : r < ends.length ∧ ends.getD r 0 ≤ q
          · obtain ⟨hr1, hr2⟩ := hgo3
            obtain ⟨ge, oe, rfl, _, hce⟩ := HRE.out r (by rw [List.length_map]; exact hr1)
            rw [HEG.out r hr1] at hce
            have r1 : (r : Int) < (ends.length : Int) := by omega
            have r0 : (0 : Int) ≤ (r : Int) := by omega
            have hall2 : Hid (∀ j, j < r + 1 → ends.getD j 0 ≤ q) := fun j hj => by
              rcases Nat.lt_or_ge j r with h | h
              · exact hall.out j h
              · rw [show j = r by omega]; exact hr2
            obtain ⟨x, hx⟩ : ∃ x, x = ends.getD r 0 := ⟨_, rfl⟩
            rw [← hx] at hce hr2
            have r2 : (x : Int) ≤ (q : Int) := by omega
            clear hall hx
            go_wp2
            go_round
            case rel => exact ⟨r + 1, by omega, by go_num, hall2⟩
            case measure => first | (simp [intOf]; done) | (simp [intOf]; omega)
          · have hstop : r < ends.length → q < ends.getD r 0 := fun h => by
              apply Decidable.byContradiction
              intro hn
              exact hgo3 ⟨h, by omega⟩
            have HB := Lib.hid (HRB.out r hr hall.out hstop)
            have HSB2 := Lib.hid (HSB.out r hr)
            have hrw := HRW.out r hr
            have hqs := HQS.out.1
            have q0 := HQS.out.2
            have r0 : (0 : Int) ≤ (r : Int) := by omega
            by_cases hr1 : r < ends.length
            · obtain ⟨ge, oe, rfl, _, hce⟩ := HRE.out r (by rw [List.length_map]; exact hr1)
              rw [HEG.out r hr1] at hce
              have hst := hstop hr1
              have r1 : (r : Int) < (ends.length : Int) := by omega
              obtain ⟨x, hx⟩ : ∃ x, x = ends.getD r 0 := ⟨_, rfl⟩
              rw [← hx] at hce hst
              have r2 : ¬ (x : Int) ≤ (q : Int) := by omega
              clear hall hx hstop hst hgo3 HRB HSB HRE HEG HTW
              go_wp2
              have hbx : Below wr.heap.size wr wr.drew := (Below.refl _ _).drew
              go_region_held3 (fun W => Below wr.heap.size wr W)
                (first
                  | exact hbx)
                (first
                  | (go_at_call 12; with_reducible (refine Calls.mono (HA.out _ ?hb) ?_); (case hb => exact hbw.out.trans (hbx.mono hbw.out.size)); rintro e w1 ⟨rfl, hb1⟩; have hbx : Below wr.heap.size wr w1 := hbx.trans (hb1.mono hbx.size))
                  | (go_at_call 16; with_reducible (refine Calls.mono (HRA.out _ hbx) ?_); rintro e w2 ⟨A2, c2, rfl, ht2, hb2⟩; have hbx : Below wr.heap.size wr w2 := hbx.trans (hb2.mono hbx.size))
                  | (go_at_call 15; with_reducible (refine Calls.mono (HSA.out _ _ _ hbx ht2) ?_); rintro e w3 ⟨rfl, n3, rfl⟩; have hbx := below_drewN hbx n3)
                  | (go_at_call 16; with_reducible (refine Calls.mono (HB.out _ hbx) ?_); rintro e w4 ⟨A4, c4, rfl, ht4, hb4⟩; have hbx : Below wr.heap.size wr w4 := hbx.trans (hb4.mono hbx.size))
                  | (go_at_call 15; with_reducible (refine Calls.mono (HSB2.out _ _ _ hbx ht4) ?_); rintro e w5 ⟨rfl, n5, rfl⟩; have hbx := below_drewN hbx n5)
                  | (go_at_call 16; with_reducible (refine Calls.mono (HRC.out _ hbx) ?_); rintro e w6 ⟨A6, c6, rfl, hb6⟩; have hbx : Below wr.heap.size wr w6 := hbx.trans (hb6.mono hbx.size))
                  | fail)
              all_goals
                go_wp2
                go_ret
                exact ⟨rfl, hbw.out.trans (hbx.mono hbw.out.size)⟩
            · have r1 : ¬ (r : Int) < (ends.length : Int) := by omega
              clear hall hstop hgo3 HRB HSB HRE HEG HTW
              go_wp2
              have hbx : Below wr.heap.size wr wr.drew := (Below.refl _ _).drew
              go_region_held3 (fun W => Below wr.heap.size wr W)
                (first
                  | exact hbx)
                (first
                  | (go_at_call 12; with_reducible (refine Calls.mono (HA.out _ ?hb) ?_); (case hb => exact hbw.out.trans (hbx.mono hbw.out.size)); rintro e w1 ⟨rfl, hb1⟩; have hbx : Below wr.heap.size wr w1 := hbx.trans (hb1.mono hbx.size))
                  | (go_at_call 16; with_reducible (refine Calls.mono (HRA.out _ hbx) ?_); rintro e w2 ⟨A2, c2, rfl, ht2, hb2⟩; have hbx : Below wr.heap.size wr w2 := hbx.trans (hb2.mono hbx.size))
                  | (go_at_call 15; with_reducible (refine Calls.mono (HSA.out _ _ _ hbx ht2) ?_); rintro e w3 ⟨rfl, n3, rfl⟩; have hbx := below_drewN hbx n3)
                  | (go_at_call 16; with_reducible (refine Calls.mono (HB.out _ hbx) ?_); rintro e w4 ⟨A4, c4, rfl, ht4, hb4⟩; have hbx : Below wr.heap.size wr w4 := hbx.trans (hb4.mono hbx.size))
                  | (go_at_call 15; with_reducible (refine Calls.mono (HSB2.out _ _ _ hbx ht4) ?_); rintro e w5 ⟨rfl, n5, rfl⟩; have hbx := below_drewN hbx n5)
                  | (go_at_call 16; with_reducible (refine Calls.mono (HRC.out _ hbx) ?_); rintro e w6 ⟨A6, c6, rfl, hb6⟩; have hbx : Below wr.heap.size wr w6 := hbx.trans (hb6.mono hbx.size))
                  | fail)
              all_goals
                go_wp2
                go_ret
                exact ⟨rfl, hbw.out.trans (hbx.mono hbw.out.size)⟩

end Go.Proofs.Ytbfchclfonicmaa
