/-
  The document's own disk: Write.
-/
import Derived.Test.YtnbgnllkikajpaaDiskRef
import Derived.Deep.AppendLies
import Derived.Deep.RegionLaw
import Derived.Deep.CutRange
namespace Go.Proofs.Ytnbgnllkikajpaa
open Go.RowKit

/-- Where what is pending lies behind a call. -/
def VB (v v' : Value) (n : Nat) : Prop := v'.ownBlock = v.ownBlock ∨ v'.ownBlock = none ∨ ∃ g, v'.ownBlock = some g ∧ n ≤ g
theorem Try.infoWr : (Try.prog.info? 69).map (fun i => (i.zero, i.size, i.bytes)) = some (some (.agg #[.int .i64 0, .string ⟨#[]⟩]), 2, 24) := by kernel_rfl
/-- What a call of the document's disk leaves. -/
def RefT (base : Nat) (W : World) (q lg lc : Nat) (v : Value) (s' : Dk) (W' : World) : Prop := ∃ v' z', RefD base W' q lg lc v' z' s' ∧ Away (RefF q lg v) W W' ∧ VB v v' W.heap.size
section
variable {base : Nat} {W : World} {q lg lc : Nat} {v : Value} {z : Int} {s : Dk}
theorem RefD.grown {W' : World} (h : RefD base W q lg lc v z s) (hb : Below W.heap.size W W') : RefD base W' q lg lc v z s :=
  h.away (Away.of_below (F := fun _ => False) hb) (fun e => e) (fun e => e) (fun _ _ e => e)
/-- One write more is pending. -/
theorem RefD.setPend {W' : World} {v' : Value} {n : Nat} {t : List Nat} (h : RefD base W q lg lc v z s) (hn : n < s.last.length) (ht : Sec t) (hg : W.grownBy W' v.ownBlock) (hown : W'.ownsRow base 69 2 v' (s.pend.length + 1) (pendV s.pend ++ [.int .i64 (n : Int), txtV t])) (hv : v'.ownBlock = v.ownBlock ∨ ∃ g, v'.ownBlock = some g ∧ W.heap.size ≤ g) :
    RefD base (W'.setCell ⟨q, 1, none⟩ v') q lg lc v' z ⟨s.last, s.pend ++ [(n, t)], s.lim, s.off⟩ := by
  have lq := (Array.getElem?_eq_some_iff.1 h.cell).1
  have ll := (h.last.lt lg rfl).2
  have hc := (hg.block q lq (fun e => h.d2 e.symm)).trans h.cell
  have hq : v'.ownBlock ≠ some q := fun e => by
    rcases hv with e2 | ⟨g, e2, hl⟩
    · exact h.d2 (e2.symm.trans e)
    · rw [e2] at e; injection e with e; omega
  have hl : v'.ownBlock ≠ some lg := fun e => by
    rcases hv with e2 | ⟨g, e2, hl⟩
    · exact h.d3 (e2.symm.trans e)
    · rw [e2] at e; injection e with e; omega
  refine ⟨setc_same W' q 1 _ _ _ hc, own_heapV h.last (fun g hgl => ?_), ?_, h.lim, h.d1, hq, hl, h.bq, h.zi, ⟨h.ok.pos, h.ok.le, h.ok.sec, fun j hj => ?_⟩⟩
  · have e := ob_lit hgl
    subst e
    exact (setc_other W' q lg 1 _ (fun e => h.d1 e.symm)).trans (hg.block lg ll (fun e => h.d3 e.symm))
  · rw [show (s.pend ++ [(n, t)]).length = s.pend.length + 1 by simp, pendV_app]
    exact own_heapV hown (fun g hgv => setc_other W' q g 1 _ (fun e => hq (by rw [hgv, e])))
  · simp only [List.length_append, List.length_cons, List.length_nil] at hj
    rw [List.getD_eq_getElem?_getD]
    by_cases hj2 : j < s.pend.length
    · rw [List.getElem?_append_left hj2, ← List.getD_eq_getElem?_getD]; exact h.ok.pen j hj2
    · rw [List.getElem?_append_right (by omega), show j - s.pend.length = 0 by omega]
      exact ⟨hn, ht⟩

set_option maxHeartbeats 3200000 in
set_option maxRecDepth 20000 in
theorem refWrite_any (h : RefD base W q lg lc v z s) (n : Int) (A : Option Addr) (c : Nat) (t : List Nat) (hI : Ints W W.heap.size .u8 A (up t)) (ht : ∀ y ∈ t, y < 256) (hF : 0 < t.length → ∀ b o, A = some ⟨b, o, none⟩ → ¬ RefF q lg v b) (hm : s.pend.length ≤ 100000) :
    Calls Try.prog 13 #[.pointer (some ⟨q, 0, none⟩), .int .i64 n, .slice A t.length c] W fun e w' => e = .returned (.int .i64 (writeE s n t)) ∧ RefT base W q lg lc v (writeS s n t) w' := by
  obtain ⟨c0, c1, c2, c3⟩ := h.cells
  have hV0 : Hid (VB v v W.heap.size) := .inl rfl
  have HSAME : Hid (writeS s n t = s → RefT base W q lg lc v (writeS s n t) W) := fun e => ⟨v, z, by rw [e]; exact h, Away.refl _ _, hV0.out⟩
  obtain ⟨N, hN⟩ : ∃ N, N = t.length := ⟨_, rfl⟩
  have HN := Lib.hid hN
  obtain ⟨E, hE⟩ : ∃ E, E = writeE s n t := ⟨_, rfl⟩
  rw [← hE, ← hN]
  cases ho : s.off with
  | true =>
    have e1 : E = 8 := by rw [hE]; unfold writeE; rw [ho]; rfl
    have R := Lib.hid (HSAME.out (by unfold writeS; rw [ho]; rfl))
    rw [ho] at c3
    rw [e1]
    clear h hI ht hF HSAME hE hN
    go_enter Try.func13, Try.ntmps13
    go_wp2
    go_ret
    exact ⟨rfl, R.out⟩
  | false =>
    rw [ho] at c3
    by_cases hl : N = 64
    · have hl' : ¬ (t.length ≠ 64) := by rw [← hN]; simp [hl]
      by_cases hout : outD s n
      · have e1 : E = 7 := by rw [hE]; unfold writeE; rw [ho, if_neg hl', if_pos hout]; rfl
        have R := Lib.hid (HSAME.out (by unfold writeS; rw [ho, if_neg hl', if_pos hout]; rfl))
        rw [e1]
        subst hl
        by_cases h0 : n < 0
        · clear h hI ht hF HSAME hE hN hout hl'
          go_enter Try.func13, Try.ntmps13
          go_wp2
          go_ret
          exact ⟨rfl, R.out⟩
        · have h1 : (s.last.length : Int) ≤ n := by unfold outD at hout; omega
          clear h hI ht hF HSAME hE hN hout hl'
          go_enter Try.func13, Try.ntmps13
          go_wp2
          go_ret
          exact ⟨rfl, R.out⟩
      · have e1 : E = spendE s := by rw [hE]; unfold writeE; rw [ho, if_neg hl', if_neg hout]; rfl
        have hsec : Sec t := ⟨by rw [← hN]; exact hl, ht⟩
        have HSP := refSpend_any h
        obtain ⟨i, rfl, hi⟩ := not_out hout
        have h0 : ¬ (i : Int) < 0 := by omega
        have h1 : ¬ (s.last.length : Int) ≤ (i : Int) := by omega
        by_cases hsp : spendE s = 0
        · have hws : writeS s (i : Int) t = ⟨s.last, s.pend ++ [(i, t)], (spendS s).lim, (spendS s).off⟩ := by
            unfold writeS; rw [ho, if_neg hl', if_neg hout, if_pos hsp]; rfl
          have hss : (spendS s).last = s.last ∧ (spendS s).pend = s.pend := by unfold spendS; split <;> exact ⟨rfl, rfl⟩
          rw [e1, hsp]
          rw [hsp] at HSP
          replace HSP := Lib.hid HSP
          have HI : Hid (∀ W', Away (RefF q lg v) W W' → Ints W' W'.heap.size .u8 A (up t)) := fun W' ha => (hI.away ha (Nat.le_refl _) (fun h0 b o e => hF (by rwa [up_len] at h0) b o e)).more ha.size
          have HWS := Lib.hid hws
          have HSS := Lib.hid hss
          have HTX : Hid (∀ W', Away (RefF q lg v) W W' → (convert 30 9 (.slice A 64 c)).run Try.prog W' = .ok (.string (strOfNums (up t))) W') := fun W' ha => text_later (HI.out W' ha) hsec.1 (Below.refl _ _)
          have hpn : (s.pend.length : Int) ≤ 100000 := by omega
          have hbq := h.bq
          have hq := (Array.getElem?_eq_some_iff.1 h.cell).1
          subst hl
          clear hI hF HSAME hE hN hout hl' hws hsp e1 h0 h1 hss HI
          obtain ⟨i0, hif, hz0, hz1, hz2⟩ := info_parts Try.infoWr
          have h0 : ¬ (i : Int) < 0 := by omega
          have h1 : ¬ (s.last.length : Int) ≤ (i : Int) := by omega
          go_enter Try.func13, Try.ntmps13
          go_wp2_with (go_at_call 28; with_reducible (refine Calls.mono HSP.out ?_); rintro e w1 ⟨rfl, z1, hr1, ha1⟩)
          clear c0 c1 c2 c3 HSP h
          go_cut [] from 30 to 42 (fun wx => Hid (RefT base W q lg lc v (writeS s (i : Int) t) wx))
          case first =>
            have hx := HTX.out w1.drew (away_drew1 ha1)
            obtain ⟨tx, htx⟩ : ∃ tx, tx = strOfNums (up t) := ⟨_, rfl⟩
            rw [← htx] at hx
            obtain ⟨W0, hW0⟩ : ∃ W0, W0 = (w1.alloc (.cells #[.int .i64 (i : Int), .string tx] 69)).drew := ⟨_, rfl⟩
            have hb0 : Below w1.heap.size w1 W0 := by rw [hW0]; exact ((Below.refl w1.heap.size w1).alloc (Nat.le_refl _) _).drew
            have hr0 := hr1.grown hb0
            have y0 := hr1.cells.2.1
            have y1 : (w1.alloc (.cells #[.int .i64 (i : Int), .string tx] 69)).cell? ⟨q, 1, none⟩ = some v := by have := hr0.cells.2.1; rw [hW0] at this; exact this
            have HPD : Hid (W0.ownsRow base 69 2 v s.pend.length (pendV s.pend)) := by have := hr0.pend; rw [HSS.out.2] at this; exact this
            have hbs : base ≤ W0.heap.size := by have := ha1.size; have := hb0.size; omega
            have hu : ∀ j u, ([.int .i64 (i : Int), .string tx] : List Value)[j]? = some u → W0.cell? ((⟨w1.heap.size, 0, none⟩ : Addr).add j) = some u := fun j u hj => by
              rw [hW0, Addr.add_mid]
              have hg := heap_alloc_new w1 (.cells #[.int .i64 (i : Int), .string tx] 69)
              show (w1.alloc _).cell? _ = _
              rw [cell_of_row _ _ _ _ _ _ hg, Nat.zero_add]
              simpa using hj
            have HE : Hid (∀ g cap w', w'.ownsRow base 69 2 (.slice (some ⟨g, 0, none⟩) (s.pend.length + 1) cap) (s.pend.length + 1) (pendV s.pend ++ [.int .i64 (i : Int), .string tx]) → W0.grownBy w' v.ownBlock → (v.ownBlock = some g ∨ g = W0.heap.size) → RefT base W q lg lc v (writeS s (i : Int) t) (w'.setCell ⟨q, 1, none⟩ (.slice (some ⟨g, 0, none⟩) (s.pend.length + 1) cap))) := fun g cap w' h1 h2 h3 => by
              have hsp2 : (spendS s).last.length = s.last.length := by rw [HSS.out.1]
              have h5 := hr0.setPend (n := i) (t := t) (v' := .slice (some ⟨g, 0, none⟩) (s.pend.length + 1) cap) (by rw [hsp2]; exact hi) hsec h2 (by rw [HSS.out.2]; rw [htx] at h1; exact h1) (h3.imp (fun e => e.symm) (fun e => ⟨g, rfl, Nat.le_of_eq e.symm⟩))
              refine ⟨.slice (some ⟨g, 0, none⟩) (s.pend.length + 1) cap, z1, by rw [HWS.out]; rw [HSS.out.1, HSS.out.2] at h5; exact h5, ?_, h3.imp (fun e => e.symm) (fun e => .inr ⟨g, rfl, by have := ha1.size; have := hb0.size; omega⟩)⟩
              refine Away.set (g := q) ⟨h2.os.trans (hb0.os.trans ha1.os), h2.tape.trans (hb0.tape.trans ha1.tape), h2.output.trans (hb0.output.trans ha1.output), Nat.le_trans ha1.size (Nat.le_trans hb0.size h2.size), fun k hk hn => ?_⟩ (.inl rfl) 1 _
              have hk1 : k < w1.heap.size := Nat.lt_of_lt_of_le hk ha1.size
              rw [h2.block k (Nat.lt_of_lt_of_le hk1 hb0.size) (fun e => hn (.inr (.inr e.symm))), hb0.block k hk1]
              exact ha1.block k hk hn
            have HQ : Hid (∀ w', W0.grownBy w' v.ownBlock → w'.cell? ⟨q, 1, none⟩ = some v ∧ w'.frozen? ⟨q, 1, none⟩ = false) := fun w' hg => by
              have hc := hg.block q (Array.getElem?_eq_some_iff.1 hr0.cell).1 (fun e => hr0.d2 e.symm)
              exact ⟨by rw [World.cell?_of_block hc]; exact hr0.cells.2.1, by rw [frozen_of_block hc]; exact hr0.thaw 1⟩
            obtain ⟨Hs, hHs⟩ : ∃ Hs, Hs = W0.heap.size := ⟨_, rfl⟩
            have HHs := Lib.hid hHs
            rw [← hHs] at HE
            simp only [hW0] at HPD hbs hu HE HQ HHs
            clear hr0 hb0 hW0 htx hr1 ha1 hHs
            go_region_law (refine step_append_lies _ rfl _ _ 42 rfl base 69 i0 (.agg #[.int .i64 0, .string ⟨#[]⟩]) 2 24 Try.underlying42 hif hz0 hz1 hz2 rfl (by decide) v s.pend.length (pendV s.pend) rfl HPD.out ⟨w1.heap.size, 0, none⟩ 1 1 [.int .i64 (i : Int), .string tx] rfl rfl hu (fun u hu => by simp at hu; rcases hu with rfl | rfl <;> rfl) (by decide) (by unfold maxLen; omega) (by omega) hbs Hs HHs.out.symm ?_; intro g7 c7 w7 hown7 hg7 hl7 _; have y2 := (HQ.out _ hg7).1; have y3 := (HQ.out _ hg7).2)
            all_goals
              have R := Lib.hid (HE.out _ _ _ hown7 hg7 hl7)
              clear hown7 hg7 hl7 y2 y3
              go_wp2
              go_meet
              exact R
          clear HTX HWS HSS
          go_wp2
          go_ret
          exact ⟨rfl, hcut.out⟩
        · have h8 : spendE s = 8 := by unfold spendE at hsp ⊢; split <;> simp_all
          have hws : writeS s (i : Int) t = spendS s := by unfold writeS; rw [ho, if_neg hl', if_neg hout, if_neg hsp]; rfl
          rw [e1, h8]
          rw [h8] at HSP
          replace HSP := Lib.hid HSP
          have HWS := Lib.hid hws
          subst hl
          clear h hI ht hF HSAME hE hN hout hl' hsec hws h8 hsp e1 hi
          go_enter Try.func13, Try.ntmps13
          go_wp2_with (go_at_call 28; with_reducible (refine Calls.mono HSP.out ?_); rintro e w1 ⟨rfl, z1, hr1, ha1⟩)
          go_ret
          exact ⟨rfl, v, z1, by rw [HWS.out]; exact hr1, ha1, hV0.out⟩
    · have hl' : t.length ≠ 64 := by rw [← hN]; exact hl
      have e1 : E = 1 := by rw [hE]; unfold writeE; rw [ho, if_pos hl']; rfl
      have R := Lib.hid (HSAME.out (by unfold writeS; rw [ho, if_pos hl']; rfl))
      rw [e1]
      have d1 : ((N : Int) == 64) = false := beq_eq_false_iff_ne.2 (by omega)
      have d2 : ((N : Int) != 64) = true := by simp; omega
      clear h hI ht hF HSAME hE hN hl'
      go_enter Try.func13, Try.ntmps13
      go_wp2
      go_ret
      exact ⟨rfl, R.out⟩
end

end Go.Proofs.Ytnbgnllkikajpaa
