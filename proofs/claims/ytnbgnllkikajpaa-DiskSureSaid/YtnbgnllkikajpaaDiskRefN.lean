/-
  The document's own disk: New.
-/
import Derived.Test.YtnbgnllkikajpaaDiskRef3
namespace Go.Proofs.Ytnbgnllkikajpaa
open Go.RowKit

/-- So many sectors are laid. -/
structure NewR (W : World) (q k : Nat) (vl : Value) (Wx : World) : Prop where
  cell : Wx.heap[q]? = some (.cells #[vl, .slice none 0 0, .int .i64 (-1), .bool false] 44 (0, 0))
  row : Wx.ownsRow W.heap.size 9 1 vl k (List.replicate k (txtV zeroSec))
  ne : vl.ownBlock ≠ some q
  below : Below W.heap.size W Wx
theorem NewR.grown {W Wx W' : World} {q k : Nat} {vl : Value} (h : NewR W q k vl Wx) (hb : Below Wx.heap.size Wx W') : NewR W q k vl W' :=
  ⟨(hb.block q (Array.getElem?_eq_some_iff.1 h.cell).1).trans h.cell, own_heapV h.row (fun g hg => hb.block g (h.row.lt g hg).2), h.ne, chain h.below hb⟩
set_option maxHeartbeats 3200000 in
set_option maxRecDepth 20000 in
theorem refNew_any (n : Nat) (W : World) (h1 : 1 ≤ n) (h2 : n ≤ 4096) : Calls Try.prog 11 #[.int .i64 (n : Int)] W fun e w' => e = .returned (.pointer (some ⟨W.heap.size, 0, none⟩)) ∧ ∃ lg lc, RefD W.heap.size w' W.heap.size lg lc (.slice none 0 0) (-1) (newD n) ∧ Below W.heap.size W w' := by
  have hni : (n : Int) ≤ 4096 := by omega
  have hmk := make64
  obtain ⟨Z, hZ⟩ : ∃ Z, Z = CB zeroSec := ⟨_, rfl⟩
  rw [← hZ] at hmk
  obtain ⟨tz, htz⟩ : ∃ tz, tz = strOfNums (up zeroSec) := ⟨_, rfl⟩
  have HTZ : Hid (∀ Wa : World, (convert 30 9 (.slice (some ⟨Wa.heap.size, 0, none⟩) 64 64)).run Try.prog (Wa.alloc (.cells Z 5)).drew = .ok (.string tz) (Wa.alloc (.cells Z 5)).drew) := fun Wa => by
    rw [htz, hZ]
    have := (RwB.new Wa zeroSec).ints
    exact text_later this sec_zero.1 (Below.refl _ _).drew
  have HTV : Hid (txtV zeroSec = .string tz) := by unfold Hid txtV; rw [htz]
  clear hZ htz
  go_enter Try.func11, Try.ntmps11
  go_wp2
  obtain ⟨q, hq⟩ : ∃ q, q = W.heap.size := ⟨_, rfl⟩
  have HQ := Lib.hid hq
  rw [← hq]
  go_loopw [4] (fun i wx => ∃ k : Nat, k ≤ n ∧ i = .int .i64 k ∧ Hid (∃ vl, NewR W q k vl wx)) (fun i _ => n - (intOf i).toNat)
  case atStart =>
    refine ⟨0, Nat.zero_le _, rfl, .slice none 0 0, ?_, ⟨rfl, .inl ⟨rfl, rfl⟩⟩, by simp [Value.ownBlock], (Below.refl _ _).alloc (Nat.le_refl _) _⟩
    rw [hq]; exact heap_alloc_new W _
  case round =>
    clear hq
    obtain ⟨k, hk, rfl, hR⟩ := hrel
    obtain ⟨wo, hwo⟩ : ∃ x, x = wr := ⟨_, rfl⟩
    subst hwo
    have k0 : (0 : Int) ≤ (k : Int) := by omega
    by_cases hkn : k < n
    · have k1 : (k : Int) < (n : Int) := by omega
      go_upto_region 5 with fail
      obtain ⟨vl, hN⟩ := hR.out
      obtain ⟨i0, hif, hz0, hz1, hz2⟩ := info_parts Try.infoStr
      have hx := HTZ.out wo
      obtain ⟨W0, hW0⟩ : ∃ W0, W0 = ((wo.alloc (.cells Z 5)).alloc (.cells #[.string tz] 9)).drew := ⟨_, rfl⟩
      have hb0 : Below wo.heap.size wo W0 := by rw [hW0]; exact (((Below.refl wo.heap.size wo).alloc (Nat.le_refl _) _).alloc (by simp) _).drew
      have hN0 := hN.grown hb0
      have c0 : wo.cell? ⟨q, 0, none⟩ = some vl := cell_of_row wo q 0 _ _ _ hN.cell
      have c1 : (wo.alloc (.cells Z 5)).cell? ⟨q, 0, none⟩ = some vl := cell_of_row _ q 0 _ _ _ (hN.grown ((Below.refl wo.heap.size wo).alloc (Nat.le_refl _) _)).cell
      have c2 : ((wo.alloc (.cells Z 5)).alloc (.cells #[.string tz] 9)).cell? ⟨q, 0, none⟩ = some vl := by have := cell_of_row _ q 0 _ _ _ hN0.cell; rw [hW0] at this; exact this
      have HROW := Lib.hid hN0.row
      have hbs := hN0.below.size
      have hu : ∀ j u, ([.string tz] : List Value)[j]? = some u → W0.cell? ((⟨wo.heap.size + 1, 0, none⟩ : Addr).add j) = some u := fun j u hj => by
        rw [hW0, Addr.add_mid]
        have hg := heap_alloc_new (wo.alloc (.cells Z 5)) (.cells #[.string tz] 9)
        have hs : (wo.alloc (.cells Z 5)).heap.size = wo.heap.size + 1 := by simp
        rw [hs] at hg
        show ((wo.alloc _).alloc _).cell? _ = _
        rw [cell_of_row _ _ _ _ _ _ hg, Nat.zero_add]
        simpa using hj
      have HE : Hid (∀ g cap w', w'.ownsRow W.heap.size 9 1 (.slice (some ⟨g, 0, none⟩) (k + 1) cap) (k + 1) (List.replicate k (txtV zeroSec) ++ [.string tz]) → W0.grownBy w' vl.ownBlock → (vl.ownBlock = some g ∨ g = W0.heap.size) → ∃ vl', NewR W q (k + 1) vl' (w'.setCell ⟨q, 0, none⟩ (.slice (some ⟨g, 0, none⟩) (k + 1) cap))) := fun g cap w' h1 h2 h3 => by
        have hgq : g ≠ q := by
          rcases h3 with e | e
          · exact fun e2 => hN0.ne (by rw [e, e2])
          · have := (Array.getElem?_eq_some_iff.1 hN0.cell).1; omega
        have hc := (h2.block q (Array.getElem?_eq_some_iff.1 hN0.cell).1 (fun e => hN0.ne e.symm)).trans hN0.cell
        have hqW : W.heap.size ≤ q := by rw [HQ.out]; exact Nat.le_refl _
        refine ⟨.slice (some ⟨g, 0, none⟩) (k + 1) cap, setc_same w' q 0 _ _ _ hc, ?_, fun e => hgq (ob_lit e), (hN0.below.grown h2 hN0.below.size (fun j hj => (hN0.row.lt j hj).1)).setCell (p := ⟨q, 0, none⟩) hqW _⟩
        rw [List.replicate_succ', HTV.out]
        rw [HTV.out] at h1
        exact own_heapV h1 (fun g2 hg2 => setc_other w' q g2 0 _ (fun e => hgq ((ob_lit hg2).trans e.symm)))
      have HF : Hid (∀ w', W0.grownBy w' vl.ownBlock → w'.cell? ⟨q, 0, none⟩ = some vl ∧ w'.frozen? ⟨q, 0, none⟩ = false) := fun w' hg => by
        have hc := (hg.block q (Array.getElem?_eq_some_iff.1 hN0.cell).1 (fun e => hN0.ne e.symm)).trans hN0.cell
        exact ⟨cell_of_row _ q 0 _ _ _ hc, frozen_of_row _ q 0 _ _ hc⟩
      obtain ⟨Hs, hHs⟩ : ∃ Hs, Hs = W0.heap.size := ⟨_, rfl⟩
      have HHs := Lib.hid hHs
      rw [← hHs] at HE
      simp only [hW0] at HROW hbs hu HE HF HHs
      clear hN hN0 hb0 hW0 hHs hR
      go_region_law (refine step_append_lies _ rfl _ _ 41 rfl W.heap.size 9 i0 (.string ⟨#[]⟩) 1 16 Try.underlying41 hif hz0 hz1 hz2 rfl (by decide) vl k (List.replicate k (txtV zeroSec)) rfl HROW.out ⟨wo.heap.size + 1, 0, none⟩ 1 1 [.string tz] rfl rfl hu (fun u hu => by simp at hu; rw [hu]; rfl) (by decide) (by unfold maxLen; omega) (by omega) hbs Hs HHs.out.symm ?_; intro g7 c7 w7 hown7 hg7 hl7 _; have y2 := (HF.out _ hg7).1; have y3 := (HF.out _ hg7).2)
      all_goals
        have R := Lib.hid (HE.out _ _ _ hown7 hg7 hl7)
        clear hown7 hg7 hl7 y2 y3
        go_wp2
        go_roundw
        case rel => first | exact ⟨k + 1, by omega, by go_num, R.out⟩ | ((repeat apply Exists.intro); exact ⟨⟨k + 1, by omega, by go_num, R.out⟩, rfl⟩)
        case measure => first | (simp [intOf]; done) | (simp [intOf]; omega)
    · have k1 : ¬ (k : Int) < (n : Int) := by omega
      have hkn2 : k = n := by omega
      subst hkn2
      have R : Hid ((∃ lg lc, RefD W.heap.size wo W.heap.size lg lc (.slice none 0 0) (-1) (newD k)) ∧ Below W.heap.size W wo) := by
        have hq2 := HQ.out
        subst hq2
        obtain ⟨vl, hN⟩ := hR.out
        obtain ⟨lg, lc, hv, _, _⟩ := hN.row.form (by omega)
        subst hv
        have hlen : (newD k).last.length = k := by simp [newD]
        refine ⟨⟨lg, lc, ⟨by rw [hlen]; exact hN.cell, by rw [hlen]; have h3 := hN.row; rw [show (newD k).last.map txtV = List.replicate k (txtV zeroSec) by simp [newD]]; exact h3, ⟨rfl, .inl ⟨rfl, rfl⟩⟩, rfl, fun e => hN.ne (by rw [e]; rfl), by simp [Value.ownBlock], by simp [Value.ownBlock], Nat.le_refl _, by unfold I64c; omega, newD_ok h1 h2⟩⟩, hN.below⟩
      clear hR
      go_wp2
      go_ret
      refine ⟨?_, ?_⟩
      · rw [HQ.out]; rfl
      · first | exact R.out | exact ⟨_, _, R.out.1.choose_spec.choose_spec, R.out.2⟩

end Go.Proofs.Ytnbgnllkikajpaa
