/-
  The landed solve: Greedy.
-/
import Derived.Test.YtnpdffcplgjbnaaSolveC4
namespace Go.Proofs.Ytnpdffcplgjbnaa
open Go.RowKit

theorem solveE_ok {total : Int} {least : List Int} {cs : List (List Int)} (h : solveE total least cs = 0) : 0 ≤ total ∧ total ≤ 512 ∧ 1 ≤ cs.length ∧ cs.length ≤ 16 ∧ least.length = cs.length ∧ (∀ z ∈ least, 0 ≤ z ∧ z ≤ 512) ∧ (∀ i, i < cs.length → soundL (cs.getD i []) = true) ∧ least.sum ≤ total := by
  unfold solveE at h
  by_cases h1 : total < 0 ∨ 512 < total ∨ cs.length = 0 ∨ 16 < cs.length ∨ least.length ≠ cs.length
  · rw [if_pos h1] at h; exact absurd h (by decide)
  · rw [if_neg h1] at h
    by_cases h2 : least.any (fun z => decide (z < 0) || decide (total < z)) = true
    · rw [if_pos h2] at h; exact absurd h (by decide)
    · rw [if_neg h2] at h
      by_cases h3 : cs.any (fun c => !soundL c) = true
      · rw [if_pos h3] at h; exact absurd h (by decide)
      · rw [if_neg h3] at h
        by_cases h4 : total < least.sum
        · rw [if_pos h4] at h; exact absurd h (by decide)
        · refine ⟨by omega, by omega, by omega, by omega, by omega, fun z hz => ?_, fun i hi => ?_, by omega⟩
          · simp only [List.any_eq_true, Bool.or_eq_true, decide_eq_true_eq, not_exists, not_and] at h2
            have := h2 z hz
            omega
          · simp only [List.any_eq_true, not_exists, not_and] at h3
            have := h3 (cs.getD i []) (by rw [List.getD_eq_getElem?_getD, List.getElem?_eq_getElem hi]; exact List.getElem_mem _)
            simpa using this

set_option maxHeartbeats 3200000 in
set_option maxRecDepth 20000 in
theorem greedy_go (total : Int) (A0 A1 : Option Addr) (c0 c1 : Nat) (L : List Int) (ps : List Cur) (w : World) (h : Asked w total A0 A1 c0 c1 L ps) (hE : solveE total L (ps.map Cur.l) = 0) :
    Calls Try.prog 9 #[.int .i64 total, .slice A0 L.length c0, .slice A1 ps.length c1] w fun e w' => ∃ A c, e = .returned (.tuple #[.slice A L.length c, .int .i64 0]) ∧ L.length ≤ c ∧ Ints w' w'.heap.size .i64 A (giveL (ps.map Cur.l) L (total - L.sum).toNat) ∧ Below w.heap.size w w' := by
  have HR := Lib.hid (refusal_any total A0 A1 c0 c1 L ps w h)
  rw [hE] at HR
  have hlc : (ps.map Cur.l).length = ps.length := List.length_map _
  obtain ⟨t0, ht, p1, p16, hk, hL, hs, hsum⟩ := solveE_ok hE
  rw [hlc] at p1 p16 hk hs
  have h0 := h.row
  have h1 := h.curves
  obtain ⟨b0, o0, rfl, hb0, _⟩ := h0.at_ (by omega)
  obtain ⟨n, hn⟩ : ∃ n, n = ps.length := ⟨_, rfl⟩
  have HSU := Lib.hid (fun (W : World) (hb : Below w.heap.size w W) => sumV_any (some ⟨b0, o0, none⟩) c0 L W ((h0.below hb).more hb.size) (by omega) hL)
  have HCL := Lib.hid (fun (W : World) (hb : Below w.heap.size w W) => cloneI_any b0 o0 c0 n L W ((h0.below hb).more hb.size) (by omega) (by omega) (by omega))
  have HKE := Lib.hid (fun (W : World) (A : Option Addr) (c : Nat) (X : List Int) (hb : Below w.heap.size w W) (hI : Ints W W.heap.size .i64 A X) (hl : X.length = n) (hX : ∀ i, i < n → 0 ≤ X.getD i 0 ∧ X.getD i 0 ≤ 1024) => keenest_any A A1 c c1 n X ps W hI ((h1.below hb).more hb.size) hl hn ⟨by omega, by omega⟩ hs hX)
  have HGE := Lib.hid (fun j i (hi : i < L.length) => giveL_bound (ps.map Cur.l) (B := 512) (X := L) (fun i hi => hL _ (by rw [List.getD_eq_getElem?_getD, List.getElem?_eq_getElem hi]; exact List.getElem_mem hi)) j i hi)
  have HGL := Lib.hid (giveL_len (ps.map Cur.l) L)
  have HGS : Hid (∀ j, giveL (ps.map Cur.l) L (j + 1) = (giveL (ps.map Cur.l) L j).set (bestAt (ps.map Cur.l) (giveL (ps.map Cur.l) L j) (n - 1)) ((giveL (ps.map Cur.l) L j).getD (bestAt (ps.map Cur.l) (giveL (ps.map Cur.l) L j) (n - 1)) 0 + 1)) := fun j => by
    show oneMore _ _ = _
    unfold oneMore
    rw [hlc, hn]
  have HG0 : Hid (giveL (ps.map Cur.l) L 0 = L) := rfl
  have HBL := Lib.hid (bestAt_le (ps.map Cur.l))
  obtain ⟨GV, hGV⟩ : ∃ G, G = giveL (ps.map Cur.l) L := ⟨_, rfl⟩
  simp only [← hGV] at HGE HGL HGS HG0 ⊢
  obtain ⟨BA, hBA⟩ : ∃ G, G = bestAt (ps.map Cur.l) := ⟨_, rfl⟩
  simp only [← hBA] at HGS HBL HKE
  have hsum0 : 0 ≤ L.sum := sum_nonneg fun z hz => (hL z hz).1
  obtain ⟨T, hT⟩ : ∃ T, T = L.sum := ⟨_, rfl⟩
  rw [← hT] at HSU hsum hsum0 ⊢
  rw [hk, ← hn] at HSU HGL HR
  simp only [hk, ← hn] at HGE
  rw [hk, ← hn]
  have HLN : Hid (L.length = n) := hk.trans hn.symm
  have n1 : (1 : Int) ≤ (n : Int) := by omega
  have n16 : (n : Int) ≤ 16 := by omega
  obtain ⟨L0, hL0⟩ : ∃ L0 : Nat, (L0 : Int) = total - T := ⟨(total - T).toNat, by omega⟩
  have l1 : (L0 : Int) ≤ 512 := by omega
  have e9 : (total - T).toNat = L0 := by omega
  rw [e9]
  have wL : IntKind.i64.wrap (total - T) = (L0 : Int) := by rw [hL0]; exact IntWalk.i64_in _ (by omega)
  clear h hE h0 h1 hk hs hL hlc hGV hBA hT hn hL0 e9 p1 p16 hsum hsum0
  go_enter Try.func9, Try.ntmps9
  go_wp2_with (first
    | (go_at_call 20; with_reducible (refine Calls.mono HR.out ?_); rintro e w1 ⟨rfl, hb1⟩)
    | (go_at_call 21; with_reducible (refine Calls.mono (HCL.out _ hb1) ?_); rintro e w2 ⟨g, cap, rfl, hnc, hown, hb2⟩; have hbw := chain hb1 hb2; have hown2 := hown)
    | (go_at_call 22; with_reducible (refine Calls.mono (HSU.out _ hbw) ?_); rintro e w3 ⟨rfl, rfl⟩))
  have hown3 : w3.ownsRow w.heap.size 3 1 (.slice (some ⟨g, 0, none⟩) n cap) n ((GV 0).map (Value.int .i64)) := by
    rw [HG0.out]
    have := hb1.size
    refine ⟨hown.1, ?_⟩
    rcases hown.2 with q | ⟨g', cap', cur, q1, q2, q3⟩
    · exact Or.inl q
    · exact Or.inr ⟨g', cap', cur, q1, by omega, q3⟩
  have R0 := Lib.hid (And.intro hown3 hbw)
  clear hown hown2 hown3 hbw hb1 hb2 HR HCL HSU
  go_loopw [23] (fun i wx => ∃ j : Nat, j ≤ L0 ∧ i = .int .i64 (j : Int) ∧ Hid (wx.ownsRow w.heap.size 3 1 (.slice (some ⟨g, 0, none⟩) n cap) n ((GV j).map (Value.int .i64)) ∧ Below w.heap.size w wx)) (fun i _ => L0 - (intOf i).toNat)
  case atStart => exact ⟨0, by omega, rfl, R0⟩
  case round =>
    clear R0
    obtain ⟨j, hj, rfl, hS⟩ := hrel
    by_cases hlt : j < L0
    · have k1 : (j : Int) < (L0 : Int) := by omega
      have k0 : (0 : Int) ≤ (j : Int) := by omega
      obtain ⟨hv, hbel⟩ := hS.out
      have hl1 := HGL.out j
      have hgs := HGS.out j
      have HGEj : Hid (∀ i, i < n → 0 ≤ (GV j).getD i 0 ∧ (GV j).getD i 0 ≤ 1024) := fun i hi => by have := HGE.out j i hi; omega
      obtain ⟨X, hX⟩ : ∃ X, X = GV j := ⟨_, rfl⟩
      simp only [← hX] at hv hl1 hgs HGEj
      have hI : Ints wr wr.heap.size .i64 (some ⟨g, 0, none⟩) X := Ints.of_own (c := cap) (n := n) (by rw [hl1]; exact hv)
      have HK := Lib.hid (HKE.out wr (some ⟨g, 0, none⟩) cap X hbel hI hl1 HGEj.out)
      have hbl := HBL.out X (n - 1)
      obtain ⟨b, hb⟩ : ∃ b, b = BA X (n - 1) := ⟨_, rfl⟩
      rw [← hb] at hbl HK hgs
      have hbn : b < n := by omega
      have hge := HGEj.out b hbn
      have c1 : ∀ m, (wr.drewN m).cell? ⟨g, b, none⟩ = some (.int .i64 (X.getD b 0)) := fun m => own_atG hv (i := b) (by omega)
      have f1 : ∀ m, (wr.drewN m).frozen? ⟨g, b, none⟩ = false := fun m => hv.frozenAt b
      have R3 : Hid (∀ m, ((wr.drewN m).setCell ⟨g, b, none⟩ (.int .i64 (X.getD b 0 + 1))).ownsRow w.heap.size 3 1 (.slice (some ⟨g, 0, none⟩) n cap) n ((GV (j + 1)).map (Value.int .i64)) ∧ Below w.heap.size w ((wr.drewN m).setCell ⟨g, b, none⟩ (.int .i64 (X.getD b 0 + 1)))) := fun m => by
        have hvm : (wr.drewN m).ownsRow w.heap.size 3 1 (.slice (some ⟨g, 0, none⟩) n cap) n (X.map (Value.int .i64)) := hv
        have s1 := (hvm.stored b (.int .i64 (X.getD b 0 + 1))).1
        rw [← List.map_set] at s1
        exact ⟨by rw [hgs]; exact s1, (below_drewN hbel m).setCell (p := ⟨g, b, none⟩) (hvm.lt g rfl).1 _⟩
      obtain ⟨y, hy⟩ : ∃ y, y = X.getD b 0 := ⟨_, rfl⟩
      rw [← hy] at hge R3
      simp only [← hy] at c1
      have v9 : IntKind.i64.wrap (y + 1) = y + 1 := IntWalk.i64_in _ (by omega)
      have k2 : (b : Int) < (n : Int) := by omega
      have b0' : (0 : Int) ≤ (b : Int) := by omega
      clear hv hbel hy hb hgs hbl hI hl1 hX hS
      go_wp2_with (go_at_call 23; with_reducible (refine Calls.mono HK.out ?_); rintro e w4 ⟨rfl, m4, rfl⟩; have c2 := c1 m4; have f2 := f1 m4)
      go_roundw
      case rel => first | exact ⟨j + 1, by omega, by go_num, R3.out m4⟩ | ((repeat apply Exists.intro); exact ⟨⟨j + 1, by omega, by go_num, R3.out m4⟩, rfl⟩)
      case measure => simp [intOf]; omega
    · have hjL : L0 = j := by omega
      have hl1 := HGL.out j
      have HIN : Hid (Ints wr wr.heap.size .i64 (some ⟨g, 0, none⟩) (GV L0) ∧ Below w.heap.size w wr) := by
        unfold Hid
        rw [hjL]
        exact ⟨Ints.of_own (c := cap) (n := n) (by rw [hl1]; exact hS.out.1), hS.out.2⟩
      have k1 : ¬ (j : Int) < (L0 : Int) := by omega
      have HNC := Lib.hid hnc
      clear hS hjL hl1
      go_wp2
      go_ret2
      exact ⟨_, _, rfl, HNC.out, HIN.out.1, HIN.out.2⟩

theorem greedy_bad (total : Int) (A0 A1 : Option Addr) (c0 c1 : Nat) (L : List Int) (ps : List Cur) (w : World) (h : Asked w total A0 A1 c0 c1 L ps) (hE : solveE total L (ps.map Cur.l) ≠ 0) :
    Calls Try.prog 9 #[.int .i64 total, .slice A0 L.length c0, .slice A1 ps.length c1] w fun e w' => e = .returned (.tuple #[.slice none 0 0, .int .i64 (solveE total L (ps.map Cur.l))]) ∧ Below w.heap.size w w' := by
  have HR := Lib.hid (refusal_any total A0 A1 c0 c1 L ps w h)
  obtain ⟨E, hEe⟩ : ∃ E, E = solveE total L (ps.map Cur.l) := ⟨_, rfl⟩
  rw [← hEe] at HR hE ⊢
  have d0 : (E != 0) = true := by rw [bne_iff_ne]; exact hE
  obtain ⟨n, hn⟩ : ∃ n, n = ps.length := ⟨_, rfl⟩
  obtain ⟨l, hl⟩ : ∃ n, n = L.length := ⟨_, rfl⟩
  rw [← hn, ← hl] at HR ⊢
  clear h hE hEe hn hl
  go_enter Try.func9, Try.ntmps9
  go_wp2_with (go_at_call 20; with_reducible (refine Calls.mono HR.out ?_); rintro e w1 ⟨rfl, hb1⟩)
  go_ret2
  exact ⟨rfl, hb1⟩

end Go.Proofs.Ytnpdffcplgjbnaa
