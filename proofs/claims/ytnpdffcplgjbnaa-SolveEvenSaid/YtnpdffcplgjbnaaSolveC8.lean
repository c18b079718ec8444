/-
  The landed solve: Best.
-/
import Derived.Test.YtnpdffcplgjbnaaSolveC7
import Derived.OwnWalk
namespace Go.Proofs.Ytnpdffcplgjbnaa
open Go.RowKit

set_option maxHeartbeats 3200000 in
set_option maxRecDepth 20000 in
theorem best_go (total : Int) (A0 A1 : Option Addr) (c0 c1 : Nat) (L : List Int) (ps : List Cur) (w : World) (h : Asked w total A0 A1 c0 c1 L ps) (hE : solveE total L (ps.map Cur.l) = 0) :
    Calls Try.prog 14 #[.int .i64 total, .slice A0 L.length c0, .slice A1 ps.length c1] w fun e w' => ∃ A c, e = .returned (.tuple #[.slice A L.length c, .int .i64 (bestR L (ps.map Cur.l) total).2, .int .i64 0]) ∧ (bestR L (ps.map Cur.l) total).1.length = L.length ∧ L.length ≤ c ∧ Ints w' w'.heap.size .i64 A (bestR L (ps.map Cur.l) total).1 ∧ Below w.heap.size w w' := by
  have HR := Lib.hid (refusal_any total A0 A1 c0 c1 L ps w h)
  rw [hE] at HR
  have hlc : (ps.map Cur.l).length = ps.length := List.length_map _
  obtain ⟨t0, ht, p1, p16, hk, hL, hs, hsum⟩ := solveE_ok hE
  rw [hlc] at p1 p16 hk hs
  have h0 := h.row
  have h1 := h.curves
  obtain ⟨b0, o0, rfl, hb0, _⟩ := h0.at_ (by omega)
  have hsum0 : 0 ≤ L.sum := sum_nonneg fun z hz => (hL z hz).1
  obtain ⟨L0, hL0⟩ : ∃ L0 : Nat, (L0 : Int) = total - L.sum := ⟨(total - L.sum).toNat, by omega⟩
  have hsm : ∀ c ∈ ps.map Cur.l, soundL c = true := fun c hc => by
    obtain ⟨i, hi, rfl⟩ := List.getElem_of_mem hc
    have := hs i (by omega)
    rwa [List.getD_eq_getElem?_getD, List.getElem?_eq_getElem hi] at this
  have hpb := plan_best (ps.map Cur.l) L (L0 + 1) (by omega) (by omega) (fun z hz => (hL z hz).1) hsm L0 (by omega)
  rw [show L.sum + (L0 : Int) = total by omega] at hpb
  have hwk := walk_share L (takesOf L (ps.map Cur.l) (L0 + 1)) L0 (by rw [takesOf_len _ _ _ (by omega)]; omega)
  rw [hwk] at hpb
  rw [← hpb.1, ← hpb.2]
  have HSU := Lib.hid (fun (W : World) (hb : Below w.heap.size w W) => sumV_any (some ⟨b0, o0, none⟩) c0 L W ((h0.below hb).more hb.size) (by omega) hL)
  have HCL := Lib.hid (fun (W : World) (hb : Below w.heap.size w W) => cloneI_any b0 o0 c0 L.length L W ((h0.below hb).more hb.size) rfl (by omega) (by omega))
  have HPL := Lib.hid (fun (W : World) (hb : Below w.heap.size w W) => plan_go L0 (some ⟨b0, o0, none⟩) A1 c0 c1 L ps W ((h0.below hb).more hb.size) ((h1.below hb).more hb.size) (by omega) hk ⟨p1, p16⟩ hs hL)
  obtain ⟨ts, hts⟩ : ∃ ts, ts = takesOf L (ps.map Cur.l) (L0 + 1) := ⟨_, rfl⟩
  have HTS : Hid (∀ k, k < L.length → (ts.getD k []).length = L0 + 1 ∧ ∀ i, i ≤ L0 → 0 ≤ (ts.getD k []).getD i 0 ∧ (ts.getD k []).getD i 0 ≤ (i : Int)) := fun k hkk => by
    rw [hts]
    have := takesOf_at L (ps.map Cur.l) (L0 + 1) (by omega) k (by omega)
    exact ⟨this.1, fun i hi => this.2 i (by omega)⟩
  have HTLn : Hid (ts.length = L.length) := by unfold Hid; rw [hts, takesOf_len _ _ _ (by omega)]; omega
  rw [← hts] at HPL ⊢
  have HSZ := Lib.hid (shareAt_zero L ts L0)
  have HSN := Lib.hid (fun i => shareAt_next L ts L0 i)
  have HSL := Lib.hid (fun i => shareAt_len L ts L0 i)
  have HSB := Lib.hid (fun i (hi : i < L.length) => shareAt_bounds (ts := ts) (K := L0) hL hi (Nat.le_refl i))
  have HSG := Lib.hid (fun i (hi : i < L.length) => shareAt_get L ts L0 hi)
  have HLL := Lib.hid (fun i => leftAt_le ts L0 i)
  have HLN : Hid (∀ i, leftAt ts L0 (i + 1) = leftAt ts L0 i - ((ts.getD i []).getD (leftAt ts L0 i) 0).toNat) := fun i => rfl
  have HL0 : Hid (leftAt ts L0 0 = L0) := rfl
  obtain ⟨S, hS⟩ : ∃ S, S = shareAt L ts L0 := ⟨_, rfl⟩
  simp only [← hS] at HSZ HSN HSL HSB HSG ⊢
  obtain ⟨P, hP⟩ : ∃ S, S = leftAt ts L0 := ⟨_, rfl⟩
  simp only [← hP] at HSN HLL HLN HL0
  obtain ⟨M, hM⟩ : ∃ M, M = (bringsOf L (ps.map Cur.l) (L0 + 1)).getD L0 0 := ⟨_, rfl⟩
  simp only [← hM] at HPL ⊢
  have hLsum : L.sum = total - (L0 : Int) := by omega
  rw [hLsum] at HSU
  obtain ⟨n, hn⟩ : ∃ n, n = ps.length := ⟨_, rfl⟩
  have hLn : L.length = n := hk.trans hn.symm
  rw [hLn] at HR HCL HTS HTLn HSL HSB HSG ⊢
  simp only [hLn, ← hn] at HSU HPL
  rw [← hn] at HR ⊢
  have n1 : (1 : Int) ≤ (n : Int) := by omega
  have n16 : (n : Int) ≤ 16 := by omega
  have l1 : (L0 : Int) ≤ 512 := by omega
  have wL : IntKind.i64.wrap (total - (total - (L0 : Int))) = (L0 : Int) := by rw [show total - (total - (L0 : Int)) = (L0 : Int) by omega]; exact IntWalk.i64_in _ (by omega)
  have wL2 : total - (total - (L0 : Int)) = (L0 : Int) := by omega
  clear h hE h0 h1 hk hs hL hlc hsm hpb hwk hts hS hP hM hLsum hn hLn p1 p16 hsum hsum0 hL0
  go_enter Try.func14, Try.ntmps14
  go_wp2_with (first
    | (go_at_call 20; with_reducible (refine Calls.mono HR.out ?_); rintro e w1 ⟨rfl, hb1⟩)
    | (go_at_call 22; with_reducible (refine Calls.mono (HSU.out _ hb1) ?_); rintro e w3 ⟨rfl, rfl⟩)
    | (go_at_call 26; with_reducible (refine Calls.mono (HPL.out _ hb1) ?_); rintro e w4 ⟨rows, rfl, hrt, htk, hb4⟩; have hb5 := chain hb1 hb4)
    | (go_at_call 21; with_reducible (refine Calls.mono (HCL.out _ hb5) ?_); rintro e w6 ⟨g, cap, rfl, hnc, hown, hb6⟩))
  have hrl : rows.length = n := by rw [← HTLn.out, ← hrt, List.length_map]
  have HRW : Hid (∀ W, Below w4.heap.size w4 W → ∀ k, k < n → ∃ b o cc, W.cell? ⟨w3.heap.size, k, none⟩ = some (.slice (some ⟨b, o, none⟩) (L0 + 1) cc) ∧ W.cell? ⟨b, o + P k, none⟩ = some (.int .i64 ((ts.getD k []).getD (P k) 0))) := fun W hW k hkn => by
    have hT := htk.below hW
    have hc := hT.cell (i := k) (by omega)
    have he : (rows[k]'(by omega)).l = ts.getD k [] := by
      rw [← hrt, List.getD_eq_getElem?_getD, List.getElem?_map, List.getElem?_eq_getElem (by omega)]; rfl
    have hI := (hT.2 k (by omega)).1
    rw [he] at hI hc
    obtain ⟨hl, _⟩ := HTS.out k hkn
    rw [hl] at hc
    obtain ⟨b, o, e, _, hcc⟩ := hI.at_ (by omega)
    rw [e] at hc
    exact ⟨b, o, _, hc, hcc (P k) (by have := HLL.out k; omega)⟩
  have hS0 : Hid (w6.ownsRow w4.heap.size 3 1 (.slice (some ⟨g, 0, none⟩) n cap) n ((S 0).map (Value.int .i64)) ∧ Below w4.heap.size w4 w6) := by rw [HSZ.out]; exact ⟨hown, hb6⟩
  have HB5 := Lib.hid hb5
  have HG : Hid (w4.heap.size ≤ g) := (hown.lt g rfl).1
  rw [← HL0.out]
  have HLI : Hid (P 0 = L0) := HL0
  clear hown hb6 htk hrt hrl hb4 hb5 hb1 HR HCL HSU HPL HSZ
  go_loopw [10, 39] (fun l i wr => ∃ k : Nat, k ≤ n ∧ i = .int .i64 k ∧ l = .int .i64 (P k : Nat) ∧ Hid (wr.ownsRow w4.heap.size 3 1 (.slice (some ⟨g, 0, none⟩) n cap) n ((S k).map (Value.int .i64)) ∧ Below w4.heap.size w4 wr)) (fun _ i _ => n - (intOf i).toNat)
  case atStart => exact ⟨0, Nat.zero_le _, rfl, rfl, hS0⟩
  case round =>
    clear hS0
    obtain ⟨k, hk, rfl, rfl, hS⟩ := hrel
    by_cases hlt : k < n
    · have k1 : (k : Int) < (n : Int) := by omega
      have k0 : (0 : Int) ≤ (k : Int) := by omega
      obtain ⟨hv, hbel⟩ := hS.out
      obtain ⟨b, o, cc, q0, q1⟩ := HRW.out wr hbel k hlt
      have hl1 := HSL.out k
      have c1 := own_atG hv (i := k) (by omega)
      have f1 := hv.frozenAt k
      have hll := HLL.out k
      obtain ⟨_, ht9⟩ := HTS.out k hlt
      have htk9 := ht9 (P k) hll
      have hsb := HSB.out k hlt
      have hsn := HSN.out k
      rw [← HSG.out k hlt] at hsn
      have hln := HLN.out k
      obtain ⟨x, hx⟩ : ∃ x, x = (ts.getD k []).getD (P k) 0 := ⟨_, rfl⟩
      rw [← hx] at q1 htk9 hsn hln
      obtain ⟨p, hp⟩ : ∃ p, p = P k := ⟨_, rfl⟩
      rw [← hp] at q1 htk9 hll hln ⊢
      have s1 := (hv.stored k (.int .i64 ((S k).getD k 0 + x))).1
      rw [← List.map_set, hsn] at s1
      have R := Lib.hid (And.intro s1 (hbel.setCell (p := ⟨g, k, none⟩) HG.out (.int .i64 ((S k).getD k 0 + x))))
      obtain ⟨y, hy⟩ : ∃ y, y = (S k).getD k 0 := ⟨_, rfl⟩
      rw [← hy] at c1 hsb R
      have w1 : IntKind.i64.wrap (y + x) = y + x := IntWalk.i64_in _ (by omega)
      have w2 : IntKind.i64.wrap ((p : Int) - x) = (p : Int) - x := IntWalk.i64_in _ (by omega)
      have HLN2 : Hid ((p : Int) - x = ((P (k + 1) : Nat) : Int)) := by unfold Hid; rw [hln]; omega
      have p1 : (p : Int) < (L0 : Int) + 1 := by omega
      have p0 : (0 : Int) ≤ (p : Int) := by omega
      clear hS hv hbel hl1 hll ht9 htk9 hsb hsn hln hx hp s1 hy HRW HTS HSB HSN HSG HLL HLN HSL
      go_wp2
      go_roundw
      case rel => first | exact ⟨k + 1, by omega, by go_num, by rw [HLN2.out], R⟩ | ((repeat apply Exists.intro); exact ⟨⟨k + 1, by omega, by go_num, by rw [HLN2.out], R⟩, rfl⟩)
      case measure => simp [intOf]; omega
    · have hk8 : k = n := by omega
      subst hk8
      have k1 : ¬ (k : Int) < (k : Int) := by omega
      have R : Hid (Ints wr wr.heap.size .i64 (some ⟨g, 0, none⟩) (S k) ∧ Below w.heap.size w wr ∧ k ≤ cap ∧ (S k).length = k) := ⟨Ints.of_own (c := cap) (n := k) (by rw [HSL.out]; exact hS.out.1), chain HB5.out hS.out.2, own_le hS.out.1, HSL.out k⟩
      clear hS HRW HTS HSB HSN HSG HLL HLN HSL
      go_wp2
      go_ret3
      exact ⟨_, _, rfl, R.out.2.2.2, R.out.2.2.1, R.out.1, R.out.2.1⟩

theorem best_bad (total : Int) (A0 A1 : Option Addr) (c0 c1 : Nat) (L : List Int) (ps : List Cur) (w : World) (h : Asked w total A0 A1 c0 c1 L ps) (hE : solveE total L (ps.map Cur.l) ≠ 0) :
    Calls Try.prog 14 #[.int .i64 total, .slice A0 L.length c0, .slice A1 ps.length c1] w fun e w' => e = .returned (.tuple #[.slice none 0 0, .int .i64 0, .int .i64 (solveE total L (ps.map Cur.l))]) ∧ Below w.heap.size w w' := by
  have HR := Lib.hid (refusal_any total A0 A1 c0 c1 L ps w h)
  obtain ⟨E, hEe⟩ : ∃ E, E = solveE total L (ps.map Cur.l) := ⟨_, rfl⟩
  rw [← hEe] at HR hE ⊢
  have d0 : (E != 0) = true := by rw [bne_iff_ne]; exact hE
  obtain ⟨n, hn⟩ : ∃ n, n = ps.length := ⟨_, rfl⟩
  obtain ⟨l, hl⟩ : ∃ n, n = L.length := ⟨_, rfl⟩
  rw [← hn, ← hl] at HR ⊢
  clear h hE hEe hn hl
  go_enter Try.func14, Try.ntmps14
  go_wp2_with (go_at_call 20; with_reducible (refine Calls.mono HR.out ?_); rintro e w1 ⟨rfl, hb1⟩)
  go_ret3
  exact ⟨rfl, hb1⟩

end Go.Proofs.Ytnpdffcplgjbnaa
