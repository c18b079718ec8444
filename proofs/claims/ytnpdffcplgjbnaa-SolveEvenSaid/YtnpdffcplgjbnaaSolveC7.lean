/-
  The landed solve: what all curves bring (plan).
-/
import Derived.Test.YtnpdffcplgjbnaaSolveC6
import Derived.Test.YtnpdffcplgjbnaaSolvePlanM
namespace Go.Proofs.Ytnpdffcplgjbnaa
open Go.RowKit

/-! ### A row of rows in a block of its own -/
def rowV (p : Cur) : Value := .slice p.A p.l.length p.c
def TakeAt (g : Nat) (rows : List Cur) (w : World) : Prop :=
  w.heap[g]? = some (.cells (rows.map rowV).toArray 22 (0, 0)) ∧ ∀ i, (h : i < rows.length) → Ints w w.heap.size .i64 rows[i].A rows[i].l ∧ ∀ b o, rows[i].A = some ⟨b, o, none⟩ → b ≠ g
section
variable {g : Nat} {rows : List Cur} {w w' : World}
theorem TakeAt.lt (h : TakeAt g rows w) : g < w.heap.size := (Array.getElem?_eq_some_iff.1 h.1).1
theorem TakeAt.cell (h : TakeAt g rows w) {i : Nat} (hi : i < rows.length) : w.cell? ⟨g, i, none⟩ = some (.slice rows[i].A rows[i].l.length rows[i].c) := by
  rw [cell_of_row _ _ _ _ _ _ h.1]
  simp [rowV, hi]
theorem TakeAt.thaw (h : TakeAt g rows w) (i : Nat) : w.frozen? ⟨g, i, none⟩ = false := frozen_of_row _ _ _ _ _ h.1
theorem TakeAt.drewN (h : TakeAt g rows w) (n : Nat) : TakeAt g rows (w.drewN n) := h
theorem TakeAt.below (h : TakeAt g rows w) (hb : Below w.heap.size w w') : TakeAt g rows w' :=
  ⟨by rw [hb.block g h.lt]; exact h.1, fun i hi => ⟨((h.2 i hi).1.below hb).more hb.size, (h.2 i hi).2⟩⟩
theorem TakeAt.set (h : TakeAt g rows w) (i : Nat) (p : Cur) (hp : Ints w w.heap.size .i64 p.A p.l) (hg : ∀ b o, p.A = some ⟨b, o, none⟩ → b ≠ g) : TakeAt g (rows.set i p) (w.setCell ⟨g, i, none⟩ (rowV p)) := by
  have keep : ∀ q : Cur, Ints w w.heap.size .i64 q.A q.l → (∀ b o, q.A = some ⟨b, o, none⟩ → b ≠ g) → Ints (w.setCell ⟨g, i, none⟩ (rowV p)) (w.setCell ⟨g, i, none⟩ (rowV p)).heap.size .i64 q.A q.l := fun q hq hn j hj => by
    obtain ⟨b, o, e, hb, hc⟩ := hq j hj
    exact ⟨b, o, e, by simpa [World.setCell] using hb, by rw [World.cell?_setCell_far _ _ _ _ (Ne.symm (hn b o e))]; exact hc⟩
  refine ⟨?_, fun j hj => ?_⟩
  · have e : (w.setCell ⟨g, i, none⟩ (rowV p)).heap[g]? = some (.cells (((rows.map rowV).toArray).setIfInBounds i (rowV p)) 22 (0, 0)) := by
      have h' := h.1
      simp [World.setCell, Array.getElem?_modify, h']
    rw [e, List.setIfInBounds_toArray, List.map_set]
  · have hj2 : j < rows.length := by simpa using hj
    rw [List.getElem_set]
    by_cases hij : i = j
    · simp only [if_pos hij]; exact ⟨keep p hp hg, hg⟩
    · simp only [if_neg hij]; exact ⟨keep _ (h.2 j hj2).1 (h.2 j hj2).2, (h.2 j hj2).2⟩
theorem TakeAt.other (h : TakeAt g rows w) {k : Nat} (hk : g ≠ k) (i : Nat) (v : Value) (hr : ∀ j, (hj : j < rows.length) → ∀ b o, rows[j].A = some ⟨b, o, none⟩ → b ≠ k) : TakeAt g rows (w.setCell ⟨k, i, none⟩ v) :=
  ⟨by rw [Below.heap_setCell _ _ _ _ (show g ≠ (⟨k, i, none⟩ : Addr).block from hk)]; exact h.1, fun j hj => ⟨fun n hn => by
    obtain ⟨b, o, e, hb, hc⟩ := (h.2 j hj).1 n hn
    exact ⟨b, o, e, by simpa [World.setCell] using hb, by rw [World.cell?_setCell_far _ _ _ _ (Ne.symm (hr j hj b o e))]; exact hc⟩, (h.2 j hj).2⟩⟩
end
theorem Try.infoRow : (Try.prog.info? 22).map (fun i => (i.zero, i.size, i.bytes)) = some (some (.slice none 0 0), 1, 24) := by kernel_rfl
def noRow : Cur := ⟨none, 0, []⟩
theorem makeRows (n : Nat) (hn : n ≤ 100000) (w : World) : (Instr.makeSlice 52 (.int .i64 (n : Int)) (.int .i64 (n : Int))).run Try.prog w = .ok (.slice (some ⟨w.heap.size, 0, none⟩) n n) (w.alloc (.cells ((List.replicate n noRow).map rowV).toArray 22)) := by
  have h := run_make_row' (P := Try.prog) 52 22 (.slice none 0 0) 24 Try.underlying52 Try.infoRow rfl .i64 .i64 n (by omega) (by omega) w
  rw [show madeCells #[Value.slice none 0 0] n = ((List.replicate n noRow).map rowV).toArray from Array.toList_inj.1 (by rw [toList_madeCells_one]; simp [rowV, noRow])] at h
  exact h
theorem TakeAt.new (w : World) (n : Nat) : TakeAt w.heap.size (List.replicate n noRow) (w.alloc (.cells ((List.replicate n noRow).map rowV).toArray 22)) := by
  refine ⟨heap_alloc_new w _, fun i hi => ?_⟩
  rw [List.getElem_replicate]
  exact ⟨Ints.nil _ _ _ _, fun b o e => by cases e⟩

set_option maxHeartbeats 3200000 in
set_option maxRecDepth 20000 in
theorem plan_go (L0 : Nat) (A0 A1 : Option Addr) (c0 c1 : Nat) (L : List Int) (ps : List Cur) (w : World) (h0 : Ints w w.heap.size .i64 A0 L) (h1 : Curs w w.heap.size A1 ps) (hL0 : L0 ≤ 512) (hk : L.length = ps.length) (hn : 1 ≤ ps.length ∧ ps.length ≤ 16)
    (hs : ∀ i, i < ps.length → soundL ((ps.map Cur.l).getD i []) = true) (hL : ∀ z ∈ L, 0 ≤ z ∧ z ≤ 512) :
    Calls Try.prog 26 #[.int .i64 (L0 : Int), .slice A0 L.length c0, .slice A1 ps.length c1] w fun e w' => ∃ rows : List Cur, e = .returned (.tuple #[.int .i64 ((bringsOf L (ps.map Cur.l) (L0 + 1)).getD L0 0), .slice (some ⟨w.heap.size, 0, none⟩) ps.length ps.length]) ∧ rows.map Cur.l = takesOf L (ps.map Cur.l) (L0 + 1) ∧ TakeAt w.heap.size rows w' ∧ Below w.heap.size w w' := by
  have hlc : (ps.map Cur.l).length = ps.length := List.length_map _
  have hsm : ∀ c ∈ ps.map Cur.l, soundL c = true := fun c hc => by
    obtain ⟨i, hi, rfl⟩ := List.getElem_of_mem hc
    have := hs i (by omega)
    rwa [List.getD_eq_getElem?_getD, List.getElem?_eq_getElem hi] at this
  obtain ⟨Bf, hBf⟩ : ∃ B : Nat → List Int, B = fun i => bringsOf (L.drop i) ((ps.map Cur.l).drop i) (L0 + 1) := ⟨_, rfl⟩
  obtain ⟨Tf, hTf⟩ : ∃ B : Nat → List (List Int), B = fun i => takesOf (L.drop i) ((ps.map Cur.l).drop i) (L0 + 1) := ⟨_, rfl⟩
  have HAH : Hid (∀ W i gb, Below w.heap.size w W → (hi : i < ps.length) → IRow 3 gb (Bf (i + 1)) W → Calls Try.prog 33 #[.slice ps[i].A ps[i].l.length ps[i].c, .int .i64 (L.getD i 0), .slice (some ⟨gb, 0, none⟩) (L0 + 1) (L0 + 1)] W fun e w' => ∃ g1 g2, e = .returned (.tuple #[.slice (some ⟨g1, 0, none⟩) (L0 + 1) (L0 + 1), .slice (some ⟨g2, 0, none⟩) (L0 + 1) (L0 + 1)]) ∧ W.heap.size ≤ g1 ∧ W.heap.size ≤ g2 ∧ IRow 3 g1 (Bf i) w' ∧ IRow 3 g2 (aheadT ((ps.map Cur.l).getD i []) (L.getD i 0) (Bf (i + 1))) w' ∧ Below W.heap.size W w') := fun W i gb hW hi hr => by
    obtain ⟨_, _, _, _, _, ok⟩ := h1 i hi
    have hg : (ps.map Cur.l).getD i [] = ps[i].l := by simp [List.getD, hi]
    have hss := hs i hi
    have hB1 : Bf i = aheadB ((ps.map Cur.l).getD i []) (L.getD i 0) (Bf (i + 1)) := by rw [hBf]; exact bringsOf_drop (L0 + 1) (by omega) (by omega)
    have hbl : (Bf (i + 1)).length = L0 + 1 := by rw [hBf]; exact bringsOf_len _ _ _
    have hbb : ∀ j, j < (Bf (i + 1)).length → 0 ≤ (Bf (i + 1)).getD j 0 ∧ (Bf (i + 1)).getD j 0 ≤ 72057594037927936 := fun j hj => by
      have := bringsOf_bounds ((ps.map Cur.l).drop (i + 1)) (L.drop (i + 1)) (L0 + 1) (fun c hc => hsm c (List.mem_of_mem_drop hc)) j (by omega)
      rw [hBf]
      have e : ((ps.map Cur.l).drop (i + 1)).length ≤ 16 := by rw [List.length_drop]; omega
      simp only [] at this ⊢
      omega
    rw [hB1, hg]
    rw [hg] at hss
    have := ahead_go ps[i].A ps[i].c ps[i].l (L.getD i 0) (some ⟨gb, 0, none⟩) (L0 + 1) (Bf (i + 1)) W ((ok.ints.below hW).more hW.size) hss (hL _ (getD_mem (by omega))) hr.ints (by omega) hbb
    rw [hbl] at this
    exact this
  have HPC : Hid (∀ W, Below w.heap.size w W → ∀ i (hi : i < ps.length), ∃ b o, A1 = some ⟨b, o, none⟩ ∧ W.cell? ⟨b, o + i, none⟩ = some (.slice ps[i].A ps[i].l.length ps[i].c)) := fun W hb i hi => by
    obtain ⟨b, o, e, hbl, q, _⟩ := h1 i hi
    exact ⟨b, o, e, by rw [hb.cell (p := ⟨b, o + i, none⟩) hbl]; exact q⟩
  have HLC : Hid (∀ W, Below w.heap.size w W → ∀ i, i < ps.length → ∃ b o, A0 = some ⟨b, o, none⟩ ∧ W.cell? ⟨b, o + i, none⟩ = some (.int .i64 (L.getD i 0))) := fun W hb i hi => by
    obtain ⟨b, o, e, hbl, q⟩ := h0 i (by omega)
    exact ⟨b, o, e, by rw [hb.cell (p := ⟨b, o + i, none⟩) hbl]; exact q⟩
  have HT1 : Hid (∀ i (_ : i < ps.length) (rows : List Cur) (p : Cur), rows.length = ps.length → (rows.drop (i + 1)).map Cur.l = Tf (i + 1) → p.l = aheadT ((ps.map Cur.l).getD i []) (L.getD i 0) (Bf (i + 1)) → ((rows.set i p).drop i).map Cur.l = Tf i) := fun i hi rows p hr h2 h3 => by
    rw [map_set_drop Cur.l rows p (by omega), h2, h3, hTf, hBf]
    exact (takesOf_drop (L0 + 1) (by omega) (by omega)).symm
  have HTN : Hid (∀ rows : List Cur, rows.length = ps.length → (rows.drop ps.length).map Cur.l = Tf ps.length) := fun rows hr => by
    rw [← hr, List.drop_length, hr, hTf]
    have := takesOf_none L (ps.map Cur.l) (L0 + 1) (by omega)
    rw [hlc] at this
    simp only [this]; rfl
  have HT0 : Hid (Tf 0 = takesOf L (ps.map Cur.l) (L0 + 1)) := by unfold Hid; rw [hTf]; rfl
  have HBN : Hid (Bf ps.length = List.replicate (L0 + 1) 0) := by
    have := bringsOf_none L (ps.map Cur.l) (L0 + 1) (by omega)
    rw [hlc] at this
    unfold Hid; rw [hBf]; exact this
  have HB0 : Hid (Bf 0 = bringsOf L (ps.map Cur.l) (L0 + 1)) := by unfold Hid; rw [hBf]; rfl
  have HBL : Hid (∀ i, (Bf i).length = L0 + 1) := fun i => by rw [hBf]; exact bringsOf_len _ _ _
  have HTL : Hid (∀ i, (aheadT ((ps.map Cur.l).getD i []) (L.getD i 0) (Bf (i + 1))).length = L0 + 1) := fun i => by rw [aheadT_len, hBf]; exact bringsOf_len _ _ _
  rw [← HT0.out, ← HB0.out]
  obtain ⟨y, hy⟩ : ∃ y, y = (Bf 0).getD L0 0 := ⟨_, rfl⟩
  rw [← hy]
  have HYV := Lib.hid hy
  clear hy
  obtain ⟨AT, hAT⟩ : ∃ A : Nat → List Int, A = fun i => aheadT ((ps.map Cur.l).getD i []) (L.getD i 0) (Bf (i + 1)) := ⟨_, rfl⟩
  have hATT : ∀ i, aheadT ((ps.map Cur.l).getD i []) (L.getD i 0) (Bf (i + 1)) = AT i := fun i => by rw [hAT]
  simp only [hATT] at HAH HT1 HTL
  obtain ⟨F, hF⟩ : ∃ F : Nat → Int, F = fun i => L.getD i 0 := ⟨_, rfl⟩
  have hFF : ∀ i, L.getD i 0 = F i := fun i => by rw [hF]
  simp only [hFF] at HAH HLC
  rw [hk]
  obtain ⟨n, hnn⟩ : ∃ n, n = ps.length := ⟨_, rfl⟩
  have HNN := Lib.hid hnn
  simp only [← hnn] at HLC HT1 HTN HBN ⊢
  have hmk1 := makeRows n (by omega)
  have hmk2 := makeP (L0 + 1) (by omega)
  rw [show ((L0 + 1 : Nat) : Int) = (L0 : Int) + 1 by omega] at hmk2
  obtain ⟨Z1, hZ1⟩ : ∃ Z, Z = ((List.replicate n noRow).map rowV).toArray := ⟨_, rfl⟩
  obtain ⟨Z2, hZ2⟩ : ∃ Z, Z = ICs (List.replicate (L0 + 1) 0) := ⟨_, rfl⟩
  rw [← hZ1] at hmk1
  rw [← hZ2] at hmk2
  have HS0 : Hid (IRow 3 (w.heap.size + 1) (Bf n) ((w.alloc (.cells Z1 22)).alloc (.cells Z2 3)) ∧ TakeAt w.heap.size (List.replicate n noRow) ((w.alloc (.cells Z1 22)).alloc (.cells Z2 3)) ∧ Below w.heap.size w ((w.alloc (.cells Z1 22)).alloc (.cells Z2 3))) := by
    have e : (w.alloc (.cells Z1 22)).heap.size = w.heap.size + 1 := by simp
    have q1 : TakeAt w.heap.size (List.replicate n noRow) (w.alloc (.cells Z1 22)) := by rw [hZ1]; exact TakeAt.new w n
    have q2 := IRow.new (w.alloc (.cells Z1 22)) 3 (List.replicate (L0 + 1) 0)
    rw [e, ← hZ2] at q2
    refine ⟨by rw [HBN.out]; exact q2, q1.below ((Below.refl _ _).alloc (Nat.le_refl _) _), ((Below.refl _ _).alloc (Nat.le_refl _) _).alloc (by simp) _⟩
  have n1 : (1 : Int) ≤ (n : Int) := by omega
  have n16 : (n : Int) ≤ 16 := by omega
  have l16 : (L0 : Int) ≤ 512 := by omega
  have mixed : Try.prog.follows .mixedOrders = true := by kernel_rfl
  clear h0 h1 hk hs hsm hL hlc hBf hTf hAT hATT hF hFF hZ1 hZ2 HT0 HB0 HBN hnn hn
  go_enter Try.func26, Try.ntmps26
  go_wp2
  go_loopw [8, 9] (fun v i wr => ∃ (m gb : Nat) (rows : List Cur), m ≤ n ∧ i = .int .i64 ((m : Int) - 1) ∧ v = .slice (some ⟨gb, 0, none⟩) (L0 + 1) (L0 + 1) ∧ Hid (IRow 3 gb (Bf m) wr ∧ gb ≠ w.heap.size ∧ rows.length = n ∧ (rows.drop m).map Cur.l = Tf m ∧ TakeAt w.heap.size rows wr ∧ Below w.heap.size w wr)) (fun _ i _ => (intOf i + 1).toNat)
  case atStart => exact ⟨n, w.heap.size + 1, List.replicate n noRow, Nat.le_refl _, by go_num, by first | rfl | (go_num; rfl), HS0.out.1, by omega, by simp, HTN.out _ (by simp), HS0.out.2.1, HS0.out.2.2⟩
  case round =>
    clear HS0 hmk1 hmk2
    obtain ⟨m, gb, rows, hm, rfl, rfl, hS⟩ := hrel
    by_cases hm0 : 1 ≤ m
    · obtain ⟨i, rfl⟩ : ∃ i, m = i + 1 := ⟨m - 1, by omega⟩
      have e1 : ((i + 1 : Nat) : Int) - 1 = (i : Int) := by omega
      rw [e1]
      obtain ⟨hrow, hgb, hlen, hdr, htk, hbel⟩ := hS.out
      have i0 : (0 : Int) ≤ (i : Int) := by omega
      have i1 : (i : Int) < (n : Int) := by omega
      obtain ⟨d, o, rfl, p1⟩ := HPC.out wr hbel i (by have := HNN.out; omega)
      obtain ⟨d2, o2, rfl, p2⟩ := HLC.out wr hbel i (by omega)
      have HA := Lib.hid (HAH.out wr.drew i gb (below_drewN hbel 1) (by have := HNN.out; omega) hrow)
      obtain ⟨qA, hqA⟩ : ∃ x, x = (ps[i]'(by have := HNN.out; omega)).A := ⟨_, rfl⟩
      obtain ⟨ql, hql⟩ : ∃ x, x = (ps[i]'(by have := HNN.out; omega)).l.length := ⟨_, rfl⟩
      obtain ⟨qc, hqc⟩ : ∃ x, x = (ps[i]'(by have := HNN.out; omega)).c := ⟨_, rfl⟩
      rw [← hqA, ← hql, ← hqc] at p1 HA
      obtain ⟨x, hx⟩ : ∃ x, x = F i := ⟨_, rfl⟩
      rw [← hx] at p2 HA
      have HOLD : Hid (∃ old, ∀ W, Below wr.heap.size wr W → W.cell? ⟨w.heap.size, i, none⟩ = some old ∧ W.frozen? ⟨w.heap.size, i, none⟩ = false) := by
        refine ⟨.slice (rows[i]'(by omega)).A (rows[i]'(by omega)).l.length (rows[i]'(by omega)).c, fun W hW => ?_⟩
        have := htk.below hW
        exact ⟨this.cell (by omega), this.thaw i⟩
      obtain ⟨old, hold⟩ := HOLD.out
      have HO := Lib.hid hold
      have HR : Hid (∀ W g1 g2, Below wr.heap.size wr W → wr.heap.size ≤ g1 → wr.heap.size ≤ g2 → IRow 3 g1 (Bf i) W → IRow 3 g2 (AT i) W → ∃ rows' : List Cur,
          IRow 3 g1 (Bf i) (W.setCell ⟨w.heap.size, i, none⟩ (.slice (some ⟨g2, 0, none⟩) (L0 + 1) (L0 + 1))) ∧ g1 ≠ w.heap.size ∧ rows'.length = n ∧ (rows'.drop i).map Cur.l = Tf i ∧ TakeAt w.heap.size rows' (W.setCell ⟨w.heap.size, i, none⟩ (.slice (some ⟨g2, 0, none⟩) (L0 + 1) (L0 + 1))) ∧ Below w.heap.size w (W.setCell ⟨w.heap.size, i, none⟩ (.slice (some ⟨g2, 0, none⟩) (L0 + 1) (L0 + 1)))) := fun W g1 g2 hW hg1 hg2 r1 r2 => by
        have hlt := htk.lt
        have hsz := hbel.size
        have hal := HTL.out i
        have t1 := (htk.below hW).set i ⟨some ⟨g2, 0, none⟩, L0 + 1, AT i⟩ r2.ints (fun b o e => by injection e with e; injection e with e1 _; omega)
        have e2 : rowV ⟨some ⟨g2, 0, none⟩, L0 + 1, AT i⟩ = .slice (some ⟨g2, 0, none⟩) (L0 + 1) (L0 + 1) := by show Value.slice _ (AT i).length _ = _; rw [hal]
        rw [e2] at t1
        refine ⟨rows.set i ⟨some ⟨g2, 0, none⟩, L0 + 1, AT i⟩, r1.other (by omega) i _, by omega, by simpa using hlen, ?_, t1, (hbel.trans (hW.mono hbel.size)).setCell (p := ⟨w.heap.size, i, none⟩) (Nat.le_refl _) _⟩
        exact HT1.out i (by omega) rows _ hlen hdr rfl
      clear hS hrow hlen hdr htk hx hqA hql hqc hold HOLD HAH HPC HLC HT1 HTL HTN HBL
      have hbr : Hid (Below wr.heap.size wr wr.drew) := below_drewN (Below.refl wr.heap.size wr) 1
      go_wp2
      go_region_with (first
        | (go_at_call 33; with_reducible (refine Calls.mono HA.out ?_); rintro e w2 ⟨g1, g2, rfl, hg1, hg2, r1, r2, hb2⟩; have hbw := chain hbr.out hb2; have hc2 := (HO.out w2 hbw).1; have hf2 := (HO.out w2 hbw).2))
      all_goals
        have HX := Lib.hid (HR.out w2 g1 g2 hbw hg1 hg2 r1 r2)
        clear HR HO HA hbr hbel hbw hb2 r1 r2 hc2 hf2 p1 p2
        go_wp2
        go_roundw
        case rel =>
          obtain ⟨rows2, R⟩ := HX.out
          first | exact ⟨i, g1, rows2, by omega, by go_num, rfl, R⟩ | ((repeat apply Exists.intro); exact ⟨⟨i, g1, rows2, by omega, by go_num, rfl, R⟩, rfl⟩)
        case measure => first | (simp [intOf]; done) | (simp [intOf]; omega)
    · have hm8 : m = 0 := by omega
      subst hm8
      obtain ⟨hrow, _, hlen, hdr, htk, hbel⟩ := hS.out
      rw [List.drop_zero] at hdr
      have c1 := hrow.cell (i := L0) (by rw [HBL.out]; omega)
      have R := Lib.hid (And.intro hdr (And.intro htk hbel))
      have l1 : (L0 : Int) < (L0 : Int) + 1 := by omega
      rw [← HYV.out] at c1
      clear hS hrow hdr htk hbel HAH HPC HLC HT1 HTL HTN HBL
      go_wp2
      go_ret2
      exact ⟨rows, rfl, R.out.1, R.out.2.1, R.out.2.2⟩

end Go.Proofs.Ytnpdffcplgjbnaa
