/-
  The document's own: slot by slot (stowageref12).
-/
import Derived.Test.YtnpdffcplgjbnaaSolveSum
import Derived.Test.YtnpdffcplgjbnaaArrs
import Derived.Deep.DeepCutAuto
import Derived.Deep.RegionHeld3
namespace Go.Proofs.Ytnpdffcplgjbnaa
open Go.RowKit

theorem Try.infoI64v : (Try.prog.info? 3).map (fun i => (i.zero, i.size, i.bytes)) = some (some (.int .i64 0), 1, 8) := by kernel_rfl
theorem own_atG {w : World} {base g n cap : Nat} {t : TypeId} {l : List Int} (h : w.ownsRow base t 1 (.slice (some ⟨g, 0, none⟩) n cap) n (l.map (Value.int .i64))) {i : Nat} (hi : i < l.length) : w.cell? ⟨g, i, none⟩ = some (.int .i64 (l.getD i 0)) := by
  rw [h.cellAt i (by have := h.1; rw [List.length_map] at this; omega), List.getElem?_map, List.getElem?_eq_getElem hi]
  simp [List.getD_eq_getElem?_getD, hi]

/-! ### Slot by slot, as lists -/
def bestAt (cs : List (List Int)) (X : List Int) (m : Nat) : Nat := bestG (fun i => gainC (cs.getD i []) (X.getD i 0)) m
def oneMore (cs : List (List Int)) (X : List Int) : List Int := X.set (bestAt cs X (cs.length - 1)) (X.getD (bestAt cs X (cs.length - 1)) 0 + 1)
def giveL (cs : List (List Int)) (X : List Int) : Nat → List Int
  | 0 => X
  | j + 1 => oneMore cs (giveL cs X j)
theorem bestAt_le (cs : List (List Int)) (X : List Int) (m : Nat) : bestAt cs X m ≤ m := bestG_le _ m
theorem bestAt_succ (cs : List (List Int)) (X : List Int) (m : Nat) : bestAt cs X (m + 1) = if gainC (cs.getD (bestAt cs X m) []) (X.getD (bestAt cs X m) 0) < gainC (cs.getD (m + 1) []) (X.getD (m + 1) 0) then m + 1 else bestAt cs X m := rfl
theorem giveL_len (cs : List (List Int)) (X : List Int) : ∀ j : Nat, (giveL cs X j).length = X.length
  | 0 => rfl
  | j + 1 => by
    show (oneMore cs (giveL cs X j)).length = _
    unfold oneMore
    rw [List.length_set, giveL_len cs X j]
theorem getD_setI (l : List Int) (b : Nat) (v : Int) (i : Nat) : (l.set b v).getD i 0 = if b = i ∧ i < l.length then v else l.getD i 0 := by
  rw [List.getD_eq_getElem?_getD, List.getD_eq_getElem?_getD, List.getElem?_set]
  by_cases h1 : b = i
  · subst h1
    by_cases h2 : b < l.length
    · rw [if_pos rfl, if_pos h2, if_pos ⟨rfl, h2⟩]; rfl
    · rw [if_pos rfl, if_neg h2, if_neg (fun q => h2 q.2), List.getElem?_eq_none (by omega)]
  · rw [if_neg h1, if_neg (fun q => h1 q.1)]
theorem giveL_bound (cs : List (List Int)) {X : List Int} {B : Int} (h : ∀ i, i < X.length → 0 ≤ X.getD i 0 ∧ X.getD i 0 ≤ B) : ∀ (j i : Nat), i < X.length → 0 ≤ (giveL cs X j).getD i 0 ∧ (giveL cs X j).getD i 0 ≤ B + (j : Int)
  | 0, i, hi => by have := h i hi; show 0 ≤ X.getD i 0 ∧ X.getD i 0 ≤ _; omega
  | j + 1, i, hi => by
    have h1 := giveL_bound cs h j i hi
    show 0 ≤ (oneMore cs (giveL cs X j)).getD i 0 ∧ (oneMore cs (giveL cs X j)).getD i 0 ≤ _
    unfold oneMore
    rw [getD_setI]
    split
    · rename_i q
      rw [q.1]; omega
    · omega

set_option maxHeartbeats 3200000 in
set_option maxRecDepth 20000 in
/-- 'Greedy', of what may be shared. -/
theorem refGreedy_go (total : Int) (A0 A1 : Option Addr) (c0 c1 : Nat) (L : List Int) (ps : List Cur) (w : World) (h0 : Ints w w.heap.size .i64 A0 L) (h1 : Curs w w.heap.size A1 ps) (ht : total ≤ 512) (hk : L.length = ps.length) (h16 : 1 ≤ ps.length ∧ ps.length ≤ 16)
    (hs : ∀ i, i < ps.length → soundL ((ps.map Cur.l).getD i []) = true) (hL : ∀ z ∈ L, 0 ≤ z ∧ z ≤ 512) (hsum : L.sum ≤ total) :
    Calls Try.prog 13 #[.int .i64 total, .slice A0 L.length c0, .slice A1 ps.length c1] w fun e w' => ∃ A c, e = .returned (.slice A L.length c) ∧ L.length ≤ c ∧ Ints w' w'.heap.size .i64 A (giveL (ps.map Cur.l) L (total - L.sum).toNat) ∧ Below w.heap.size w w' := by
  obtain ⟨i0, hi, hz0, hz1, hz2⟩ := info_parts Try.infoI64v
  have hlc : (ps.map Cur.l).length = ps.length := List.length_map _
  have HN1 := Lib.hid (nil_of_ints (c := c0) h0 (by omega))
  have HALL := Lib.hid (fun (W : World) (hb : Below w.heap.size w W) => refAll_any A0 c0 L W ((h0.below hb).more hb.size) (by omega) hL)
  have H0 := Lib.hid h0
  have HP : Hid (∀ W, Below w.heap.size w W → ∀ i (hi : i < ps.length), ∃ b o, A1 = some ⟨b, o, none⟩ ∧ W.cell? ⟨b, o + i, none⟩ = some (.slice ps[i].A ps[i].l.length ps[i].c) ∧
      ∀ z n, 0 ≤ z → z ≤ 1048576 → Calls Try.prog 25 #[.slice ps[i].A ps[i].l.length ps[i].c, .int .i64 z] (W.drewN n) fun e w' => e = .returned (.int .i64 (gainC ((ps.map Cur.l).getD i []) z)) ∧ w' = W.drewN n) := fun W hb i hi => by
    obtain ⟨b, o, e, hbl, q, ok⟩ := h1 i hi
    refine ⟨b, o, e, by rw [hb.cell (p := ⟨b, o + i, none⟩) hbl]; exact q, fun z n z0 z1 => ?_⟩
    have hss := hs i hi
    have hg : (ps.map Cur.l).getD i [] = ps[i].l := by simp [List.getD, hi]
    rw [hg] at hss ⊢
    exact (refGain_any ps[i].A ps[i].c ps[i].l z (W.drewN n) (((ok.ints.below hb).more hb.size) : Ints (W.drewN n) (W.drewN n).heap.size .i64 ps[i].A ps[i].l) hss z0 z1).mono fun e w' ⟨p1, p2⟩ => ⟨p1, p2.symm⟩
  have hsum0 : 0 ≤ L.sum := by
    have := sumK_bounds (l := L) (fun z hz => by have := hL z hz; omega) L.length (Nat.le_refl _)
    unfold sumK at this
    rw [List.take_length] at this
    exact this.1
  have HGE := Lib.hid (fun j i (hi : i < L.length) => giveL_bound (ps.map Cur.l) (B := 512) (X := L) (fun i hi => hL _ (by rw [List.getD_eq_getElem?_getD, List.getElem?_eq_getElem hi]; exact List.getElem_mem hi)) j i hi)
  have HGL := Lib.hid (giveL_len (ps.map Cur.l) L)
  have HGS : Hid (∀ j, giveL (ps.map Cur.l) L (j + 1) = (giveL (ps.map Cur.l) L j).set (bestAt (ps.map Cur.l) (giveL (ps.map Cur.l) L j) (ps.length - 1)) ((giveL (ps.map Cur.l) L j).getD (bestAt (ps.map Cur.l) (giveL (ps.map Cur.l) L j) (ps.length - 1)) 0 + 1)) := fun j => by
    show oneMore _ _ = _
    unfold oneMore
    rw [hlc]
  have HG0 : Hid (giveL (ps.map Cur.l) L 0 = L) := rfl
  have HBS := Lib.hid (bestAt_succ (ps.map Cur.l))
  have HBL := Lib.hid (bestAt_le (ps.map Cur.l))
  have HB0 : Hid (∀ X, bestAt (ps.map Cur.l) X 0 = 0) := fun _ => rfl
  obtain ⟨GV, hGV⟩ : ∃ G, G = giveL (ps.map Cur.l) L := ⟨_, rfl⟩
  simp only [← hGV] at HGE HGL HGS HG0 ⊢
  obtain ⟨BA, hBA⟩ : ∃ G, G = bestAt (ps.map Cur.l) := ⟨_, rfl⟩
  simp only [← hBA] at HGS HBS HBL HB0
  obtain ⟨GC, hGC⟩ : ∃ G : Nat → Int → Int, G = fun i z => gainC ((ps.map Cur.l).getD i []) z := ⟨_, rfl⟩
  have hGCC : ∀ i z, gainC ((ps.map Cur.l).getD i []) z = GC i z := fun i z => by rw [hGC]
  simp only [hGCC] at HP HBS
  obtain ⟨T, hT⟩ : ∃ T, T = L.sum := ⟨_, rfl⟩
  rw [← hT] at HALL hsum hsum0 ⊢
  obtain ⟨n, hn⟩ : ∃ n, n = ps.length := ⟨_, rfl⟩
  rw [hk, ← hn] at HALL HGL
  rw [← hn] at HGS h16
  simp only [hk, ← hn] at HGE
  rw [hk, ← hn]
  have HNN := Lib.hid hn
  have HLN : Hid (L.length = n) := hk.trans hn.symm
  have n1 : (1 : Int) ≤ (n : Int) := by omega
  have n16 : (n : Int) ≤ 16 := by omega
  obtain ⟨L0, hL0⟩ : ∃ L0, L0 = total - T := ⟨_, rfl⟩
  have l0 : 0 ≤ L0 := by omega
  have l1 : L0 ≤ 512 := by omega
  rw [← hL0]
  have HL0 : Hid (total - T = L0) := Lib.hid hL0.symm
  clear h0 h1 hk hs hL hlc hGV hBA hGC hGCC hT hn hL0
  go_enter Try.func13, Try.ntmps13
  go_wp2_with (first
    | (at_builtin; refine wpList_append_when _ rfl (.tmp 11) (.tmp 12) 22 rfl w.heap.size 3 i0 (.int .i64 0) 8 Try.underlying22 hi hz0 hz1 hz2 rfl .i64 (.slice (some ⟨w.heap.size, 0, none⟩) 0 0) [] L w.heap.size c0 n A0 HLN.out rfl rfl (World.ownsRow_made w #[] 0 (Nat.le_refl _) (Nat.zero_le _) rfl) (H0.out.below ((Below.refl _ w).alloc (Nat.le_refl _) _)) HN1.out ?d1 ?d2 (by simp) ?_))
  case d1 => rw [HLN.out]; unfold maxLen; simp; omega
  case d2 => rw [HLN.out]; simp; omega
  intro v4 w4 hown4 hg4 _
  have hb4 : Below w.heap.size w w4 := ((Below.refl w.heap.size w).alloc (Nat.le_refl _) _).grown hg4 (by simp) fun q hq => by simp [Value.ownBlock] at hq; omega
  have hown5 : w4.ownsRow w.heap.size 3 1 v4 n (L.map (Value.int .i64)) := by
    have h := hown4
    have hl := HLN.out
    first
      | exact hl ▸ h
      | (rw [List.nil_append, hl] at h; exact h)
      | (simp only [List.nil_append, hl] at h; exact h)
  obtain ⟨g, cap, hv, hbg, hgl⟩ := hown5.form (by omega)
  subst hv
  have hnc : n ≤ cap := by
    rcases hown5.2 with ⟨h, _⟩ | ⟨_, _, _, h, _, _, h2, _⟩
    · cases h
    · injection h with _ _ h3; omega
  rw [← HG0.out] at hown5
  have R0 := Lib.hid (And.intro hown5 hb4)
  have hb4H := Lib.hid hb4
  clear hown4 hg4 hown5 hb4
  go_wp2_with (go_at_call 24; with_reducible (refine Calls.mono (HALL.out _ hb4H.out) ?_); rintro e w2 ⟨rfl, rfl⟩)
  clear HALL
  go_loopw [8] (fun l wx => ∃ j : Nat, (j : Int) ≤ L0 ∧ l = .int .i64 (L0 - j) ∧ wx.ownsRow w.heap.size 3 1 (.slice (some ⟨g, 0, none⟩) n cap) n ((GV j).map (Value.int .i64)) ∧ Below w.heap.size w wx) (fun l _ => (intOf l).toNat)
  case atStart => exact ⟨0, by omega, by have := HL0.out; simp; omega, R0.out⟩
  case round =>
    clear R0
    obtain ⟨j, hj, rfl, hv, hbel⟩ := hrel
    by_cases hlt : (j : Int) < L0
    · have l2 : (0 : Int) < L0 - (j : Int) := by omega
      have R1 := Lib.hid (And.intro hv hbel)
      have hl1 := HGL.out j
      have hgs := HGS.out j
      have HGEj : Hid (∀ i, i < n → 0 ≤ (GV j).getD i 0 ∧ (GV j).getD i 0 ≤ 1024) := fun i hi => by have := HGE.out j i hi; omega
      obtain ⟨X, hX⟩ : ∃ X, X = GV j := ⟨_, rfl⟩
      simp only [← hX] at R1 hl1 hgs HGEj
      have HGS1 := Lib.hid hgs
      have HBS1 := Lib.hid (HBS.out X)
      have HBL1 := Lib.hid (HBL.out X)
      have HB01 := Lib.hid (HB0.out X)
      clear hv hbel hgs hX
      go_wp2
      go_loopw [9, 10] (fun b i wx => ∃ m : Nat, m + 1 ≤ n ∧ i = .int .i64 ((m : Int) + 1) ∧ b = .int .i64 (BA X m : Nat) ∧ wx.ownsRow w.heap.size 3 1 (.slice (some ⟨g, 0, none⟩) n cap) n (X.map (Value.int .i64)) ∧ Below w.heap.size w wx) (fun _ i _ => n - (intOf i).toNat)
      case atStart => exact ⟨0, by omega, rfl, by rw [HB01.out]; rfl, R1.out⟩
      case round =>
        clear R1
        obtain ⟨m, hm, rfl, rfl, hv, hbel⟩ := hrel
        have hbl := HBL1.out m
        have hbs := HBS1.out m
        obtain ⟨b, hb⟩ : ∃ b, b = BA X m := ⟨_, rfl⟩
        rw [← hb] at hbl hbs ⊢
        by_cases hm1 : m + 1 < n
        · have c1 := own_atG hv (i := m + 1) (by omega)
          have c2 := own_atG hv (i := b) (by omega)
          obtain ⟨d, o, hA, p1, HQ1⟩ := HP.out wr hbel (m + 1) (by have := HNN.out; omega)
          obtain ⟨d2, o2, hA2, p2, HQ2⟩ := HP.out wr hbel b (by have := HNN.out; omega)
          rw [hA] at hA2
          injection hA2 with hA3
          injection hA3 with e1 e2
          subst e1 e2
          subst hA
          have x1 := HGEj.out (m + 1) hm1
          have x2 := HGEj.out b (by omega)
          obtain ⟨qA, hqA⟩ : ∃ x, x = (ps[m + 1]'(by have := HNN.out; omega)).A := ⟨_, rfl⟩
          obtain ⟨ql, hql⟩ : ∃ x, x = (ps[m + 1]'(by have := HNN.out; omega)).l.length := ⟨_, rfl⟩
          obtain ⟨qc, hqc⟩ : ∃ x, x = (ps[m + 1]'(by have := HNN.out; omega)).c := ⟨_, rfl⟩
          rw [← hqA, ← hql, ← hqc] at p1 HQ1
          obtain ⟨rA, hrA⟩ : ∃ x, x = (ps[b]'(by have := HNN.out; omega)).A := ⟨_, rfl⟩
          obtain ⟨rl, hrl⟩ : ∃ x, x = (ps[b]'(by have := HNN.out; omega)).l.length := ⟨_, rfl⟩
          obtain ⟨rc, hrc⟩ : ∃ x, x = (ps[b]'(by have := HNN.out; omega)).c := ⟨_, rfl⟩
          rw [← hrA, ← hrl, ← hrc] at p2 HQ2
          obtain ⟨y, hy⟩ : ∃ y, y = X.getD (m + 1) 0 := ⟨_, rfl⟩
          obtain ⟨z, hz⟩ : ∃ y, y = X.getD b 0 := ⟨_, rfl⟩
          rw [← hy] at c1 hbs x1
          rw [← hz] at c2 hbs x2
          have HY := Lib.hid (fun k => HQ1 y k (by omega) (by omega))
          have HZ := Lib.hid (fun k => HQ2 z k (by omega) (by omega))
          obtain ⟨Gy, hGy⟩ : ∃ u, u = GC (m + 1) y := ⟨_, rfl⟩
          obtain ⟨Gz, hGz⟩ : ∃ u, u = GC b z := ⟨_, rfl⟩
          rw [← hGy] at HY hbs
          rw [← hGz] at HZ hbs
          have k1 : (m : Int) + 1 < (n : Int) := by omega
          have k0 : (0 : Int) ≤ (m : Int) + 1 := by omega
          have k2 : (b : Int) < (n : Int) := by omega
          have k3 : ((m : Int) + 1).toNat = m + 1 := by omega
          have R2 := Lib.hid (And.intro hv hbel)
          clear hv hbel hy hz hb hbl HQ1 HQ2 hGy hGz hqA hql hqc hrA hrl hrc x1 x2
          by_cases hyz : Gz < Gy
          · rw [if_pos hyz] at hbs
            have HB2 := Lib.hid hbs
            clear hbs
            go_wp2
            go_quiet (first
              | (go_at_call 25; with_reducible (refine Calls.quiet_of_same (HY.out _)))
              | (go_at_call 25; with_reducible (refine Calls.quiet_of_same (HZ.out _))))
            go_wp2
            go_roundw
            case rel => first | exact ⟨m + 1, by omega, by go_num, by rw [HB2.out]; rfl, R2.out.1, below_drewN R2.out.2 nq⟩ | ((repeat apply Exists.intro); exact ⟨⟨m + 1, by omega, by go_num, by rw [HB2.out]; rfl, R2.out.1, below_drewN R2.out.2 nq⟩, rfl⟩)
            case measure => simp [intOf]; omega
          · rw [if_neg hyz] at hbs
            have HB2 := Lib.hid hbs
            clear hbs
            go_wp2
            go_quiet (first
              | (go_at_call 25; with_reducible (refine Calls.quiet_of_same (HY.out _)))
              | (go_at_call 25; with_reducible (refine Calls.quiet_of_same (HZ.out _))))
            go_wp2
            go_roundw
            case rel => first | exact ⟨m + 1, by omega, by go_num, by rw [HB2.out], R2.out.1, below_drewN R2.out.2 nq⟩ | ((repeat apply Exists.intro); exact ⟨⟨m + 1, by omega, by go_num, by rw [HB2.out], R2.out.1, below_drewN R2.out.2 nq⟩, rfl⟩)
            case measure => simp [intOf]; omega
        · have hmn : m = n - 1 := by omega
          have hgs2 := HGS1.out
          rw [← hmn, ← hb] at hgs2
          have c1 := own_atG hv (i := b) (by omega)
          have hge := HGEj.out b (by omega)
          have f1 := hv.frozenAt b
          have s1 := (hv.stored b (.int .i64 (X.getD b 0 + 1))).1
          have s4 := hbel.setCell (p := ⟨g, b, none⟩) (hv.lt g rfl).1 (.int .i64 (X.getD b 0 + 1))
          rw [← List.map_set] at s1
          have R3 := Lib.hid (And.intro s1 s4)
          obtain ⟨y, hy⟩ : ∃ y, y = X.getD b 0 := ⟨_, rfl⟩
          rw [← hy] at c1 hge R3 hgs2
          have HG9 := Lib.hid hgs2
          have v9 : IntKind.i64.wrap (y + 1) = y + 1 := IntWalk.i64_in _ (by omega)
          have k1 : ¬ (m : Int) + 1 < (n : Int) := by omega
          have k2 : (b : Int) < (n : Int) := by omega
          clear hv hbel s1 s4 hy hb hgs2 hmn hbs hbl
          go_wp2
          go_roundw
          case rel => first | exact ⟨j + 1, by omega, by congr 1; omega, by rw [HG9.out]; exact R3.out.1, R3.out.2⟩ | ((repeat apply Exists.intro); exact ⟨⟨j + 1, by omega, by congr 1; omega, by rw [HG9.out]; exact R3.out.1, R3.out.2⟩, rfl⟩)
          case measure => simp [intOf]; omega
    · have hjL : L0.toNat = j := by omega
      have hl1 := HGL.out j
      have HIN : Hid (Ints wr wr.heap.size .i64 (some ⟨g, 0, none⟩) (GV L0.toNat)) := by
        unfold Hid
        rw [hjL]
        exact Ints.of_own (c := cap) (n := n) (by rw [hl1]; exact hv)
      have HB9 := Lib.hid hbel
      have l3 : ¬ (0 : Int) < L0 - (j : Int) := by omega
      have HNC := Lib.hid hnc
      clear hv hbel hjL hl1
      go_wp2
      go_ret
      exact ⟨_, _, rfl, HNC.out, HIN.out, HB9.out⟩

end Go.Proofs.Ytnpdffcplgjbnaa
