/-
  The landed solve: the curve that gains most; slot by slot.
-/
import Derived.Test.YtnpdffcplgjbnaaSolveC3
import Derived.Test.YtnpdffcplgjbnaaSolveGreedy
namespace Go.Proofs.Ytnpdffcplgjbnaa
open Go.RowKit

set_option maxHeartbeats 1600000 in
/-- 'slices.Clone' of numbers that are there. -/
theorem cloneI_any (b0 o0 c n : Nat) (L : List Int) (w : World) (h : Ints w w.heap.size .i64 (some ⟨b0, o0, none⟩) L) (hn : L.length = n) (h1 : 1 ≤ n) (h16 : n ≤ 16) :
    Calls Try.prog 21 #[.slice (some ⟨b0, o0, none⟩) n c] w fun e w' => ∃ g cap, e = .returned (.slice (some ⟨g, 0, none⟩) n cap) ∧ n ≤ cap ∧ w'.ownsRow w.heap.size 3 1 (.slice (some ⟨g, 0, none⟩) n cap) n (L.map (Value.int .i64)) ∧ Below w.heap.size w w' := by
  obtain ⟨i0, hi, hz0, hz1, hz2⟩ := info_parts Try.infoI64v
  have HN1 : Hid ((some ⟨b0, o0, none⟩ : Option Addr) = none → c = 0) := fun e => by cases e
  have H0 := Lib.hid h
  have HLN := Lib.hid hn
  have hnil : ∀ W, (binOp .eql 22 (.slice (some ⟨b0, o0, none⟩) n c) (.slice none 0 0)).run Try.prog W = .ok (.bool false) W := fun W => by kernel_rfl
  clear h hn
  go_enter Try.func21, Try.ntmps21
  go_wp2_with (first
    | (at_builtin; refine wpList_append_when _ rfl (.tmp 5) (.tmp 6) 22 rfl w.heap.size 3 i0 (.int .i64 0) 8 Try.underlying22 hi hz0 hz1 hz2 rfl .i64 (.slice (some ⟨w.heap.size, 0, none⟩) 0 0) [] L w.heap.size c n (some ⟨b0, o0, none⟩) HLN.out rfl rfl (World.ownsRow_made w #[] 0 (Nat.le_refl _) (Nat.zero_le _) rfl) (H0.out.below ((Below.refl _ w).alloc (Nat.le_refl _) _)) HN1.out ?d1 ?d2 (by simp) ?_))
  case d1 => rw [HLN.out]; unfold maxLen; simp; omega
  case d2 => rw [HLN.out]; simp; omega
  intro v4 w4 hown4 hg4 _
  have hb4 : Below w.heap.size w w4 := ((Below.refl w.heap.size w).alloc (Nat.le_refl _) _).grown hg4 (by simp) fun q hq => by simp [Value.ownBlock] at hq; omega
  have hown5 : w4.ownsRow w.heap.size 3 1 v4 n (L.map (Value.int .i64)) := by
    have h := hown4
    have hl := HLN.out
    first
      | exact hl ▸ h
      | (rw [List.nil_append, hl] at h; exact h)
      | (simp only [List.nil_append, hl] at h; exact h)
  obtain ⟨g, cap, hv, hbg, hgl⟩ := hown5.form (by omega)
  subst hv
  have hnc : n ≤ cap := own_le hown5
  have R := Lib.hid (And.intro hown5 hb4)
  clear hown4 hg4 hown5 hb4
  go_wp2
  go_ret
  exact ⟨g, cap, rfl, hnc, R.out.1, R.out.2⟩

set_option maxHeartbeats 1600000 in
set_option maxRecDepth 20000 in
/-- 'keenest'. -/
theorem keenest_any (A0 A1 : Option Addr) (c0 c1 n : Nat) (X : List Int) (ps : List Cur) (w : World) (h0 : Ints w w.heap.size .i64 A0 X) (h1 : Curs w w.heap.size A1 ps) (hk : X.length = n) (hn : n = ps.length) (h16 : 1 ≤ n ∧ n ≤ 16)
    (hs : ∀ i, i < ps.length → soundL ((ps.map Cur.l).getD i []) = true) (hX : ∀ i, i < n → 0 ≤ X.getD i 0 ∧ X.getD i 0 ≤ 1024) :
    Calls Try.prog 23 #[.slice A0 n c0, .slice A1 n c1] w fun e w' => e = .returned (.int .i64 (bestAt (ps.map Cur.l) X (n - 1) : Nat)) ∧ ∃ m, w' = w.drewN m := by
  have HP : Hid (∀ m, ∀ i (hi : i < ps.length), ∃ b o, A1 = some ⟨b, o, none⟩ ∧ (w.drewN m).cell? ⟨b, o + i, none⟩ = some (.slice ps[i].A ps[i].l.length ps[i].c) ∧
      ∀ z n, 0 ≤ z → z ≤ 1048576 → Calls Try.prog 32 #[.slice ps[i].A ps[i].l.length ps[i].c, .int .i64 z] ((w.drewN m).drewN n) fun e w' => e = .returned (.int .i64 (gainC ((ps.map Cur.l).getD i []) z)) ∧ w' = (w.drewN m).drewN n) := fun m i hi => by
    obtain ⟨b, o, e, hbl, q, ok⟩ := h1 i hi
    refine ⟨b, o, e, q, fun z n z0 z1 => ?_⟩
    have hss := hs i hi
    have hg : (ps.map Cur.l).getD i [] = ps[i].l := by simp [List.getD, hi]
    rw [hg] at hss ⊢
    exact gainV_any ps[i].A ps[i].c ps[i].l z ((w.drewN m).drewN n) (ok.ints : Ints ((w.drewN m).drewN n) ((w.drewN m).drewN n).heap.size .i64 ps[i].A ps[i].l) hss z0 z1
  have HC : Hid (∀ m i, i < n → ∃ b o, A0 = some ⟨b, o, none⟩ ∧ (w.drewN m).cell? ⟨b, o + i, none⟩ = some (.int .i64 (X.getD i 0))) := fun m i hi => by
    obtain ⟨b, o, e, _, q⟩ := h0 i (by omega)
    exact ⟨b, o, e, q⟩
  have HBD := Lib.hid hX
  have HBL := Lib.hid (bestAt_le (ps.map Cur.l) X)
  have HBS : Hid (∀ k, bestAt (ps.map Cur.l) X k = if gainC ((ps.map Cur.l).getD (bestAt (ps.map Cur.l) X (k - 1)) []) (X.getD (bestAt (ps.map Cur.l) X (k - 1)) 0) < gainC ((ps.map Cur.l).getD k []) (X.getD k 0) then k else bestAt (ps.map Cur.l) X (k - 1)) := fun k => by
    cases k with
    | zero =>
      have e : bestAt (ps.map Cur.l) X (0 - 1) = 0 := rfl
      rw [e, if_neg (by omega)]
    | succ m => exact bestAt_succ (ps.map Cur.l) X m
  have HB0 : Hid (bestAt (ps.map Cur.l) X 0 = 0) := rfl
  obtain ⟨BA, hBA⟩ : ∃ G, G = bestAt (ps.map Cur.l) X := ⟨_, rfl⟩
  simp only [← hBA] at HBS HBL HB0 ⊢
  obtain ⟨GC, hGC⟩ : ∃ G : Nat → Int → Int, G = fun i z => gainC ((ps.map Cur.l).getD i []) z := ⟨_, rfl⟩
  have hGCC : ∀ i z, gainC ((ps.map Cur.l).getD i []) z = GC i z := fun i z => by rw [hGC]
  simp only [hGCC] at HP HBS
  obtain ⟨F, hF⟩ : ∃ F : Nat → Int, F = fun i => X.getD i 0 := ⟨_, rfl⟩
  have hFF : ∀ i, X.getD i 0 = F i := fun i => by rw [hF]
  simp only [hFF] at HC HBS HBD
  have HNN := Lib.hid hn
  have n16 : (n : Int) ≤ 16 := by omega
  have HPN := Lib.hid h16.1
  clear h0 h1 hk hs hX hn h16 hBA hGC hGCC hF hFF
  go_enter Try.func23, Try.ntmps23
  go_wp2
  go_loopw [5, 10] (fun b i wx => ∃ k m : Nat, k ≤ n ∧ i = .int .i64 (k : Int) ∧ b = .int .i64 (BA (k - 1) : Nat) ∧ wx = w.drewN m) (fun _ i _ => n - (intOf i).toNat)
  case atStart => exact ⟨0, 0, by omega, rfl, by rw [HB0.out]; rfl, rfl⟩
  case round =>
    obtain ⟨k, m, hk, rfl, rfl, hwr⟩ := hrel
    have hbl := HBL.out (k - 1)
    have hbs := HBS.out k
    obtain ⟨b, hb⟩ : ∃ b, b = BA (k - 1) := ⟨_, rfl⟩
    rw [← hb] at hbl hbs ⊢
    by_cases hlt : k < n
    · obtain ⟨a, p, hA0, c1⟩ := HC.out m k hlt
      obtain ⟨a2, p2, hA2, c2⟩ := HC.out m b (by omega)
      rw [hA0] at hA2
      injection hA2 with hA3
      injection hA3 with e1 e2
      subst e1 e2
      subst hA0
      obtain ⟨d, o, hA, p1, HQ1⟩ := HP.out m k (by have := HNN.out; omega)
      obtain ⟨d2, o2, hA2, p2, HQ2⟩ := HP.out m b (by have := HNN.out; omega)
      rw [hA] at hA2
      injection hA2 with hA3
      injection hA3 with e1 e2
      subst e1 e2
      subst hA
      rw [← hwr] at c1 c2 p1 p2 HQ1 HQ2
      have x1 := HBD.out k hlt
      have x2 := HBD.out b (by omega)
      obtain ⟨qA, hqA⟩ : ∃ x, x = (ps[k]'(by have := HNN.out; omega)).A := ⟨_, rfl⟩
      obtain ⟨ql, hql⟩ : ∃ x, x = (ps[k]'(by have := HNN.out; omega)).l.length := ⟨_, rfl⟩
      obtain ⟨qc, hqc⟩ : ∃ x, x = (ps[k]'(by have := HNN.out; omega)).c := ⟨_, rfl⟩
      rw [← hqA, ← hql, ← hqc] at p1 HQ1
      obtain ⟨rA, hrA⟩ : ∃ x, x = (ps[b]'(by have := HNN.out; omega)).A := ⟨_, rfl⟩
      obtain ⟨rl, hrl⟩ : ∃ x, x = (ps[b]'(by have := HNN.out; omega)).l.length := ⟨_, rfl⟩
      obtain ⟨rc, hrc⟩ : ∃ x, x = (ps[b]'(by have := HNN.out; omega)).c := ⟨_, rfl⟩
      rw [← hrA, ← hrl, ← hrc] at p2 HQ2
      obtain ⟨y, hy⟩ : ∃ y, y = F k := ⟨_, rfl⟩
      obtain ⟨z, hz⟩ : ∃ y, y = F b := ⟨_, rfl⟩
      rw [← hy] at c1 hbs x1
      rw [← hz] at c2 hbs x2
      have HY := Lib.hid (fun k => HQ1 y k (by omega) (by omega))
      have HZ := Lib.hid (fun k => HQ2 z k (by omega) (by omega))
      obtain ⟨Gy, hGy⟩ : ∃ u, u = GC k y := ⟨_, rfl⟩
      obtain ⟨Gz, hGz⟩ : ∃ u, u = GC b z := ⟨_, rfl⟩
      rw [← hGy] at HY hbs
      rw [← hGz] at HZ hbs
      have k1 : (k : Int) < (n : Int) := by omega
      have k0 : (0 : Int) ≤ (k : Int) := by omega
      have k2 : (b : Int) < (n : Int) := by omega
      have HW := Lib.hid hwr
      clear hwr hy hz hb hbl HQ1 HQ2 hGy hGz hqA hql hqc hrA hrl hrc x1 x2
      by_cases hyz : Gz < Gy
      · rw [if_pos hyz] at hbs
        have d1 : decide (Gz < Gy) = true := decide_eq_true hyz
        have HB2 : Hid (k = BA (k + 1 - 1)) := by rw [Nat.add_sub_cancel]; exact hbs.symm
        clear hbs
        go_wp2
        go_quiet (first
          | (go_at_call 32; with_reducible (refine Calls.quiet_of_same (HY.out _)))
          | (go_at_call 32; with_reducible (refine Calls.quiet_of_same (HZ.out _))))
        go_wp2
        go_roundw
        case rel => first | exact ⟨k + 1, m + nq, by omega, by go_num, by rw [← HB2.out], by rw [HW.out, World.drewN_drewN]⟩ | ((repeat apply Exists.intro); exact ⟨⟨k + 1, m + nq, by omega, by go_num, by rw [← HB2.out], by rw [HW.out, World.drewN_drewN]⟩, rfl⟩)
        case measure => simp [intOf]; omega
      · rw [if_neg hyz] at hbs
        have d1 : decide (Gz < Gy) = false := decide_eq_false hyz
        have HB2 : Hid (b = BA (k + 1 - 1)) := by rw [Nat.add_sub_cancel]; exact hbs.symm
        clear hbs
        go_wp2
        go_quiet (first
          | (go_at_call 32; with_reducible (refine Calls.quiet_of_same (HY.out _)))
          | (go_at_call 32; with_reducible (refine Calls.quiet_of_same (HZ.out _))))
        go_wp2
        go_roundw
        case rel => first | exact ⟨k + 1, m + nq, by omega, by go_num, by rw [← HB2.out], by rw [HW.out, World.drewN_drewN]⟩ | ((repeat apply Exists.intro); exact ⟨⟨k + 1, m + nq, by omega, by go_num, by rw [← HB2.out], by rw [HW.out, World.drewN_drewN]⟩, rfl⟩)
        case measure => simp [intOf]; omega
    · have hk8 : k = n := by omega
      subst hk8
      have HB2 := Lib.hid hb
      have HW := Lib.hid hwr
      have k1 : ¬ (k : Int) < (k : Int) := by omega
      clear hb hwr hbs hbl
      go_wp2
      go_ret
      exact ⟨by rw [HB2.out]; rfl, m, HW.out⟩

end Go.Proofs.Ytnpdffcplgjbnaa
