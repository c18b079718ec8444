/-
  The landed disk: spend, now; what lies in the row of pending writes.
-/
import Derived.Test.YtnbgnllkikajpaaDiskC2
import Derived.Test.YtnbgnllkikajpaaMapLook
import Derived.Deep.MidRow
namespace Go.Proofs.Ytnbgnllkikajpaa
open Go.RowKit

theorem wrV_len {q : Nat × List Nat} (h : q.2.length = 64) : (wrV q).length = 65 := by simp [wrV, BA_size, h]
theorem pendC_at : ∀ (ps : List (Nat × List Nat)) (j k : Nat), (∀ i, i < ps.length → (ps.getD i (0, [])).2.length = 64) → j < ps.length → k < 65 → (pendC ps)[j * 65 + k]? = (wrV (ps.getD j (0, [])))[k]?
  | [], j, _, _, h, _ => absurd h (by simp)
  | q :: ps, 0, k, hl, _, hk => by
    have hq : (wrV q).length = 65 := wrV_len (hl 0 (by simp))
    show (wrV q ++ pendC ps)[0 * 65 + k]? = (wrV q)[k]?
    rw [Nat.zero_mul, Nat.zero_add, List.getElem?_append_left (by omega)]
  | q :: ps, j + 1, k, hl, hj, hk => by
    have hq : (wrV q).length = 65 := wrV_len (hl 0 (by simp))
    have ih := pendC_at ps j k (fun i hi => hl (i + 1) (by simpa using hi)) (by simpa using hj) hk
    show (wrV q ++ pendC ps)[(j + 1) * 65 + k]? = (wrV (ps.getD j (0, [])))[k]?
    rw [List.getElem?_append_right (by omega), hq, show (j + 1) * 65 + k - 65 = j * 65 + k by omega]
    exact ih

theorem Try.undW : ∃ d, Try.prog.underlying 67 = some d ∧ d.isRow = true := by
  have h : (Try.prog.underlying 67).map (·.isRow) = some true := by kernel_rfl
  cases hd : Try.prog.underlying 67 with
  | none => rw [hd] at h; cases h
  | some d => rw [hd] at h; exact ⟨d, rfl, by injection h⟩
theorem Try.infW : (Try.prog.info? 67).map (·.size) = some 65 := by kernel_rfl
theorem Try.infS : (Try.prog.info? 65).map (·.size) = some 64 := by kernel_rfl

section
variable {w : World} {p gl gn : Nat} {V : Value} {z : Int} {DL : DataW Value} {DN : DataW Unit} {s : Dk}
/-- A pending write, in its row. -/
theorem DiskIn.write (h : DiskIn w p gl gn V z DL DN s) {j : Nat} (hj : j < s.pend.length) : ∃ g c, V = .slice (some ⟨g, 0, none⟩) s.pend.length c ∧ w.rangeAt g (j * 65) (wrV (s.pend.getD j (0, []))) ∧ w.rangeAt g (j * 65) (BA (s.pend.getD j (0, [])).2).toList := by
  have hlen : ∀ i, i < s.pend.length → (s.pend.getD i (0, [])).2.length = 64 := fun i hi => (h.ok.pen i hi).2.1
  rcases h.pend.2 with ⟨_, h0⟩ | ⟨g, cap, cur, e, _, hg, h1, h2, h3, h4⟩
  · omega
  · have key : w.rangeAt g (j * 65) (wrV (s.pend.getD j (0, []))) := fun k v hv => by
      have hk : k < 65 := by
        rcases Nat.lt_or_ge k 65 with q | q
        · exact q
        · rw [List.getElem?_eq_none (by rw [wrV_len (hlen j hj)]; exact q)] at hv; cases hv
      rw [cell_of_row w g _ cur _ _ hg, ← Array.getElem?_toList]
      have hlt : j * 65 + k < s.pend.length * 65 := by omega
      have hq : cur.toList[j * 65 + k]? = (cur.toList.take (s.pend.length * 65))[j * 65 + k]? := by rw [List.getElem?_take, if_pos hlt]
      rw [hq, h4, pendC_at s.pend j k hlen hj hk, hv]
    refine ⟨g, cap, e, key, fun k v hv => key k v ?_⟩
    have hk : k < (BA (s.pend.getD j (0, [])).2).toList.length := by
      rcases Nat.lt_or_ge k (BA (s.pend.getD j (0, [])).2).toList.length with q | q
      · exact q
      · rw [List.getElem?_eq_none q] at hv; cases hv
    unfold wrV
    rw [List.getElem?_append_left hk]; exact hv

set_option maxHeartbeats 800000 in
theorem spend_ok_go (h : DiskIn w p gl gn V z DL DN s) (hs : spendE s = 0) :
    Calls Try.prog 27 #[.pointer (some ⟨p, 0, none⟩)] w fun e w' => e = .returned (.tuple #[]) ∧ (∃ z', DiskIn w' p gl gn V z' DL DN ⟨s.last, s.pend, (spendS s).lim, false⟩) ∧ Away (ownD p gl gn V) w w' := by
  obtain ⟨_, _, _, _, c4, c5⟩ := h.cells
  have f4 := h.thaw 4
  have f5 := h.thaw 5
  have hl : s.lim ≠ some 0 := fun e => by unfold spendE at hs; rw [if_pos e] at hs; cases hs
  have hsl : (spendS s).lim = s.lim.map (· - 1) := by unfold spendS; rw [if_neg hl]
  rw [hsl]
  have b5 := setc_same w p 5 (.bool false) _ _ h.box
  have o5 := fun b (hb : b ≠ p) => setc_other w p b 5 (.bool false) (Ne.symm hb)
  have A5 := (Away.refl (ownD p gl gn V) w).set own_p 5 (.bool false)
  rcases h.lim with ⟨e1, e2⟩ | ⟨m, e1, e2⟩
  · have k0 : (z == 0) = false := beq_eq_false_iff_ne.2 (by omega)
    have k1 : ¬ 0 < z := by omega
    have R := Lib.hid (And.intro (h.turn z false (s.lim.map (· - 1)) (.inl ⟨by rw [e1]; rfl, e2⟩) h.zi b5 o5) A5)
    obtain ⟨L, hL⟩ : ∃ L, L = s.lim.map (· - 1) := ⟨_, rfl⟩
    rw [← hL] at R ⊢
    clear h hs hl hsl b5 o5 A5 e1 e2 hL
    go_enter Try.func27, Try.ntmps27
    go_wp2_with (go_at_call 25; with_reducible (refine Calls.mono (demand_ok _ _) ?_); rintro e w1 ⟨rfl, rfl⟩)
    exact bodyPost_end (results_none rfl _ _ _) rfl ⟨rfl, ⟨_, R.out.1⟩, R.out.2⟩
  · have hm : m ≠ 0 := fun e => hl (by rw [e1, e])
    have k0 : (z == 0) = false := beq_eq_false_iff_ne.2 (by omega)
    have k1 : 0 < z := by omega
    have hzi := h.zi
    unfold I64c at hzi
    have k2 : IntKind.i64.wrap (z - 1) = z - 1 := by rw [IntKind.wrap_i64]; omega
    have b4 := setc_same (w.setCell ⟨p, 5, none⟩ (.bool false)) p 4 (.int .i64 (z - 1)) _ _ b5
    have R := Lib.hid (And.intro (h.turn (z - 1) false (s.lim.map (· - 1)) (.inr ⟨m - 1, by rw [e1]; rfl, by omega⟩) (by unfold I64c; omega) b4 (fun b hb => (setc_other _ p b 4 _ (Ne.symm hb)).trans (o5 b hb))) (A5.set own_p 4 (.int .i64 (z - 1))))
    obtain ⟨L, hL⟩ : ∃ L, L = s.lim.map (· - 1) := ⟨_, rfl⟩
    rw [← hL] at R ⊢
    clear h hs hl hsl b5 o5 A5 e1 e2 hL b4 hm
    go_enter Try.func27, Try.ntmps27
    go_wp2_with (go_at_call 25; with_reducible (refine Calls.mono (demand_ok _ _) ?_); rintro e w1 ⟨rfl, rfl⟩)
    exact bodyPost_end (results_none rfl _ _ _) rfl ⟨rfl, ⟨_, R.out.1⟩, R.out.2⟩

set_option maxHeartbeats 800000 in
theorem spend_no_go (h : DiskIn w p gl gn V z DL DN s) (hs : spendE s ≠ 0) :
    Calls Try.prog 27 #[.pointer (some ⟨p, 0, none⟩)] w fun e w' => e = .panicked (upV 8) ∧ DiskIn w' p gl gn V z DL DN (spendS s) ∧ Away (ownD p gl gn V) w w' := by
  obtain ⟨_, _, _, _, c4, c5⟩ := h.cells
  have f5 := h.thaw 5
  have hl : s.lim = some 0 := by
    unfold spendE at hs
    by_cases e : s.lim = some 0
    · exact e
    · rw [if_neg e] at hs; exact absurd rfl hs
  have hz0 : z = 0 := by
    rcases h.lim with ⟨e1, _⟩ | ⟨m, e1, e2⟩
    · rw [hl] at e1; cases e1
    · rw [hl] at e1; injection e1 with e1; omega
  have b5 := setc_same w p 5 (.bool true) _ _ h.box
  have R : Hid (DiskIn (w.setCell ⟨p, 5, none⟩ (.bool true)) p gl gn V z DL DN (spendS s) ∧ Away (ownD p gl gn V) w (w.setCell ⟨p, 5, none⟩ (.bool true))) := by
    have e : spendS s = ⟨s.last, s.pend, s.lim, true⟩ := by unfold spendS; rw [if_pos hl]
    rw [e]
    exact ⟨h.turn z true s.lim h.lim h.zi b5 (fun b hb => setc_other w p b 5 _ (Ne.symm hb)), (Away.refl _ w).set own_p 5 _⟩
  subst hz0
  obtain ⟨s2, hs2⟩ : ∃ s2, s2 = spendS s := ⟨_, rfl⟩
  rw [← hs2] at R ⊢
  clear h hs hl b5 hs2
  go_enter Try.func27, Try.ntmps27
  go_wp2_with (go_at_call 25; with_reducible (refine Calls.mono (demand_no _ _) ?_); rintro e w1 ⟨rfl, rfl⟩)
  exact ⟨rfl, rfl, R.out⟩

set_option maxHeartbeats 1600000 in
set_option maxRecDepth 20000 in
theorem now_go (h : DiskIn w p gl gn V z DL DN s) (i : Nat) (hi : i < s.last.length) :
    Calls Try.prog 30 #[.pointer (some ⟨p, 0, none⟩), .int .i64 (i : Int)] w fun e w' => e = .returned (secV (nowD s i)) ∧ Below w.heap.size w w' := by
  have hi6 : (i : Int) < 4096 := by have := h.ok.le; omega
  have hkey := Lib.hid (keyOfD (x := (i : Int)) (by unfold I64c; omega))
  have HB : Hid (Below w.heap.size w (w.alloc (.cells (BA zeroSec) 65))) := (Below.refl _ _).alloc (Nat.le_refl _) _
  have HB2 := HB
  have hnew := heap_alloc_new w (.cells (BA zeroSec) 65)
  have h1 := h.later HB.out
  have hzs : (zeroValue 65).run Try.prog w = .ok (secV zeroSec) w := zeroL w
  unfold secV at hzs
  obtain ⟨Z, hZ⟩ : ∃ Z, Z = BA zeroSec := ⟨_, rfl⟩
  have hZs : Z.size = 64 := by rw [hZ]; rfl
  rw [← hZ] at HB HB2 hnew h1 hzs
  obtain ⟨W, hW⟩ : ∃ W, W = w.alloc (.cells Z 65) := ⟨_, rfl⟩
  have hsz : w.heap.size < W.heap.size := by rw [hW]; simp
  rw [← hW] at HB hnew h1
  have HW := Lib.hid hW
  obtain ⟨c0, c1, c2, c3, c4, c5⟩ := h1.cells
  have HN := Lib.hid h1.new
  have hu := Try.und64
  have hinf : ∀ t : List Nat, t.length = 64 → (Try.prog.info? 65).map (·.size) = some (BA t).size := fun t ht => by rw [BA_size, ht]; exact Try.infS
  have HPOST : Hid (∀ (t : List Nat) (W' : World), t.length = 64 → W'.heap[w.heap.size]? = some (.cells (BA t) 65 (0, 0)) → ∀ tmps : Array Value, tmps.getD 4 undef = .pointer (some ⟨w.heap.size, 0, none⟩) → (results Try.f30 tmps).run Try.prog W' = .ok (secV t) W') := fun t W' ht hg tmps hp => results_cell_row rfl tmps W' w.heap.size _ (BA t) (0, 0) _ hp hg hu rfl (hinf t ht)
  have hone : ∀ t : List Nat, (BA t).all (·.oneCell') = true := BA_one
  rcases h.nsays i with ⟨q1, q2⟩ | ⟨j, hj, q1, q2, q3⟩
  · have hno := Lib.hid (Maps.atKey_of_not_has q1 (.lit (.int .i64 0)))
    have hh := Lib.hid q1
    have e1 : nowD s i = s.last.getD i [] := q2 _
    have ht : (s.last.getD i []).length = 64 := (h.ok.sec i hi).1
    rw [e1]
    obtain ⟨v, ps, hrun, hR⟩ := h1.last.lookup keyD Try.undMapL (zeroL W) (zd := .held (secV zeroSec)) (zp := []) rfl hkey.out
    rw [h1.lsays.here i hi] at hR
    have hv : v = secV (s.last.getD i []) := by
      unfold heldElem at hR
      injection hR with hR
      injection hR with hR _
      injection hR
    rw [hv] at hrun
    obtain ⟨t, htt⟩ : ∃ t, t = s.last.getD i [] := ⟨_, rfl⟩
    rw [← htt] at ht hrun ⊢
    have hone := BA_one t
    have hinT := hinf t ht
    have HP := Lib.hid (fun W' hg tmps hp => HPOST.out t W' ht hg tmps hp)
    unfold secV at hrun HP ⊢
    obtain ⟨C, hC⟩ : ∃ C, C = BA t := ⟨_, rfl⟩
    rw [← hC] at hrun hone hinT ⊢
    simp only [← hC] at HP
    have hZC : Z.size = C.size := by rw [hZs, hC, BA_size, ht]
    clear h h1 hi q1 q2 e1 ht hR hv htt hC HPOST hinf hW hZ hZs hu
    go_enter Try.func30, Try.ntmps30
    rw [HW.out] at c3
    go_wp2_with (first
      | (at_lookup; rw [← HW.out]; refine wpList_lookM _ rfl _ _ 57 rfl 3 3 .i64 keyD Try.undMapN Try.undIntD (zeroN _) gn _ DN rfl HN.out _ _ rfl hkey.out _ _ hno.out hh.out ?_)
      | (refine wpList_store_fresh rfl 65 _ _ rfl w.heap.size C rfl rfl 65 Z hnew hinT hZC hone HB.out (Nat.le_refl _) ?_; intro W2 hW2 hb2 hk2 hs2))
    refine bodyPost_ret (HP.out _ hW2 _ rfl) rfl ?_
    exact ⟨rfl, hb2⟩
  · have hh := Lib.hid q1
    have hat := Lib.hid q2
    have e1 : nowD s i = (s.pend.getD j (0, [])).2 := q3 _
    have ht : (s.pend.getD j (0, [])).2.length = 64 := (h.ok.pen j hj).2.1
    rw [e1]
    obtain ⟨g, c, hV, _, hr2⟩ := h1.write hj
    obtain ⟨t, htt⟩ : ∃ t, t = (s.pend.getD j (0, [])).2 := ⟨_, rfl⟩
    rw [← htt] at ht hr2 ⊢
    have hone := BA_one t
    have hinT := hinf t ht
    have hinL : (Try.prog.info? 65).map (·.size) = some (BA t).toList.length := by rw [Array.length_toList]; exact hinT
    have HP := Lib.hid (fun W' hg tmps hp => HPOST.out t W' ht hg tmps hp)
    unfold secV at HP ⊢
    obtain ⟨C, hC⟩ : ∃ C, C = BA t := ⟨_, rfl⟩
    rw [← hC] at hr2 hone hinT hinL ⊢
    simp only [← hC] at HP
    have hZC : Z.size = C.size := by rw [hZs, hC, BA_size, ht]
    have k0 : (0 : Int) ≤ (j : Int) := by omega
    have k1 : (j : Int) < (s.pend.length : Int) := by omega
    rw [hV] at c2
    obtain ⟨N, hN⟩ : ∃ N, N = s.pend.length := ⟨_, rfl⟩
    rw [← hN] at c2 k1
    have HL := Lib.hid hr2
    clear h h1 hi q1 q2 q3 e1 ht htt hC HPOST hinf hW hZ hZs hN hV hr2
    go_enter Try.func30, Try.ntmps30
    rw [HW.out] at c3
    go_wp2_with (first
      | (at_lookup; rw [← HW.out]; refine wpList_lookM _ rfl _ _ 57 rfl 3 3 .i64 keyD Try.undMapN Try.undIntD (zeroN _) gn _ DN rfl HN.out _ _ rfl hkey.out _ _ hat.out hh.out ?_)
      | (refine wpList_load_mid rfl 65 _ rfl g (j * 65) (by first | rfl | simp) C.toList _ HL.out hu rfl hinL ?_)
      | (refine wpList_store_fresh rfl 65 _ _ rfl w.heap.size C rfl rfl 65 Z hnew hinT hZC hone HB.out (Nat.le_refl _) ?_; intro W2 hW2 hb2 hk2 hs2))
    refine bodyPost_ret (HP.out _ hW2 _ rfl) rfl ?_
    exact ⟨rfl, hb2⟩
end

end Go.Proofs.Ytnbgnllkikajpaa
