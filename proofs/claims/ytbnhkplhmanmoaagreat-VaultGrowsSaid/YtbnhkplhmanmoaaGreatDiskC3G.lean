/-
  The landed disk: spend, now; what lies in the row of pending writes. A map that turns: what lies elsewhere stays; 'm[k] = v', 'delete(m, k)', 'clear(m)' as steps. No program is spoken of here. The landed disk: keep.
-/
import Derived.Test.YtbnhkplhmanmoaaGreatDiskC1G
import Derived.Deep.MidRow
import Derived.Test.YtbnhkplhmanmoaaGreatVaultHoldG
import Derived.Maps.OwnSet
import Derived.RegionTactic
import Derived.Deep.RegionHeld3
namespace Go.Proofs.YtbnhkplhmanmoaaGreat
open Go.RowKit

theorem wrV_len {q : Nat × List Nat} (h : q.2.length = 64) : (wrV q).length = 65 := by simp [wrV, BA_size, h]
theorem pendC_at : ∀ (ps : List (Nat × List Nat)) (j k : Nat), (∀ i, i < ps.length → (ps.getD i (0, [])).2.length = 64) → j < ps.length → k < 65 → (pendC ps)[j * 65 + k]? = (wrV (ps.getD j (0, [])))[k]?
  | [], j, _, _, h, _ => absurd h (by simp)
  | q :: ps, 0, k, hl, _, hk => by
    have hq : (wrV q).length = 65 := wrV_len (hl 0 (by simp))
    show (wrV q ++ pendC ps)[0 * 65 + k]? = (wrV q)[k]?
    rw [Nat.zero_mul, Nat.zero_add, List.getElem?_append_left (by omega)]
  | q :: ps, j + 1, k, hl, hj, hk => by
    have hq : (wrV q).length = 65 := wrV_len (hl 0 (by simp))
    have ih := pendC_at ps j k (fun i hi => hl (i + 1) (by simpa using hi)) (by simpa using hj) hk
    show (wrV q ++ pendC ps)[(j + 1) * 65 + k]? = (wrV (ps.getD j (0, [])))[k]?
    rw [List.getElem?_append_right (by omega), hq, show (j + 1) * 65 + k - 65 = j * 65 + k by omega]
    exact ih

theorem Tryz.undW : ∃ d, Tryz.prog.underlying 105 = some d ∧ d.isRow = true := by
  have h : (Tryz.prog.underlying 105).map (·.isRow) = some true := by kernel_rfl
  cases hd : Tryz.prog.underlying 105 with
  | none => rw [hd] at h; cases h
  | some d => rw [hd] at h; exact ⟨d, rfl, by injection h⟩
theorem Tryz.infW : (Tryz.prog.info? 105).map (·.size) = some 65 := by kernel_rfl
theorem Tryz.infS : (Tryz.prog.info? 103).map (·.size) = some 64 := by kernel_rfl

section
variable {w : World} {p gl gn : Nat} {V : Value} {z : Int} {DL : DataW Value} {DN : DataW Unit} {s : Dk}
/-- A pending write, in its row. -/
theorem DiskIn.write (h : DiskIn w p gl gn V z DL DN s) {j : Nat} (hj : j < s.pend.length) : ∃ g c, V = .slice (some ⟨g, 0, none⟩) s.pend.length c ∧ w.rangeAt g (j * 65) (wrV (s.pend.getD j (0, []))) ∧ w.rangeAt g (j * 65) (BA (s.pend.getD j (0, [])).2).toList := by
  have hlen : ∀ i, i < s.pend.length → (s.pend.getD i (0, [])).2.length = 64 := fun i hi => (h.ok.pen i hi).2.1
  rcases h.pend.2 with ⟨_, h0⟩ | ⟨g, cap, cur, e, _, hg, h1, h2, h3, h4⟩
  · omega
  · have key : w.rangeAt g (j * 65) (wrV (s.pend.getD j (0, []))) := fun k v hv => by
      have hk : k < 65 := by
        rcases Nat.lt_or_ge k 65 with q | q
        · exact q
        · rw [List.getElem?_eq_none (by rw [wrV_len (hlen j hj)]; exact q)] at hv; cases hv
      rw [cell_of_row w g _ cur _ _ hg, ← Array.getElem?_toList]
      have hlt : j * 65 + k < s.pend.length * 65 := by omega
      have hq : cur.toList[j * 65 + k]? = (cur.toList.take (s.pend.length * 65))[j * 65 + k]? := by rw [List.getElem?_take, if_pos hlt]
      rw [hq, h4, pendC_at s.pend j k hlen hj hk, hv]
    refine ⟨g, cap, e, key, fun k v hv => key k v ?_⟩
    have hk : k < (BA (s.pend.getD j (0, [])).2).toList.length := by
      rcases Nat.lt_or_ge k (BA (s.pend.getD j (0, [])).2).toList.length with q | q
      · exact q
      · rw [List.getElem?_eq_none q] at hv; cases hv
    unfold wrV
    rw [List.getElem?_append_left hk]; exact hv

set_option maxHeartbeats 800000 in
theorem spend_ok_go (h : DiskIn w p gl gn V z DL DN s) (hs : spendE s = 0) :
    Calls Tryz.prog 119 #[.pointer (some ⟨p, 0, none⟩)] w fun e w' => e = .returned (.tuple #[]) ∧ (∃ z', DiskIn w' p gl gn V z' DL DN ⟨s.last, s.pend, (spendS s).lim, false⟩) ∧ Away (ownD p gl gn V) w w' := by
  obtain ⟨_, _, _, _, c4, c5⟩ := h.cells
  have f4 := h.thaw 4
  have f5 := h.thaw 5
  have hl : s.lim ≠ some 0 := fun e => by unfold spendE at hs; rw [if_pos e] at hs; cases hs
  have hsl : (spendS s).lim = s.lim.map (· - 1) := by unfold spendS; rw [if_neg hl]
  rw [hsl]
  have b5 := setc_same w p 5 (.bool false) _ _ h.box
  have o5 := fun b (hb : b ≠ p) => setc_other w p b 5 (.bool false) (Ne.symm hb)
  have A5 := (Away.refl (ownD p gl gn V) w).set own_p 5 (.bool false)
  rcases h.lim with ⟨e1, e2⟩ | ⟨m, e1, e2⟩
  · have k0 : (z == 0) = false := beq_eq_false_iff_ne.2 (by omega)
    have k1 : ¬ 0 < z := by omega
    have R := Lib.hid (And.intro (h.turn z false (s.lim.map (· - 1)) (.inl ⟨by rw [e1]; rfl, e2⟩) h.zi b5 o5) A5)
    obtain ⟨L, hL⟩ : ∃ L, L = s.lim.map (· - 1) := ⟨_, rfl⟩
    rw [← hL] at R ⊢
    clear h hs hl hsl b5 o5 A5 e1 e2 hL
    go_enter Tryz.func119, Tryz.ntmps119
    go_wp2_with (go_at_call 55; with_reducible (refine Calls.mono (demand_ok _ _) ?_); rintro e w1 ⟨rfl, rfl⟩)
    exact bodyPost_end (results_none rfl _ _ _) rfl ⟨rfl, ⟨_, R.out.1⟩, R.out.2⟩
  · have hm : m ≠ 0 := fun e => hl (by rw [e1, e])
    have k0 : (z == 0) = false := beq_eq_false_iff_ne.2 (by omega)
    have k1 : 0 < z := by omega
    have hzi := h.zi
    unfold I64c at hzi
    have k2 : IntKind.i64.wrap (z - 1) = z - 1 := by rw [IntKind.wrap_i64]; omega
    have b4 := setc_same (w.setCell ⟨p, 5, none⟩ (.bool false)) p 4 (.int .i64 (z - 1)) _ _ b5
    have R := Lib.hid (And.intro (h.turn (z - 1) false (s.lim.map (· - 1)) (.inr ⟨m - 1, by rw [e1]; rfl, by omega⟩) (by unfold I64c; omega) b4 (fun b hb => (setc_other _ p b 4 _ (Ne.symm hb)).trans (o5 b hb))) (A5.set own_p 4 (.int .i64 (z - 1))))
    obtain ⟨L, hL⟩ : ∃ L, L = s.lim.map (· - 1) := ⟨_, rfl⟩
    rw [← hL] at R ⊢
    clear h hs hl hsl b5 o5 A5 e1 e2 hL b4 hm
    go_enter Tryz.func119, Tryz.ntmps119
    go_wp2_with (go_at_call 55; with_reducible (refine Calls.mono (demand_ok _ _) ?_); rintro e w1 ⟨rfl, rfl⟩)
    exact bodyPost_end (results_none rfl _ _ _) rfl ⟨rfl, ⟨_, R.out.1⟩, R.out.2⟩

set_option maxHeartbeats 800000 in
theorem spend_no_go (h : DiskIn w p gl gn V z DL DN s) (hs : spendE s ≠ 0) :
    Calls Tryz.prog 119 #[.pointer (some ⟨p, 0, none⟩)] w fun e w' => e = .panicked (upV 8) ∧ DiskIn w' p gl gn V z DL DN (spendS s) ∧ Away (ownD p gl gn V) w w' := by
  obtain ⟨_, _, _, _, c4, c5⟩ := h.cells
  have f5 := h.thaw 5
  have hl : s.lim = some 0 := by
    unfold spendE at hs
    by_cases e : s.lim = some 0
    · exact e
    · rw [if_neg e] at hs; exact absurd rfl hs
  have hz0 : z = 0 := by
    rcases h.lim with ⟨e1, _⟩ | ⟨m, e1, e2⟩
    · rw [hl] at e1; cases e1
    · rw [hl] at e1; injection e1 with e1; omega
  have b5 := setc_same w p 5 (.bool true) _ _ h.box
  have R : Hid (DiskIn (w.setCell ⟨p, 5, none⟩ (.bool true)) p gl gn V z DL DN (spendS s) ∧ Away (ownD p gl gn V) w (w.setCell ⟨p, 5, none⟩ (.bool true))) := by
    have e : spendS s = ⟨s.last, s.pend, s.lim, true⟩ := by unfold spendS; rw [if_pos hl]
    rw [e]
    exact ⟨h.turn z true s.lim h.lim h.zi b5 (fun b hb => setc_other w p b 5 _ (Ne.symm hb)), (Away.refl _ w).set own_p 5 _⟩
  subst hz0
  obtain ⟨s2, hs2⟩ : ∃ s2, s2 = spendS s := ⟨_, rfl⟩
  rw [← hs2] at R ⊢
  clear h hs hl b5 hs2
  go_enter Tryz.func119, Tryz.ntmps119
  go_wp2_with (go_at_call 55; with_reducible (refine Calls.mono (demand_no _ _) ?_); rintro e w1 ⟨rfl, rfl⟩)
  exact ⟨rfl, rfl, R.out⟩

set_option maxHeartbeats 1600000 in
set_option maxRecDepth 20000 in
theorem now_go (h : DiskIn w p gl gn V z DL DN s) (i : Nat) (hi : i < s.last.length) :
    Calls Tryz.prog 139 #[.pointer (some ⟨p, 0, none⟩), .int .i64 (i : Int)] w fun e w' => e = .returned (secV (nowD s i)) ∧ Below w.heap.size w w' := by
  have hi6 : (i : Int) < 4096 := by have := h.ok.le; omega
  have hkey := Lib.hid (keyOfD (x := (i : Int)) (by unfold I64c; omega))
  have HB : Hid (Below w.heap.size w (w.alloc (.cells (BA zeroSec) 103))) := (Below.refl _ _).alloc (Nat.le_refl _) _
  have HB2 := HB
  have hnew := heap_alloc_new w (.cells (BA zeroSec) 103)
  have h1 := h.later HB.out
  have hzs : (zeroValue 103).run Tryz.prog w = .ok (secV zeroSec) w := zeroLD w
  unfold secV at hzs
  obtain ⟨Z, hZ⟩ : ∃ Z, Z = BA zeroSec := ⟨_, rfl⟩
  have hZs : Z.size = 64 := by rw [hZ]; rfl
  rw [← hZ] at HB HB2 hnew h1 hzs
  obtain ⟨W, hW⟩ : ∃ W, W = w.alloc (.cells Z 103) := ⟨_, rfl⟩
  have hsz : w.heap.size < W.heap.size := by rw [hW]; simp
  rw [← hW] at HB hnew h1
  have HW := Lib.hid hW
  obtain ⟨c0, c1, c2, c3, c4, c5⟩ := h1.cells
  have HN := Lib.hid h1.new
  have hu := Tryz.und64
  have hinf : ∀ t : List Nat, t.length = 64 → (Tryz.prog.info? 103).map (·.size) = some (BA t).size := fun t ht => by rw [BA_size, ht]; exact Tryz.infS
  have HPOST : Hid (∀ (t : List Nat) (W' : World), t.length = 64 → W'.heap[w.heap.size]? = some (.cells (BA t) 103 (0, 0)) → ∀ tmps : Array Value, tmps.getD 4 undef = .pointer (some ⟨w.heap.size, 0, none⟩) → (results Tryz.f139 tmps).run Tryz.prog W' = .ok (secV t) W') := fun t W' ht hg tmps hp => results_cell_row rfl tmps W' w.heap.size _ (BA t) (0, 0) _ hp hg hu rfl (hinf t ht)
  have hone : ∀ t : List Nat, (BA t).all (·.oneCell') = true := BA_one
  rcases h.nsays i with ⟨q1, q2⟩ | ⟨j, hj, q1, q2, q3⟩
  · have hno := Lib.hid (Maps.atKey_of_not_has q1 (.lit (.int .i64 0)))
    have hh := Lib.hid q1
    have e1 : nowD s i = s.last.getD i [] := q2 _
    have ht : (s.last.getD i []).length = 64 := (h.ok.sec i hi).1
    rw [e1]
    obtain ⟨v, ps, hrun, hR⟩ := h1.last.lookup keyD Tryz.undMapL (zeroLD W) (zd := .held (secV zeroSec)) (zp := []) rfl hkey.out
    rw [h1.lsays.here i hi] at hR
    have hv : v = secV (s.last.getD i []) := by
      unfold heldElem at hR
      injection hR with hR
      injection hR with hR _
      injection hR
    rw [hv] at hrun
    obtain ⟨t, htt⟩ : ∃ t, t = s.last.getD i [] := ⟨_, rfl⟩
    rw [← htt] at ht hrun ⊢
    have hone := BA_one t
    have hinT := hinf t ht
    have HP := Lib.hid (fun W' hg tmps hp => HPOST.out t W' ht hg tmps hp)
    unfold secV at hrun HP ⊢
    obtain ⟨C, hC⟩ : ∃ C, C = BA t := ⟨_, rfl⟩
    rw [← hC] at hrun hone hinT ⊢
    simp only [← hC] at HP
    have hZC : Z.size = C.size := by rw [hZs, hC, BA_size, ht]
    clear h h1 hi q1 q2 e1 ht hR hv htt hC HPOST hinf hW hZ hZs hu
    go_enter Tryz.func139, Tryz.ntmps139
    rw [HW.out] at c3
    go_wp2_with (first
      | (at_lookup; rw [← HW.out]; refine wpList_lookM _ rfl _ _ 59 rfl 3 3 .i64 keyD Tryz.undMapN Tryz.undIntD (zeroN _) gn _ DN rfl HN.out _ _ rfl hkey.out _ _ hno.out hh.out ?_)
      | (refine wpList_store_fresh rfl 103 _ _ rfl w.heap.size C rfl rfl 103 Z hnew hinT hZC hone HB.out (Nat.le_refl _) ?_; intro W2 hW2 hb2 hk2 hs2))
    refine bodyPost_ret (HP.out _ hW2 _ rfl) rfl ?_
    exact ⟨rfl, hb2⟩
  · have hh := Lib.hid q1
    have hat := Lib.hid q2
    have e1 : nowD s i = (s.pend.getD j (0, [])).2 := q3 _
    have ht : (s.pend.getD j (0, [])).2.length = 64 := (h.ok.pen j hj).2.1
    rw [e1]
    obtain ⟨g, c, hV, _, hr2⟩ := h1.write hj
    obtain ⟨t, htt⟩ : ∃ t, t = (s.pend.getD j (0, [])).2 := ⟨_, rfl⟩
    rw [← htt] at ht hr2 ⊢
    have hone := BA_one t
    have hinT := hinf t ht
    have hinL : (Tryz.prog.info? 103).map (·.size) = some (BA t).toList.length := by rw [Array.length_toList]; exact hinT
    have HP := Lib.hid (fun W' hg tmps hp => HPOST.out t W' ht hg tmps hp)
    unfold secV at HP ⊢
    obtain ⟨C, hC⟩ : ∃ C, C = BA t := ⟨_, rfl⟩
    rw [← hC] at hr2 hone hinT hinL ⊢
    simp only [← hC] at HP
    have hZC : Z.size = C.size := by rw [hZs, hC, BA_size, ht]
    have k0 : (0 : Int) ≤ (j : Int) := by omega
    have k1 : (j : Int) < (s.pend.length : Int) := by omega
    rw [hV] at c2
    obtain ⟨N, hN⟩ : ∃ N, N = s.pend.length := ⟨_, rfl⟩
    rw [← hN] at c2 k1
    have HL := Lib.hid hr2
    clear h h1 hi q1 q2 q3 e1 ht htt hC HPOST hinf hW hZ hZs hN hV hr2
    go_enter Tryz.func139, Tryz.ntmps139
    rw [HW.out] at c3
    go_wp2_with (first
      | (at_lookup; rw [← HW.out]; refine wpList_lookM _ rfl _ _ 59 rfl 3 3 .i64 keyD Tryz.undMapN Tryz.undIntD (zeroN _) gn _ DN rfl HN.out _ _ rfl hkey.out _ _ hat.out hh.out ?_)
      | (refine wpList_load_mid rfl 103 _ rfl g (j * 65) (by first | rfl | simp) C.toList _ HL.out hu rfl hinL ?_)
      | (refine wpList_store_fresh rfl 103 _ _ rfl w.heap.size C rfl rfl 103 Z hnew hinT hZC hone HB.out (Nat.le_refl _) ?_; intro W2 hW2 hb2 hk2 hs2))
    refine bodyPost_ret (HP.out _ hW2 _ rfl) rfl ?_
    exact ⟨rfl, hb2⟩
end

end Go.Proofs.YtbnhkplhmanmoaaGreat

namespace Go.Proofs.YtbnhkplhmanmoaaGreat
open Go.RowKit
open Go.ChangeMaps (setBlock)
open Go.Maps (Keyed)

theorem mt_other {w w' : World} {b k : Nat} (h : w.mapTurned w' b) (hk : k ≠ b) : w'.heap[k]? = w.heap[k]? := by
  obtain ⟨es, clock, es', clock', hb, rfl⟩ := h
  show (w.heap.setIfInBounds b _)[k]? = _
  rw [Array.getElem?_setIfInBounds_ne (Ne.symm hk)]
theorem mt_away {F : Nat → Prop} {a w w' : World} {b : Nat} (h : Away F a w) (ht : w.mapTurned w' b) (hF : F b) : Away F a w' := by
  have hk := fun k => mt_other (k := k) ht
  obtain ⟨es, clock, es', clock', hb, rfl⟩ := ht
  exact ⟨h.os, h.tape, h.output, by simpa [setBlock] using h.size, fun k hk1 hk2 => (hk k (fun e => hk2 (e ▸ hF))).trans (h.block k hk1 hk2)⟩
theorem al_away {F : Nat → Prop} {a w : World} (h : Away F a w) (o : Obj) : Away F a (w.alloc o) :=
  ⟨h.os, h.tape, h.output, by have := h.size; simp; omega, fun k hk1 hk2 => (Below.heap_alloc w o k (by have := h.size; omega)).trans (h.block k hk1 hk2)⟩
theorem th_away {F : Nat → Prop} {a w w' : World} (h : Away F a w) (hb : Below w.heap.size w w') : Away F a w' :=
  ⟨hb.os.trans h.os, hb.tape.trans h.tape, hb.output.trans h.output, Nat.le_trans h.size hb.size, fun k hk1 hk2 => (hb.block k (by have := h.size; omega)).trans (h.block k hk1 hk2)⟩
theorem aw_trans {F F' : Nat → Prop} {a w w' : World} (h : Away F a w) (h' : Away F' w w') (hF : ∀ b, F' b → F b ∨ a.heap.size ≤ b) : Away F a w' :=
  ⟨h'.os.trans h.os, h'.tape.trans h.tape, h'.output.trans h.output, Nat.le_trans h.size h'.size, fun k hk1 hk2 => (h'.block k (Nat.lt_of_lt_of_le hk1 h.size) (fun q => (hF k q).elim hk2 (fun q => by omega))).trans (h.block k hk1 hk2)⟩

section
variable {H : Type} {P : Program} {k : TypeId} {R : Value → Option (DataW H × List MemPlace)} {w : World} {b n : Nat} {D : DataW H}
theorem map_hereH {w : World} {b : Nat} {o o' : Obj} (hb : w.heap[b]? = some o) : (setBlock w b o').heap[b]? = some o' := by
  obtain ⟨hlt, _⟩ := Array.getElem?_eq_some_iff.1 hb
  show (w.heap.setIfInBounds b o')[b]? = _
  rw [Array.getElem?_setIfInBounds_self, if_pos hlt]
/-- 'clear(m)'. -/
theorem ownsMap_clear {t e : TypeId} (h : w.ownsMap P k R b n D) (ht : P.underlying t = some (.map k e)) (ty : TypeId) :
    ∃ w', (Builtin.clear_ #[t] ty #[.map (some b)]).run P w = .ok (.tuple #[]) w' ∧ w'.ownsMap P k R b 0 (.map [] : DataW H) ∧ w.mapTurned w' b := by
  obtain ⟨es, clock, hb, F, hs, rfl⟩ := h
  refine ⟨setBlock w b (.map #[] clock), ?_, ⟨#[], clock, map_hereH hb, ⟨by simp, MapKept.stamped_empty clock, by simp⟩, Nat.le_refl _, rfl⟩, ⟨es, clock, #[], clock, hb, rfl⟩⟩
  simp [Builtin.clear_, run_underlying ht, MapKept.run_getObj_map hb, MapKept.run_setObj_map _ hb, Result.andThen, setBlock]

theorem wpList_clearD {ops : Array Oper} {rest : List Oper} {o : Oper} {a : Act} {Q : Exit → Act → World → Prop} (hg : o.guard = none) (m : Operand) (t : TypeId) (hop : o.op = Op.call { callee := Callee.builtin Builtin.clear, args := #[m], argTypes := #[t] })
    (e : TypeId) (ht : P.underlying t = some (.map k e)) (hm : a.eval m = .map (some b)) (hown : w.ownsMap P k R b n D)
    (hK : ∀ w', w'.ownsMap P k R b 0 (.map [] : DataW H) → w.mapTurned w' b → wpList P ops Q rest (a.put o.dst (.tuple #[])) w') : wpList P ops Q (o :: rest) a w := by
  refine wpList_plain hg fun K' hK' => ?_
  obtain ⟨w', hr, h2, h3⟩ := ownsMap_clear hown ht o.type
  unfold Oper.wp execOp
  simp only [hop, resolve, invoke, builtin, Sem.run_bind, Sem.run_pure, Result.andThen_ok, List.map_toArray, List.map_cons, List.map_nil, hm, hr]
  exact hK' _ _ (hK w' h2 h3)

theorem step_deleteH {ops : Array Oper} {o : Oper} {a : Act} {K : Act → World → Prop} {Q : Exit → Act → World → Prop} {E : Prop} (hgd : o.guard = none) (m x : Operand) (t : TypeId) (hop : o.op = Op.call { callee := Callee.builtin Builtin.delete, args := #[m, x], argTypes := #[t, k] })
    (e : TypeId) (KK : Keyed P k) (ht : P.underlying t = some (.map k e))
    (hm : a.eval m = .map (some b)) (hown : w.ownsMap P k R b n D) (key : Value) (kl : Lit) (hx : a.eval x = key) (hkey : keyOf P k key = some kl)
    (h : ∀ w', w'.ownsMap P k R b n (D.del kl) → w.mapTurned w' b → K (a.put o.dst (.tuple #[])) w') :
    if Region.wanted o (yielded ops a.tmps) = true then Oper.wp P o a w K Q else E := by
  have hw : Region.wanted o (yielded ops a.tmps) = true := by simp [Region.wanted, hgd]
  rw [if_pos hw]
  obtain ⟨w', hr, h2, h3⟩ := hown.drop KK ht hkey o.type
  unfold Oper.wp execOp
  simp only [hop, resolve, invoke, builtin, Sem.run_bind, Sem.run_pure, Result.andThen_ok, List.map_toArray, List.map_cons, List.map_nil, hm, hx, hr]
  exact h w' h2 h3

theorem step_mapUpdateH {ops : Array Oper} {o : Oper} {a : Act} {K : Act → World → Prop} {Q : Exit → Act → World → Prop} {E : Prop} (hgd : o.guard = none) (m x v : Operand) (t : TypeId) (hop : o.op = Op.mapUpdate t m x v)
    (e : TypeId) (KK : Keyed P k) (ht : P.underlying t = some (.map k e)) (hm : a.eval m = .map (some b)) (hown : w.ownsMap P k R b n D) (hn : n < maxLen) (key val : Value) (kl : Lit) (hx : a.eval x = key) (hv : a.eval v = val) (hkey : keyOf P k key = some kl)
    (d : DataW H) (ps : List MemPlace) (hval : R val = some (d, ps))
    (h : ∀ w', w'.ownsMap P k R b (n + 1) (D.put kl d) → w.mapTurned w' b → K (a.put o.dst undef) w') :
    if Region.wanted o (yielded ops a.tmps) = true then Oper.wp P o a w K Q else E := by
  have hw : Region.wanted o (yielded ops a.tmps) = true := by simp [Region.wanted, hgd]
  rw [if_pos hw]
  obtain ⟨w', hr, h2, h3⟩ := hown.store KK ht hn hkey hval
  unfold Oper.wp execOp
  simp only [hop, hm, hx, hv, hr, Sem.run_bind, Sem.run_pure, Result.andThen_ok]
  exact h w' h2 h3
end

end Go.Proofs.YtbnhkplhmanmoaaGreat

namespace Go.Proofs.YtbnhkplhmanmoaaGreat
open Go.RowKit

section
variable {w w' : World} {p gl gn : Nat} {V : Value} {z : Int} {DL : DataW Value} {DN : DataW Unit} {s : Dk}
/-- The map of what lasts turns. -/
theorem DiskIn.lastTurn (h : DiskIn w p gl gn V z DL DN s) {DL' : DataW Value} {m : Nat} {l' : List (List Nat)} (ho : w'.ownsMap Tryz.prog 3 heldElem gl m DL') (ht : w.mapTurned w' gl) (hs : SecMap DL' l') (hl : l'.length = s.last.length) (hsec : ∀ i, i < l'.length → Sec (l'.getD i [])) :
    DiskIn w' p gl gn V z DL' DN ⟨l', s.pend, s.lim, s.off⟩ :=
  ⟨⟨by rw [hl]; exact h.ok.pos, by rw [hl]; exact h.ok.le, hsec, fun i hi => by rw [hl]; exact h.ok.pen i hi⟩, by rw [hl]; exact (mt_other ht h.a1.1).trans h.box, mapTight ho, hs, mapHeap h.new (mt_other ht (Ne.symm h.a1.2.2)), h.nsays, own_same h.pend (fun g e => mt_other ht (fun e2 => h.a2.2.1 (e2 ▸ e))), h.lim, h.zi, h.a1, h.a2⟩

theorem rangeAt_list {w : World} {g : Nat} {C : Array Value} {t : TypeId} {fr : Nat × Nat} (h : w.heap[g]? = some (.cells C t fr)) {cs : List Value} (hc : ∀ (j : Nat) (v : Value), cs[j]? = some v → C[j]? = some v) : w.rangeAt g 0 cs := fun j v hv => by
  rw [Nat.zero_add, cell_of_row w g j C t fr h]; exact hc j v hv
theorem wrV_sec (i : Nat) {t : List Nat} (ht : t.length = 64) : (∀ (j : Nat) (v : Value), (BA t).toList[j]? = some v → (wrV (i, t)).toArray[j]? = some v) ∧ (wrV (i, t)).toArray[64]? = some (.int .i64 (i : Int)) := by
  have hl : (BA t).toList.length = 64 := by rw [Array.length_toList, BA_size, ht]
  refine ⟨fun j v hv => ?_, ?_⟩
  · have hj : j < (BA t).toList.length := by
      rcases Nat.lt_or_ge j (BA t).toList.length with q | q
      · exact q
      · rw [List.getElem?_eq_none q] at hv; cases hv
    rw [List.getElem?_toArray]
    unfold wrV
    rw [List.getElem?_append_left hj]; exact hv
  · rw [List.getElem?_toArray]
    show ((BA t).toList ++ [Value.int .i64 (i : Int)])[64]? = _
    rw [List.getElem?_append_right (by omega), hl]; rfl

set_option maxHeartbeats 1600000 in
set_option maxRecDepth 20000 in
theorem keep_go (h : DiskIn w p gl gn V z DL DN s) (i : Nat) (hi : i < s.last.length) (t : List Nat) (ht : Sec t) :
    Calls Tryz.prog 52 #[.pointer (some ⟨p, 0, none⟩), .agg (wrV (i, t)).toArray] w fun e w' => e = .returned (.tuple #[]) ∧ (∃ DL', DiskIn w' p gl gn V z DL' DN ⟨s.last.set i t, s.pend, s.lim, s.off⟩) ∧ Away (ownD p gl gn V) w w' := by
  have hi6 : (i : Int) < 4096 := by have := h.ok.le; omega
  have hkey := Lib.hid (keyOfD (x := (i : Int)) (by unfold I64c; omega))
  obtain ⟨g1, g2⟩ := wrV_sec i ht.1
  obtain ⟨C, hC⟩ : ∃ C, C = (wrV (i, t)).toArray := ⟨_, rfl⟩
  rw [← hC] at g1 g2 ⊢
  have hBk := fun W : World => blank_go t ht.1 W
  have hinL : (Tryz.prog.info? 103).map (·.size) = some (BA t).toList.length := by rw [Array.length_toList, BA_size, ht.1]; exact Tryz.infS
  have hu := Tryz.und64
  have hb0 : Below w.heap.size w (w.alloc (.cells C 105)) := (Below.refl _ _).alloc (Nat.le_refl _) _
  have hb1 : Below w.heap.size w ((w.alloc (.cells C 105)).alloc (.cells (BA t) 103)) := hb0.alloc (by simp) _
  have y0 := heap_alloc_new w (.cells C 105)
  have y1 : ((w.alloc (.cells C 105)).alloc (.cells (BA t) 103)).heap[w.heap.size]? = some (.cells C 105 (0, 0)) := (Below.heap_alloc _ _ _ (by simp)).trans y0
  have h1 := h.later hb1
  have hlen : (s.last.set i t).length = s.last.length := List.length_set
  have hsec : ∀ j, j < (s.last.set i t).length → Sec ((s.last.set i t).getD j []) := fun j hj => by
    rw [hlen] at hj
    rw [set_getD _ _ _ _ hj]
    split
    · exact ht
    · exact h.ok.sec j hj
  have hmx : Maps.size DL < maxLen := by
    have := h.lsays.keys.size (h.last.tidy keyD)
    have := h.ok.le
    unfold maxLen; omega
  have HR0 := Lib.hid (rangeAt_list (cs := (BA t).toList) y0 g1)
  have hA : Away (ownD p gl gn V) w ((w.alloc (.cells C 105)).alloc (.cells (BA t) 103)) := al_away (al_away (Away.refl _ w) _) _
  obtain ⟨W, hW⟩ : ∃ W, W = (w.alloc (.cells C 105)).alloc (.cells (BA t) 103) := ⟨_, rfl⟩
  rw [← hW] at hb1 y1 h1 hA
  obtain ⟨_, d1, _⟩ := h1.cells
  have d2 : W.cell? ⟨w.heap.size, 64, none⟩ = some (.int .i64 (i : Int)) := by rw [cell_of_row _ _ _ _ _ _ y1]; exact g2
  have dR : W.rangeAt w.heap.size 0 (BA t).toList := rangeAt_list y1 g1
  have hne : w.heap.size ≠ gl := fun e => by have := h.lt gl own_l; omega
  have HM := Lib.hid h1.last
  have HS : Hid (∀ W3 : World, W.drew.mapTurned W3 gl → W3.cell? ⟨p, 1, none⟩ = some (.map (some gl)) ∧ W3.cell? ⟨w.heap.size, 64, none⟩ = some (.int .i64 (i : Int)) ∧ W3.rangeAt w.heap.size 0 (BA t).toList) := fun W3 q =>
    ⟨(World.cell?_of_block (mt_other q h.a1.1)).trans d1, (World.cell?_of_block (mt_other q hne)).trans d2, fun j v hv => (World.cell?_of_block (mt_other q hne)).trans (dR j v hv)⟩
  have HD := Lib.hid hW
  by_cases hz : (t == zeroSec) = true
  · have HE : Hid (∀ (W3 : World) (m : Nat), W3.ownsMap Tryz.prog 3 heldElem gl m (DL.del (.int .i64 (i : Int))) → W.drew.mapTurned W3 gl → (∃ DL', DiskIn W3 p gl gn V z DL' DN ⟨s.last.set i t, s.pend, s.lim, s.off⟩) ∧ Away (ownD p gl gn V) w W3) := fun W3 m q1 q2 => by
      have e : t = zeroSec := by simpa using hz
      exact ⟨⟨_, (h1.keep (w' := W.drew) (fun _ _ => rfl)).lastTurn q1 q2 (by rw [e]; exact h.lsays.del) hlen hsec⟩, mt_away (away_drew1 hA) q2 own_l⟩
    rw [hz] at hBk
    obtain ⟨s2, hs2⟩ : ∃ s2, s2 = (⟨s.last.set i t, s.pend, s.lim, s.off⟩ : Dk) := ⟨_, rfl⟩
    rw [← hs2] at HE ⊢
    obtain ⟨T, hTT⟩ : ∃ T, T = BA t := ⟨_, rfl⟩
    unfold secV at hBk
    simp only [← hTT] at hBk HR0 HS dR hinL HD
    have HBk := Lib.hid hBk
    clear h h1 g1 g2 hC hb0 y0 y1 hlen hsec hmx hA hb1 hs2 hTT hz hi ht hBk hW
    go_enter Tryz.func52, Tryz.ntmps52
    go_wp2_with (first
      | (refine wpList_load_mid rfl 103 _ rfl w.heap.size 0 (by first | rfl | simp) T.toList _ HR0.out hu rfl hinL ?_; rw [Array.toArray_toList])
      | (go_at_call 84; with_reducible (refine Calls.mono (HBk.out _) ?_); rintro e w1 ⟨rfl, rfl⟩; rw [← HD.out]))
    go_region_held3 (fun W => W.cell? ⟨p, 1, none⟩ = some (.map (some gl)) ∧ W.cell? ⟨w.heap.size, 64, none⟩ = some (.int .i64 (i : Int)) ∧ W.rangeAt w.heap.size 0 T.toList)
      (first
        | exact ⟨d1, d2, dR⟩
        | exact HS.out _ ht3)
      (first
        | (refine step_deleteH rfl _ _ 58 rfl _ keyD Tryz.undMapL rfl HM.out _ _ rfl hkey.out ?_
           intro w3 ho3 ht3))
    exact bodyPost_end (results_none rfl _ _ _) rfl ⟨rfl, HE.out _ _ ho3 ht3⟩
  · have HE : Hid (∀ (W3 : World) (m : Nat), W3.ownsMap Tryz.prog 3 heldElem gl m (DL.put (.int .i64 (i : Int)) (.held (secV t))) → W.drew.mapTurned W3 gl → (∃ DL', DiskIn W3 p gl gn V z DL' DN ⟨s.last.set i t, s.pend, s.lim, s.off⟩) ∧ Away (ownD p gl gn V) w W3) := fun W3 m q1 q2 =>
      ⟨⟨_, (h1.keep (w' := W.drew) (fun _ _ => rfl)).lastTurn q1 q2 (h.lsays.put (h.last.isMap) hi t) hlen hsec⟩, mt_away (away_drew1 hA) q2 own_l⟩
    rw [eq_false_of_ne_true hz] at hBk
    obtain ⟨s2, hs2⟩ : ∃ s2, s2 = (⟨s.last.set i t, s.pend, s.lim, s.off⟩ : Dk) := ⟨_, rfl⟩
    rw [← hs2] at HE ⊢
    obtain ⟨T, hTT⟩ : ∃ T, T = BA t := ⟨_, rfl⟩
    unfold secV at hBk HE
    simp only [← hTT] at hBk HR0 HS dR hinL HD HE
    have HBk := Lib.hid hBk
    obtain ⟨W3, hrun3, ho3, ht3⟩ := World.ownsMap.store (w := W.drew) (t := 58) (e := 103) (val := .agg T) (d := .held (.agg T)) (ps := []) h1.last keyD Tryz.undMapL hmx hkey.out rfl
    have R := Lib.hid (HE.out W3 _ ho3 ht3)
    have S3 := Lib.hid (HS.out W3 ht3)
    clear ho3 ht3
    clear h h1 g1 g2 hC hb0 y0 y1 hlen hsec hmx hA hb1 hs2 hTT hz hi ht hBk hW
    go_enter Tryz.func52, Tryz.ntmps52
    go_wp2_with (first
      | (refine wpList_load_mid rfl 103 _ rfl w.heap.size 0 (by first | rfl | simp) T.toList _ HR0.out hu rfl hinL ?_; rw [Array.toArray_toList])
      | (go_at_call 84; with_reducible (refine Calls.mono (HBk.out _) ?_); rintro e w1 ⟨rfl, rfl⟩; rw [← HD.out]))
    go_region_held3 (fun W => W.cell? ⟨p, 1, none⟩ = some (.map (some gl)) ∧ W.cell? ⟨w.heap.size, 64, none⟩ = some (.int .i64 (i : Int)) ∧ W.rangeAt w.heap.size 0 T.toList)
      (first
        | exact ⟨d1, d2, dR⟩
        | exact S3.out)
      (first
        | fail)
    exact bodyPost_end (results_none rfl _ _ _) rfl ⟨rfl, R.out⟩
end

end Go.Proofs.YtbnhkplhmanmoaaGreat
