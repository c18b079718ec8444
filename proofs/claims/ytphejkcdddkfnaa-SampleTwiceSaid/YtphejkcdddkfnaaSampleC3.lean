/-
  sample's Distances: the map of last places; the walk.
-/
import Derived.Test.YtphejkcdddkfnaaSampleC2
import Derived.Test.YtphejkcdddkfnaaSampleLastN
import Derived.Maps.OwnSet
namespace Go.Proofs.Ytphejkcdddkfnaa
open Go.RowKit
open Go.Maps (IsMap atKey_put_same atKey_put_other has_put_same has_put_other)

/-- The map says of each number where it stands last ahead of place k. -/
def MapS (D : DataW Unit) (l : List Int) (k : Nat) : Prop := IsMap D ∧ ∀ x : Int, Maps.has D (.int .i64 x) = (lastOf l x k).isSome ∧ D.atKey (.int .i64 x) (.lit (.int .i64 0)) = .lit (.int .i64 (((lastOf l x k).getD 0 : Nat) : Int))
theorem mapS_none (l : List Int) : MapS (.map []) l 0 := ⟨⟨[], rfl⟩, fun _ => ⟨rfl, rfl⟩⟩
theorem mapS_next {D : DataW Unit} {l : List Int} {k : Nat} (h : MapS D l k) : MapS (D.put (.int .i64 (l.getD k 0)) (.lit (.int .i64 (k : Int)))) l (k + 1) := by
  refine ⟨h.1.put _ _, fun x => ?_⟩
  by_cases e : l.getD k 0 = x
  · subst e
    rw [has_put_same h.1 (by first | trivial | simp [WideAt.IsKeyLit]), atKey_put_same h.1 (by first | trivial | simp [WideAt.IsKeyLit]), lastOf_here]
    exact ⟨rfl, rfl⟩
  · have hne : (Lit.int .i64 x) ≠ .int .i64 (l.getD k 0) := fun q => by injection q with _ q; exact e q.symm
    rw [has_put_other hne, atKey_put_other hne, lastOf_other l e]
    exact h.2 x
theorem Try.undMap : Try.prog.underlying 41 = some (.map 3 3) := by kernel_rfl
theorem Try.undIntS : Try.prog.underlying 3 = some (.int .i64) := by kernel_rfl
theorem keyS : Maps.Keyed Try.prog 3 := Maps.int_keyed Try.undIntS
theorem zeroS (w : World) : (zeroValue 3).run Try.prog w = .ok (.int .i64 0) w := by kernel_rfl

/-- 'v, ok := m[x]', what is there told. -/
theorem wpList_lookS {P : Program} (w : World) {ops : Array Oper} {rest : List Oper} {o : Oper} {a : Act} {Q : Exit → Act → World → Prop} (hg : o.guard = none) (m x : Operand) (t : TypeId) (hop : o.op = Op.lookup t m x true)
    (k e : TypeId) (q : IntKind) (K : Maps.Keyed P k) (ht : P.underlying t = some (.map k e)) (he : P.underlying e = some (.int q)) (hz : (zeroValue e).run P w = .ok (.int q 0) w) (b n : Nat) (D : DataW Unit)
    (hm : a.eval m = .map (some b)) (hown : w.ownsMap P k (plainElem P e) b n D) (key : Value) (kl : Lit) (hx : a.eval x = key) (hkey : keyOf P k key = some kl) (c : Int) (h : Bool) (hat : D.atKey kl (.lit (.int q 0)) = .lit (.int q c)) (hh : Maps.has D kl = h)
    (hK : wpList P ops Q rest (a.put o.dst (.tuple #[.int q c, .bool h])) w) : wpList P ops Q (o :: rest) a w :=
  wpList_lookup_own_ok_int w hg m x t hop k e q K ht he hz b n D hm hown key kl hx hkey fun c' h1 _ => by
    rw [hat] at h1
    injection h1 with h1
    injection h1 with _ h1
    rw [← h1, hh]
    exact hK

/-- What a round holds. -/
structure DistS (l : List Int) (w : World) (k : Nat) (W : World) : Prop where
  map : ∃ D, W.ownsMap Try.prog 3 (plainElem Try.prog 3) w.heap.size k D ∧ MapS D l k
  ones : RwS (w.heap.size + 1) (onesL l k) W
  dist : RwS (w.heap.size + 1 + 1) (distTo l k) W
  below : Below w.heap.size w W

theorem RwS.grown {g b : Nat} {l : List Int} {w w' : World} (h : RwS g l w) (hg : w.grownBy w' (some b)) (hne : g ≠ b) : RwS g l w' := by
  show _ = _
  rw [hg.block g h.lt (fun e => hne (by injection e))]; exact h
/-- A round's end: the place is in the map, and counts. -/
theorem distS_end {l : List Int} {w W w1 : World} {k : Nat} {D : DataW Unit} (hD : MapS D l k) (hg : W.grownBy w1 (some w.heap.size)) (hown : w1.ownsMap Try.prog 3 (plainElem Try.prog 3) w.heap.size (k + 1) (D.put (.int .i64 (l.getD k 0)) (.lit (.int .i64 (k : Int)))))
    (O : List Int) (ho : RwS (w.heap.size + 1) O W) (hO : O.set k 1 = onesL l (k + 1)) (hd : RwS (w.heap.size + 1 + 1) (distTo l (k + 1)) W) (hb : Below w.heap.size w W) :
    DistS l w (k + 1) (w1.setCell ⟨w.heap.size + 1, k, none⟩ (.int .i64 1)) := by
  have ho1 := ho.grown hg (show w.heap.size + 1 ≠ w.heap.size by omega)
  have hd1 := hd.grown hg (show w.heap.size + 1 + 1 ≠ w.heap.size by omega)
  refine ⟨⟨_, hown.setCell (show w.heap.size ≠ w.heap.size + 1 by omega) _, mapS_next hD⟩, ?_, hd1.other (by omega) _ _, (hb.grown hg hb.size (fun j hj => by cases hj; exact Nat.le_refl _)).setCell (p := ⟨w.heap.size + 1, k, none⟩) (Nat.le_succ _) _⟩
  rw [← hO]; exact ho1.set k 1

set_option maxHeartbeats 1600000 in
set_option maxRecDepth 20000 in
theorem distBad_go (A : Option Addr) (c N : Nat) (w : World) (hbad : 4096 < N) :
    Calls Try.prog 13 #[.slice A N c] w fun e w' => e = .returned (.slice none 0 0) ∧ w' = w := by
  have h : (4096 : Int) < (N : Int) := by omega
  clear hbad
  go_enter Try.func13, Try.ntmps13
  go_wp2
  go_ret
  exact ⟨rfl, rfl⟩

set_option maxHeartbeats 1600000 in
set_option maxRecDepth 20000 in
theorem dist_go (A : Option Addr) (c : Nat) (l : List Int) (w : World) (h : Ints w w.heap.size .i64 A l) (hz : I64s l) (hl : l.length ≤ 4096) :
    Calls Try.prog 13 #[.slice A l.length c] w fun e w' => e = .returned (.slice (some ⟨w.heap.size + 1 + 1, 0, none⟩) l.length l.length) ∧ Ints w' w'.heap.size .i64 (some ⟨w.heap.size + 1 + 1, 0, none⟩) (distL l) ∧ Below w.heap.size w w' := by
  obtain ⟨N, hN⟩ : ∃ N, N = l.length := ⟨_, rfl⟩
  have HN := Lib.hid hN
  have hNi : (N : Int) ≤ 4096 := by omega
  have hmm := @run_makeMap Try.prog
  have hmk := makeS N (by omega)
  have HF := Lib.hid h
  have HZ := Lib.hid hz
  rw [← hN]
  obtain ⟨Z, hZ⟩ : ∃ Z, Z = CI (List.replicate N 0) := ⟨_, rfl⟩
  rw [← hZ] at hmk
  have HZ1 : Hid (Z = CI (onesL l 0)) := by unfold Hid; rw [hZ, onesL_zero, hN]
  have HZ2 : Hid (Z = CI (distTo l 0)) := by unfold Hid; rw [hZ, distTo_zero, hN]
  clear h hz hl hN hZ
  go_enter Try.func13, Try.ntmps13
  go_wp2
  go_loopw [22] (fun i wr => ∃ k : Nat, k ≤ N ∧ i = .int .i64 k ∧ Hid (DistS l w k wr)) (fun i _ => N - (intOf i).toNat)
  case atStart =>
    have hs1 : (w.alloc (.map #[] 0)).heap.size = w.heap.size + 1 := by simp
    have hb1 : Below w.heap.size w (w.alloc (.map #[] 0)) := (Below.refl _ _).alloc (Nat.le_refl _) _
    have hm1 : (w.alloc (.map #[] 0)).ownsMap Try.prog 3 (plainElem Try.prog 3) w.heap.size 0 (.map [] : DataW Unit) := World.ownsMap_made _ _ _ _
    obtain ⟨W, hW⟩ : ∃ W, W = w.alloc (.map #[] 0) := ⟨_, rfl⟩
    rw [← hW] at hs1 hb1 hm1 ⊢
    have h2 := heap_alloc_new W (.cells Z 3)
    have h3 := heap_alloc_new (W.alloc (.cells Z 3)) (.cells Z 3)
    have hs2 : (W.alloc (.cells Z 3)).heap.size = w.heap.size + 1 + 1 := by rw [← hs1]; simp
    refine ⟨0, Nat.zero_le _, rfl, ⟨⟨_, (hm1.alloc _).alloc _, mapS_none l⟩, ?_, ?_, (hb1.alloc (by omega) _).alloc (by omega) _⟩⟩
    · unfold RwS
      rw [Below.heap_alloc _ _ _ (by rw [hs2]; exact Nat.lt_succ_self _), ← hs1, ← HZ1.out]; exact h2
    · unfold RwS
      rw [← hs2, ← HZ2.out]; exact h3
  case round =>
    obtain ⟨k, hk, rfl, hr⟩ := hrel
    clear hmk HZ1 HZ2 hmm
    by_cases hlt : k < N
    · have k1 : (k : Int) < (N : Int) := by omega
      have k0 : (0 : Int) ≤ (k : Int) := by omega
      obtain ⟨b, o, rfl, hb, hc⟩ := (HF.out.below hr.out.below) k (by have := HN.out; omega)
      have hxm := HZ.out (l.getD k 0) (getD_mem (by have := HN.out; omega))
      have hfr : wr.frozen? ⟨w.heap.size + 1 + 1, k, none⟩ = false := hr.out.dist.thaw k
      have hcd : ∃ v, wr.cell? ⟨w.heap.size + 1 + 1, k, none⟩ = some (.int .i64 v) := ⟨_, hr.out.dist.cell (by rw [distTo_len]; have := HN.out; omega)⟩
      obtain ⟨v, hcd⟩ := hcd
      obtain ⟨D, hown, hD⟩ := hr.out.map
      have hD1 := hD.2 (l.getD k 0)
      have H12 : Hid (lastOf l (l.getD k 0) k = lastOf l (l.getD k 0) k) := rfl
      obtain ⟨x, hx⟩ : ∃ x, x = l.getD k 0 := ⟨_, rfl⟩
      rw [← hx] at hc hxm hD1 H12
      have hown1 : Hid ((wr.setCell ⟨w.heap.size + 1 + 1, k, none⟩ (.int .i64 (-1))).ownsMap Try.prog 3 (plainElem Try.prog 3) w.heap.size k D) := hown.setCell (show w.heap.size ≠ w.heap.size + 1 + 1 by omega) _
      have hkey : keyOf Try.prog 3 (.int .i64 x) = some (.int .i64 x) := Maps.keyOf_int_mk Try.undIntS (by simp [Lit.wf, IntKind.min, IntKind.max, IntKind.signed, IntKind.bits]; exact hxm)
      replace hkey := Lib.hid hkey
      have HX := Lib.hid hx
      clear hx hxm hown
      rcases hlast : lastOf l x k with _ | bb
      · rw [hlast] at hD1
        have HD1 := Lib.hid hD1
        clear hD1
        have hW : Hid (∃ O, RwS (w.heap.size + 1) O (wr.setCell ⟨w.heap.size + 1 + 1, k, none⟩ (.int .i64 (-1))) ∧ O.length = N ∧ O.set k 1 = onesL l (k + 1) ∧ RwS (w.heap.size + 1 + 1) (distTo l (k + 1)) (wr.setCell ⟨w.heap.size + 1 + 1, k, none⟩ (.int .i64 (-1))) ∧ Below w.heap.size w (wr.setCell ⟨w.heap.size + 1 + 1, k, none⟩ (.int .i64 (-1)))) := by
          refine ⟨onesL l k, hr.out.ones.other (by omega) _ _, by rw [onesL_len]; exact HN.out.symm, (onesL_first (by have := HN.out; omega) (by rw [← HX.out]; exact hlast)).symm, ?_, hr.out.below.setCell (p := ⟨w.heap.size + 1 + 1, k, none⟩) (by show w.heap.size ≤ w.heap.size + 1 + 1; omega) _⟩
          have h1 := hr.out.dist.set k (-1)
          rw [← dist_first (i := k) (by rw [← HX.out]; exact hlast), distTo_next] at h1
          rw [← dist_first (i := k) (by rw [← HX.out]; exact hlast)]; exact h1
        obtain ⟨W, hWW⟩ : ∃ W, W = wr.setCell ⟨w.heap.size + 1 + 1, k, none⟩ (.int .i64 (-1)) := ⟨_, rfl⟩
        rw [← hWW] at hW hown1
        have HWW := Lib.hid hWW
        have HL := Lib.hid hlast
        replace hD := Lib.hid hD
        clear hlast hr hWW HF
        go_wp2_with (first
          | (at_lookup; rw [← HWW.out]; refine wpList_lookS _ rfl _ _ 41 rfl 3 3 .i64 keyS Try.undMap Try.undIntS (zeroS _) w.heap.size k D rfl hown1.out _ _ rfl hkey.out _ _ HD1.out.2 HD1.out.1 ?_)
          | (at_mapUpdate; refine wpList_mapUpdate_own _ rfl _ _ _ 41 rfl 3 3 keyS Try.undMap _ w.heap.size k D rfl hown1.out (by unfold maxLen; omega) _ _ _ rfl rfl hkey.out _ [] (plainElem_int Try.undIntS (by simp [Lit.wf, IntKind.min, IntKind.max, IntKind.signed, IntKind.bits]; omega)) ?_; intro w1 hown2 hgrow1
             obtain ⟨O, ho, hOl, hO, hd, hbl⟩ := hW.out
             rw [HX.out] at hown2
             have R : Hid (DistS l w (k + 1) (w1.setCell ⟨w.heap.size + 1, k, none⟩ (.int .i64 1))) := distS_end hD.out hgrow1 hown2 O ho hO hd hbl
             have ho2 := ho.grown hgrow1 (show w.heap.size + 1 ≠ w.heap.size by omega)
             have hf2 := ho2.thaw k
             have hc2 := ho2.cell (i := k) (by omega)
             clear ho ho2 hO hd hbl hown2 hgrow1))
        go_roundw
        case rel => exact ⟨k + 1, by omega, by go_num, R⟩
        case measure => first | (simp [intOf]; done) | (simp [intOf]; omega)
      · rw [hlast] at hD1
        have HD1 := Lib.hid hD1
        clear hD1
        have HI := HN.out
        have hlast' : lastOf l (l.getD k 0) k = some bb := by rw [← HX.out]; exact hlast
        obtain ⟨hbk, _, _⟩ := lastOf_some hlast
        obtain ⟨m, hm⟩ : ∃ m, m = bb + 1 := ⟨_, rfl⟩
        have hmw : wrap64 ((bb : Int) + 1) = (m : Int) := by unfold wrap64; omega
        have hmw2 : (bb : Int) + 1 = (m : Int) := by omega
        have hmk1 : (m : Int) ≤ (k : Int) := by omega
        have hm0 : (0 : Int) ≤ (m : Int) := by omega
        have hmN : ¬ N = m := by omega
        have hbN : (bb : Int) < (N : Int) := by omega
        have hb0 : (0 : Int) ≤ (bb : Int) := by omega
        have hne : bb ≠ k := by omega
        obtain ⟨W, hWW⟩ : ∃ W, W = wr.setCell ⟨w.heap.size + 1 + 1, k, none⟩ (.int .i64 (-1)) := ⟨_, rfl⟩
        have hWo : RwS (w.heap.size + 1) (onesL l k) W := by rw [hWW]; exact hr.out.ones.other (by omega) _ _
        have hWd : RwS (w.heap.size + 1 + 1) ((distTo l k).set k (-1)) W := by rw [hWW]; exact hr.out.dist.set k (-1)
        have hWb : Below w.heap.size w W := by rw [hWW]; exact hr.out.below.setCell (p := ⟨w.heap.size + 1 + 1, k, none⟩) (by show w.heap.size ≤ w.heap.size + 1 + 1; omega) _
        have HSUM : Hid (Calls Try.prog 19 #[.slice (some ⟨w.heap.size + 1, m, none⟩) (k - m) (N - m)] W fun e w' => e = .returned (.int .i64 (distAt l k)) ∧ w' = W) := by
          have hbl := between_len (l := l) (i := k) (b := bb) (by omega)
          have h1 := sumS_any (some ⟨w.heap.size + 1, m, none⟩) (N - m) (between l k bb) W (fun i hi => ⟨w.heap.size + 1, m, rfl, hWo.lt, by
            rw [hWo.cell (by rw [onesL_len]; omega), onesL_at _ _ (by omega), between_at (by omega) (by omega), hm]⟩) (by omega) (fun i hi => by rw [between_at (by omega) (by omega)]; exact oneAt_bounds _ _ _)
          rw [hbl, dist_again (by omega) hlast', ← hm] at h1
          exact h1
        rw [← hWW] at hown1
        have HWW := Lib.hid hWW
        have HL := Lib.hid hlast'
        have HM := Lib.hid hm
        have hWc : W.cell? ⟨w.heap.size + 1 + 1, k, none⟩ = some (.int .i64 (-1)) := by
          rw [hWd.cell (by simp [distTo_len]; omega)]
          simp [List.getD_eq_getElem?_getD, distTo_len, show k < l.length by omega]
        have hWf := hWd.thaw k
        obtain ⟨W2, hW2⟩ : ∃ W2, W2 = W.setCell ⟨w.heap.size + 1 + 1, k, none⟩ (.int .i64 (distAt l k)) := ⟨_, rfl⟩
        have h2o : RwS (w.heap.size + 1) (onesL l k) W2 := by rw [hW2]; exact hWo.other (by omega) _ _
        have h2d : RwS (w.heap.size + 1 + 1) (distTo l (k + 1)) W2 := by
          have := hWd.set k (distAt l k)
          rw [set_twice, distTo_next] at this
          rw [hW2]; exact this
        have h2b : Below w.heap.size w W2 := by rw [hW2]; exact hWb.setCell (p := ⟨w.heap.size + 1 + 1, k, none⟩) (by show w.heap.size ≤ w.heap.size + 1 + 1; omega) _
        have h2m : W2.ownsMap Try.prog 3 (plainElem Try.prog 3) w.heap.size k D := by rw [hW2]; exact hown1.out.setCell (show w.heap.size ≠ w.heap.size + 1 + 1 by omega) _
        have h2c := hWo.cell (i := bb) (by rw [onesL_len]; omega)
        have h2f := hWo.thaw bb
        obtain ⟨q, hq⟩ : ∃ q, q = (onesL l k).getD bb 0 := ⟨_, rfl⟩
        rw [← hq] at h2c
        obtain ⟨W3, hW3⟩ : ∃ W3, W3 = W2.setCell ⟨w.heap.size + 1, bb, none⟩ (.int .i64 0) := ⟨_, rfl⟩
        have hW : Hid (∃ O, RwS (w.heap.size + 1) O W3 ∧ O.length = N ∧ O.set k 1 = onesL l (k + 1) ∧ RwS (w.heap.size + 1 + 1) (distTo l (k + 1)) W3 ∧ Below w.heap.size w W3) := by
          refine ⟨(onesL l k).set bb 0, ?_, by simp [onesL_len]; omega, (onesL_again (by omega) hlast').symm, ?_, ?_⟩
          · rw [hW3]; exact h2o.set bb 0
          · rw [hW3]; exact h2d.other (by omega) _ _
          · rw [hW3]; exact h2b.setCell (p := ⟨w.heap.size + 1, bb, none⟩) (by show w.heap.size ≤ w.heap.size + 1; omega) _
        have h3m : Hid (W3.ownsMap Try.prog 3 (plainElem Try.prog 3) w.heap.size k D) := by rw [hW3]; exact h2m.setCell (show w.heap.size ≠ w.heap.size + 1 by omega) _
        obtain ⟨z, hz⟩ : ∃ z, z = distAt l k := ⟨_, rfl⟩
        rw [← hz] at HSUM hW2
        have HW2 := Lib.hid hW2
        have HW3 := Lib.hid hW3
        replace hD := Lib.hid hD
        clear HI hlast hlast' hr hWW hm hbk HF h2m h2b h2d h2o hWo hWd hWb hW2 hW3 hq hz
        go_wp2_with (first
          | (at_lookup; rw [← HWW.out]; refine wpList_lookS _ rfl _ _ 41 rfl 3 3 .i64 keyS Try.undMap Try.undIntS (zeroS _) w.heap.size k D rfl hown1.out _ _ rfl hkey.out _ _ HD1.out.2 HD1.out.1 ?_)
          | (go_at_call 19; with_reducible (refine Calls.mono HSUM.out ?_); rintro e1 w1 ⟨rfl, rfl⟩)
          | (at_mapUpdate; rw [← HW2.out, ← HW3.out]; refine wpList_mapUpdate_own _ rfl _ _ _ 41 rfl 3 3 keyS Try.undMap _ w.heap.size k D rfl h3m.out (by unfold maxLen; omega) _ _ _ rfl rfl hkey.out _ [] (plainElem_int Try.undIntS (by simp [Lit.wf, IntKind.min, IntKind.max, IntKind.signed, IntKind.bits]; omega)) ?_; intro w4 hown2 hgrow1
             obtain ⟨O, ho, hOl, hO, hd, hbl⟩ := hW.out
             rw [HX.out] at hown2
             have R : Hid (DistS l w (k + 1) (w4.setCell ⟨w.heap.size + 1, k, none⟩ (.int .i64 1))) := distS_end hD.out hgrow1 hown2 O ho hO hd hbl
             have ho2 := ho.grown hgrow1 (show w.heap.size + 1 ≠ w.heap.size by omega)
             have hf2 := ho2.thaw k
             have hc2 := ho2.cell (i := k) (by omega)
             clear ho ho2 hO hd hbl hown2 hgrow1))
        go_roundw
        case rel => exact ⟨k + 1, by omega, by go_num, R⟩
        case measure => first | (simp [intOf]; done) | (simp [intOf]; omega)
    · have hkN : k = N := by omega
      have R : Hid (Ints wr wr.heap.size .i64 (some ⟨w.heap.size + 1 + 1, 0, none⟩) (distL l) ∧ Below w.heap.size w wr) := by
        have h1 := hr.out.dist.ints
        rw [hkN, HN.out, distTo_all] at h1
        exact ⟨h1, hr.out.below⟩
      have k1 : ¬ (k : Int) < (N : Int) := by omega
      clear hr HF hkN
      go_wp2
      go_ret
      exact ⟨rfl, R.out.1, R.out.2⟩

end Go.Proofs.Ytphejkcdddkfnaa
