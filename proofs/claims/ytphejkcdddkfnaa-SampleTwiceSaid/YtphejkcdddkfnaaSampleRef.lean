/-
  The document's own Distances.
-/
import Derived.Test.YtphejkcdddkfnaaSampleHas
import Derived.Test.YtphejkcdddkfnaaArrs
import Derived.Deep.DeepCutAuto
import Derived.Deep.RegionHeld3
namespace Go.Proofs.Ytphejkcdddkfnaa
open Go.RowKit

theorem Try.infoI64s : (Try.prog.info? 3).map (fun i => (i.zero, i.size, i.bytes)) = some (some (.int .i64 0), 1, 8) := by kernel_rfl
theorem distFrom_zero (l : List Int) (x : Int) (seen : List Int) : distFrom l x 0 seen = -1 := rfl
theorem distFrom_hit {l : List Int} {x : Int} {k : Nat} {seen : List Int} (h : l.getD k 0 = x) : distFrom l x (k + 1) seen = seen.length := by
  unfold distFrom
  rw [if_pos h]
theorem distFrom_old {l : List Int} {x : Int} {k : Nat} {seen : List Int} (h : l.getD k 0 ≠ x) (hs : decide (l.getD k 0 ∈ seen) = true) : distFrom l x (k + 1) seen = distFrom l x k seen := by
  rw [distFrom, if_neg h, if_pos (of_decide_eq_true hs)]
theorem distFrom_more {l : List Int} {x : Int} {k : Nat} {seen : List Int} (h : l.getD k 0 ≠ x) (hs : decide (l.getD k 0 ∈ seen) = false) : distFrom l x (k + 1) seen = distFrom l x k (seen ++ [l.getD k 0]) := by
  rw [distFrom, if_neg h, if_neg (of_decide_eq_false hs)]
theorem distL_snoc {l : List Int} {k : Nat} (h : k < l.length) : (distL l).take (k + 1) = (distL l).take k ++ [distAt l k] := by
  rw [List.take_add_one, List.getElem?_eq_getElem (by rw [distL_len]; exact h)]
  simp [distL]

set_option maxHeartbeats 3200000 in
set_option maxRecDepth 20000 in
theorem refDist_go (A : Option Addr) (c : Nat) (l : List Int) (w : World) (h : Ints w w.heap.size .i64 A l) (hl : l.length ≤ 4096) :
    Calls Try.prog 15 #[.slice A l.length c] w fun e w' => ∃ A' c', e = .returned (.slice A' l.length c') ∧ Ints w' w'.heap.size .i64 A' (distL l) ∧ Below w.heap.size w w' := by
  obtain ⟨i0, hi, hz0, hz1, hz2⟩ := info_parts Try.infoI64s
  obtain ⟨N, hN⟩ : ∃ N, N = l.length := ⟨_, rfl⟩
  have HF := Lib.hid h
  have hNi : (N : Int) ≤ 4096 := by omega
  rw [← hN]
  have HN := Lib.hid hN
  clear h hN hl
  go_enter Try.func15, Try.ntmps15
  go_wp2
  go_loopw [3, 4] (fun v i wr => ∃ k : Nat, k ≤ N ∧ i = .int .i64 k ∧ (∃ A c, v = .slice A k c) ∧ Hid (wr.ownsRow w.heap.size 3 1 v k (((distL l).take k).map (Value.int .i64)) ∧ Below w.heap.size w wr)) (fun _ i _ => N - (intOf i).toNat)
  case atStart => exact ⟨0, Nat.zero_le _, rfl, ⟨_, _, rfl⟩, World.ownsRow_made (base := w.heap.size) (e := 3) (size := 1) w #[] 0 (Nat.le_refl _) (Nat.zero_le _) rfl, (Below.refl _ _).alloc (Nat.le_refl _) _⟩
  case round =>
    obtain ⟨k, hk, rfl, ⟨A1, c1, rfl⟩, hS⟩ := hrel
    by_cases hlt : k < N
    · have k1 : (k : Int) < (N : Int) := by omega
      have k0 : (0 : Int) ≤ (k : Int) := by omega
      have hT : Hid (distFrom l (l.getD k 0) k [] = distAt l k) := rfl
      have hTS := Lib.hid (distL_snoc (l := l) (k := k) (by have := HN.out; omega))
      obtain ⟨T, hTT⟩ : ∃ T, T = distAt l k := ⟨_, rfl⟩
      rw [← hTT] at hT hTS
      clear hTT
      obtain ⟨wo, hwo⟩ : ∃ x, x = wr := ⟨_, rfl⟩
      subst hwo
      obtain ⟨bA, oA, rfl, hbA, hcA⟩ := HF.out.at_ (by have := HN.out; omega)
      have HC : Hid (∀ W i, Below w.heap.size w W → i < N → W.cell? ⟨bA, oA + i, none⟩ = some (.int .i64 (l.getD i 0))) := fun W i hb hi => (hb.cell (p := ⟨bA, oA + i, none⟩) hbA).trans (hcA i (by have := HN.out; omega))
      obtain ⟨x, hx⟩ : ∃ x, x = l.getD k 0 := ⟨_, rfl⟩
      have HX := Lib.hid hx
      rw [← hx] at hT
      clear hcA hx
      go_wp2
      go_loopw [5, 6, 7] (fun s d j wi => ∃ (K : Nat) (sl : List Int) (D : Int), (∃ A c, s = .slice A sl.length c) ∧ d = .int .i64 D ∧ j = .int .i64 ((K : Int) - 1) ∧ K ≤ k ∧ sl.length + K ≤ k ∧ ((D = -1 ∧ distFrom l x K sl = T) ∨ (0 ≤ D ∧ D = T)) ∧ Hid (wi.ownsRow wo.heap.size 3 1 s sl.length (sl.map (Value.int .i64)) ∧ Below wo.heap.size wo wi)) (fun _ _ j _ => (intOf j + 1).toNat)
      case atStart => exact ⟨k, [], -1, ⟨_, _, rfl⟩, rfl, rfl, Nat.le_refl _, by simp, Or.inl ⟨rfl, hT.out⟩, World.ownsRow_made (base := wo.heap.size) (e := 3) (size := 1) wo #[] 0 (Nat.le_refl _) (Nat.zero_le _) rfl, (Below.refl _ _).alloc (Nat.le_refl _) _⟩
      case round =>
        obtain ⟨K, sl, D, ⟨A2, c2, rfl⟩, rfl, rfl, hKk, hsK, hrel2, hI⟩ := hrel
        clear hT
        obtain ⟨hown, hbw⟩ := hI.out
        obtain ⟨hownO, hbelO⟩ := hS.out
        have hbW := hbelO.trans (hbw.mono hbelO.size)
        by_cases hc : 0 < K ∧ D = -1
        · obtain ⟨hK0, rfl⟩ := hc
          obtain ⟨K', rfl⟩ : ∃ K', K = K' + 1 := ⟨K - 1, by omega⟩
          have hdf : distFrom l x (K' + 1) sl = T := by
            rcases hrel2 with ⟨_, e⟩ | ⟨e, _⟩
            · exact e
            · omega
          have q0 := HC.out wr k hbW hlt
          have q1 := HC.out wr K' hbW (by omega)
          rw [← HX.out] at q0
          have hHit := Lib.hid (fun (e : l.getD K' 0 = x) => (distFrom_hit (l := l) (x := x) (k := K') (seen := sl) e).symm.trans hdf)
          have hOld := Lib.hid (fun (e : l.getD K' 0 ≠ x) (m : decide (l.getD K' 0 ∈ sl) = true) => (distFrom_old (l := l) (x := x) (k := K') (seen := sl) e m).symm.trans hdf)
          have hNew := Lib.hid (fun (e : l.getD K' 0 ≠ x) (m : decide (l.getD K' 0 ∈ sl) = false) => (distFrom_more (l := l) (x := x) (k := K') (seen := sl) e m).symm.trans hdf)
          obtain ⟨y, hy⟩ : ∃ y, y = l.getD K' 0 := ⟨_, rfl⟩
          rw [← hy] at q1 hHit hOld hNew
          have HY := Lib.hid hy
          have j1 : ((K' + 1 : Nat) : Int) - 1 = (K' : Int) := by omega
          rw [j1]
          have hS2 := Lib.hid hbelO
          clear hy hrel2 hdf hS
          by_cases hxy : y = x
          · subst hxy
            have hfin := Lib.hid (hHit.out rfl)
            have HI2 := Lib.hid (And.intro hown hbw)
            clear hHit hOld hNew hown hbw hbW hownO hbelO
            go_wp2
            go_quiet (fail)
            go_wp2
            go_roundw
            case rel => exact ⟨K', sl, sl.length, ⟨_, _, rfl⟩, rfl, rfl, by omega, by omega, Or.inr ⟨by omega, hfin.out⟩, HI2.out.1, below_drewN HI2.out.2 _⟩
            case measure => first | (simp [intOf]; done) | (simp [intOf]; omega)
          · have hms : sl.length ≤ 140737488355328 := by omega
            have HH := Lib.hid (fun (W : World) (hi : Ints W W.heap.size .i64 A2 sl) => refHas_any A2 c2 sl y W hi hms)
            have hIs := Ints.of_own hown
            by_cases hm : decide (y ∈ sl) = true
            · rw [hm] at HH
              have hfin := Lib.hid (hOld.out hxy hm)
              have HI2 := Lib.hid (And.intro hown hbw)
              clear hHit hOld hNew hown hbw hbW hownO hbelO hm
              have e1 : (y == x) = false := beq_eq_false_iff_ne.2 hxy
              go_wp2
              go_quiet (fail)
              have hIq : Ints (wr.drewN nq) (wr.drewN nq).heap.size .i64 A2 sl := hIs
              go_wp2_with (go_at_call 20; with_reducible (refine Calls.mono (HH.out _ hIq) ?_); rintro e w2 ⟨rfl, m, rfl⟩)
              clear e1
              go_roundw
              case rel => exact ⟨K', sl, -1, ⟨_, _, rfl⟩, rfl, rfl, by omega, by omega, Or.inl ⟨rfl, hfin.out⟩, HI2.out.1, by first | exact below_drewN HI2.out.2 _ | exact below_drewN (below_drewN HI2.out.2 _) _⟩
              case measure => first | (simp [intOf]; done) | (simp [intOf]; omega)
            · rw [Bool.not_eq_true] at hm
              rw [hm] at HH
              have hfin := Lib.hid (hNew.out hxy hm)
              have HI2 := Lib.hid (And.intro hown hbw)
              clear hHit hOld hNew hown hbw hbW hownO hbelO hm
              have e1 : (y == x) = false := beq_eq_false_iff_ne.2 hxy
              go_wp2
              go_quiet (fail)
              have hIq : Ints (wr.drewN nq) (wr.drewN nq).heap.size .i64 A2 sl := hIs
              go_wp2_with (first
                | (at_builtin; refine wpList_append_own_at _ rfl _ _ 25 rfl wo.heap.size 3 i0 (.int .i64 0) 1 8 Try.underlying25 hi hz0 hz1 hz2 rfl (by decide) _ _ _ rfl (hown2.alloc _) ⟨w2.heap.size, 0, none⟩ 1 1 [.int .i64 y] rfl rfl (cell_one_new _ _ _) ?d1 ?d2 ?d3 ?d4 ?_)
                | (go_at_call 20; with_reducible (refine Calls.mono (HH.out _ hIq) ?_); rintro e w2 ⟨rfl, m, hw2⟩; have q2 := HC.out w2 K' (hw2 ▸ below_drewN (below_drewN (hS2.out.trans (HI2.out.2.mono hS2.out.size)) _) _) (by omega); have hown2 : w2.ownsRow wo.heap.size 3 1 (.slice A2 sl.length c2) sl.length (sl.map (Value.int .i64)) := own_same HI2.out.1 (fun g hg => (show Below wr.heap.size wr w2 from hw2 ▸ below_drewN (below_drewN (Below.refl _ _) _) _).block g (HI2.out.1.lt g hg).2); have hb2 : Below wo.heap.size wo w2 := hw2 ▸ below_drewN (below_drewN HI2.out.2 _) _; rw [← HY.out] at q2; clear hw2 hIq hIs))
              case d1 => first | rfl | (intro u hu; simp at hu; subst hu; rfl)
              case d2 => unfold maxLen; omega
              case d3 => omega
              case d4 => have := hb2.size; simp; omega
              intro v3 w3 hown3 hg3 _ hv3
              have hb3 : Below wo.heap.size wo w3 := (hb2.alloc hb2.size _).grown hg3 (by have := hb2.size; simp; omega) fun q hq => (hown2.lt q hq).1
              obtain ⟨A3, c3, rfl⟩ := own_slice hown3
              have R : Hid (w3.ownsRow wo.heap.size 3 1 (.slice A3 (sl.length + 1) c3) (sl ++ [y]).length ((sl ++ [y]).map (Value.int .i64)) ∧ Below wo.heap.size wo w3 ∧ (sl ++ [y]).length = sl.length + 1) := by
                have e : (sl ++ [y]).length = sl.length + 1 := by simp
                refine ⟨?_, hb3, e⟩
                rw [e, List.map_append]; exact hown3
              clear hown2 hb2 hown3 hg3 hv3 hb3 q2 e1
              go_wp2
              go_roundw
              case rel => exact ⟨K', sl ++ [y], -1, ⟨_, _, by rw [R.out.2.2]⟩, rfl, rfl, by omega, by have := R.out.2.2; omega, Or.inl ⟨rfl, hfin.out⟩, R.out.1, R.out.2.1⟩
              case measure => first | (simp [intOf]; done) | (simp [intOf]; omega)
        · have hDT : D = T := by
            rcases hrel2 with ⟨e1, e2⟩ | ⟨_, e⟩
            · have hK0 : K = 0 := by
                rcases Nat.eq_zero_or_pos K with g | g
                · exact g
                · exact absurd ⟨g, e1⟩ hc
              subst hK0
              rw [e1, ← e2]; rfl
            · exact e
          have hex : K = 0 ∨ (0 < K ∧ 0 ≤ D) := by
            rcases Nat.eq_zero_or_pos K with g | g
            · exact .inl g
            · rcases hrel2 with ⟨e1, _⟩ | ⟨e1, _⟩
              · exact absurd ⟨g, e1⟩ hc
              · exact .inr ⟨g, e1⟩
          subst hDT
          have hownR : wr.ownsRow w.heap.size 3 1 (.slice A1 k c1) k (((distL l).take k).map (Value.int .i64)) := own_same hownO fun g hg => hbw.block g (hownO.lt g hg).2
          clear hrel2 hc hown hbw hI hS hownO hbelO
          rcases hex with hK0 | ⟨hK0, hD0⟩
          · subst hK0
            go_wp2_with (at_builtin; refine wpList_append_own_at _ rfl _ _ 25 rfl w.heap.size 3 i0 (.int .i64 0) 1 8 Try.underlying25 hi hz0 hz1 hz2 rfl (by decide) _ _ _ rfl (hownR.alloc _) ⟨wr.heap.size, 0, none⟩ 1 1 [.int .i64 D] rfl rfl (cell_one_new _ _ _) ?d1 ?d2 ?d3 ?d4 ?_)
            case d1 => first | rfl | (intro u hu; simp at hu; subst hu; rfl)
            case d2 => unfold maxLen; omega
            case d3 => omega
            case d4 => have := hbW.size; simp; omega
            intro v3 w3 hown3 hg3 _ hv3
            have hb3 : Below w.heap.size w w3 := (hbW.alloc hbW.size _).grown hg3 (by have := hbW.size; simp; omega) fun q hq => (hownR.lt q hq).1
            obtain ⟨A3, c3, rfl⟩ := own_slice hown3
            have R : Hid (w3.ownsRow w.heap.size 3 1 (.slice A3 (k + 1) c3) (k + 1) (((distL l).take (k + 1)).map (Value.int .i64)) ∧ Below w.heap.size w w3) := by
              refine ⟨?_, hb3⟩
              rw [hTS.out, List.map_append, List.map_take]; exact hown3
            clear hownR hbW hown3 hg3 hv3 hb3
            go_wp2
            go_roundw
            case rel => exact ⟨k + 1, by omega, by go_num, ⟨_, _, rfl⟩, R.out⟩
            case measure => first | (simp [intOf]; done) | (simp [intOf]; omega)
          · have j1 : (0 : Int) ≤ (K : Int) - 1 := by omega
            go_wp2_with (at_builtin; refine wpList_append_own_at _ rfl _ _ 25 rfl w.heap.size 3 i0 (.int .i64 0) 1 8 Try.underlying25 hi hz0 hz1 hz2 rfl (by decide) _ _ _ rfl (hownR.alloc _) ⟨wr.heap.size, 0, none⟩ 1 1 [.int .i64 D] rfl rfl (cell_one_new _ _ _) ?d1 ?d2 ?d3 ?d4 ?_)
            case d1 => first | rfl | (intro u hu; simp at hu; subst hu; rfl)
            case d2 => unfold maxLen; omega
            case d3 => omega
            case d4 => have := hbW.size; simp; omega
            intro v3 w3 hown3 hg3 _ hv3
            have hb3 : Below w.heap.size w w3 := (hbW.alloc hbW.size _).grown hg3 (by have := hbW.size; simp; omega) fun q hq => (hownR.lt q hq).1
            obtain ⟨A3, c3, rfl⟩ := own_slice hown3
            have R : Hid (w3.ownsRow w.heap.size 3 1 (.slice A3 (k + 1) c3) (k + 1) (((distL l).take (k + 1)).map (Value.int .i64)) ∧ Below w.heap.size w w3) := by
              refine ⟨?_, hb3⟩
              rw [hTS.out, List.map_append, List.map_take]; exact hown3
            clear hownR hbW hown3 hg3 hv3 hb3
            go_wp2
            go_roundw
            case rel => exact ⟨k + 1, by omega, by go_num, ⟨_, _, rfl⟩, R.out⟩
            case measure => first | (simp [intOf]; done) | (simp [intOf]; omega)
    · have hk8 : N = k := by omega
      subst hk8
      have hln := HN.out
      have R : Hid (∃ A' c', Value.slice A1 N c1 = .slice A' N c' ∧ Ints wr wr.heap.size .i64 A' (distL l) ∧ Below w.heap.size w wr) := by
        have ht : (distL l).take N = distL l := List.take_of_length_le (by rw [distL_len]; omega)
        have h2 := hS.out.1
        rw [ht] at h2
        refine ⟨A1, c1, rfl, Ints.of_own (t := 3) (base := w.heap.size) (n := N) (c := c1) ?_, hS.out.2⟩
        rw [distL_len, ← hln]; exact h2
      clear hS hln HF
      go_wp2
      go_ret
      obtain ⟨A', c', e, h1, h2⟩ := R.out
      exact ⟨A', c', by rw [← e]; rfl, h1, h2⟩

end Go.Proofs.Ytphejkcdddkfnaa
