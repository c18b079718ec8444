/-
  weigh's sum and divide: all numbers together; total times each unit, divided by all units together, and what rests.
-/
import Derived.Test.YtcbimgdgodeppaaWeighC1
import Derived.Test.YtcbimgdgodeppaaWeighShare
import Derived.Deep.CutRange
namespace Go.Proofs.Ytcbimgdgodeppaa
open Go.RowKit

def sumL (l : List Int) (k : Nat) : Int := sumF (fun i => l.getD i 0) k
theorem sumL_succ (l : List Int) (k : Nat) : sumL l (k + 1) = sumL l k + l.getD k 0 := rfl
theorem sumL_bounds {l : List Int} (h : ∀ i, i < l.length → 0 ≤ l.getD i 0 ∧ l.getD i 0 ≤ 4294967296) : ∀ k, k ≤ l.length → 0 ≤ sumL l k ∧ sumL l k ≤ 4294967296 * (k : Int)
  | 0, _ => by unfold sumL sumF; omega
  | k + 1, hk => by
    have := sumL_bounds h k (by omega)
    have := h k (by omega)
    rw [sumL_succ]; omega

set_option maxHeartbeats 800000 in
set_option maxRecDepth 20000 in
theorem sum_any (A : Option Addr) (c : Nat) (l : List Int) (w : World) (h : Ints w w.heap.size .i64 A l) (hl : l.length ≤ 100000) (hb : ∀ i, i < l.length → 0 ≤ l.getD i 0 ∧ l.getD i 0 ≤ 4294967296) :
    Calls Try.prog 28 #[.slice A l.length c] w fun e w' => e = .returned (.int .i64 (sumL l l.length)) ∧ w' = w := by
  have HB := Lib.hid (sumL_bounds hb)
  have HF := Lib.hid h
  have HS := Lib.hid (sumL_succ l)
  have HE := Lib.hid hb
  obtain ⟨N, hN⟩ : ∃ N, N = l.length := ⟨_, rfl⟩
  have HN := Lib.hid hN
  rw [← hN] at hl ⊢
  clear h hb hN
  go_enter Try.func28, Try.ntmps28
  go_wp2
  go_loop [3, 8] (fun v i => ∃ k : Nat, k ≤ N ∧ i = .int .i64 k ∧ v = .int .i64 (sumL l k)) (fun _ i => N - (intOf i).toNat)
  case atStart => exact ⟨0, Nat.zero_le _, rfl, rfl⟩
  case round =>
    obtain ⟨k, hk, rfl, rfl⟩ := hrel
    by_cases hlt : k < N
    · obtain ⟨b, o, rfl, _, hc⟩ := HF.out k (by have := HN.out; omega)
      have hs := HB.out k (by have := HN.out; omega)
      have hx := HE.out k (by have := HN.out; omega)
      have hn := HS.out k
      obtain ⟨x, hx'⟩ : ∃ x, x = l.getD k 0 := ⟨_, rfl⟩
      rw [← hx'] at hc hx hn
      obtain ⟨s, hs'⟩ : ∃ s, s = sumL l k := ⟨_, rfl⟩
      rw [← hs'] at hs hn ⊢
      have HN1 := Lib.hid hn
      have k1 : (k : Int) < (N : Int) := by omega
      have k0 : (0 : Int) ≤ (k : Int) := by omega
      have v1 : IntKind.i64.wrap (s + x) = s + x := IntWalk.i64_in _ (by omega)
      clear hx' hs' hn hs hx
      go_wp2
      go_round
      case rel => exact ⟨k + 1, by omega, by go_num, by rw [HN1.out]⟩
      case measure => simp [intOf]; omega
    · have hkN : k = N := by omega
      subst hkN
      have k1 : ¬ (k : Int) < (k : Int) := by omega
      go_wp2
      go_ret
      exact ⟨rfl, rfl⟩

/-! ### Quotients and rests -/
/-- The first k entries are written. -/
def fillL (Q : List Int) (k : Nat) : List Int := Q.take k ++ List.replicate (Q.length - k) 0
theorem fillL_len (Q : List Int) {k : Nat} (h : k ≤ Q.length) : (fillL Q k).length = Q.length := by
  rw [fillL, List.length_append, List.length_take, List.length_replicate]; omega
theorem fillL_zero (Q : List Int) : fillL Q 0 = List.replicate Q.length 0 := by rw [fillL, List.take_zero]; rfl
theorem fillL_all (Q : List Int) : fillL Q Q.length = Q := by
  rw [fillL, Nat.sub_self, List.take_length]; exact List.append_nil _
theorem fillL_next {Q : List Int} {k : Nat} (h : k < Q.length) : (fillL Q k).set k (Q.getD k 0) = fillL Q (k + 1) := by
  have e : List.replicate (Q.length - k) (0 : Int) = 0 :: List.replicate (Q.length - (k + 1)) 0 := by
    rw [show Q.length - k = (Q.length - (k + 1)) + 1 by omega]; rfl
  have l1 : (Q.take k).length = k := by rw [List.length_take]; omega
  unfold fillL
  rw [e, take_last h]
  have h1 := set_head (Q.take k) 0 (Q.getD k 0) (List.replicate (Q.length - (k + 1)) 0)
  rw [l1] at h1
  rw [h1, List.append_assoc]; rfl
theorem two_new (w : World) (Z : Array Value) (t : TypeId) : ((w.alloc (.cells Z t)).alloc (.cells Z t)).heap[w.heap.size]? = some (.cells Z t (0, 0)) ∧ ((w.alloc (.cells Z t)).alloc (.cells Z t)).heap[w.heap.size + 1]? = some (.cells Z t (0, 0)) := by
  have h1 := heap_alloc_new w (.cells Z t)
  have h2 := heap_alloc_new (w.alloc (.cells Z t)) (.cells Z t)
  constructor
  · rw [Below.heap_alloc _ _ _ (by simp)]; exact h1
  · rw [show w.heap.size + 1 = (w.alloc (.cells Z t)).heap.size by simp]; exact h2
theorem quot_small {t u a : Int} (h0 : 0 ≤ t) (hu : 0 ≤ u) (ha : 0 < a) (hm : u ≤ a) : 0 ≤ t * u / a ∧ t * u / a ≤ t := by
  constructor
  · exact Int.ediv_nonneg (Int.mul_nonneg h0 hu) (by omega)
  · have h1 : t * u ≤ t * a := Int.mul_le_mul_of_nonneg_left hm h0
    exact Int.ediv_le_of_le_mul ha h1

set_option maxHeartbeats 3200000 in
set_option maxRecDepth 20000 in
theorem divide_any (A : Option Addr) (c : Nat) (total whole : Int) (us : List Nat) (w : World) (h : Ints w w.heap.size .i64 A (up us)) (hl : us.length ≤ 100000) (ht : 0 ≤ total ∧ total ≤ 1048576) (hw : 0 < whole ∧ whole ≤ 4611686018427387904) (hu : ∀ i, i < us.length → us.getD i 0 < 4294967296) (hq : ∀ i, i < us.length → ((us.getD i 0 : Nat) : Int) ≤ whole) :
    Calls Try.prog 29 #[.int .i64 total, .slice A us.length c, .int .i64 whole] w fun e w' => ∃ g1 g2, e = .returned (.tuple #[.slice (some ⟨g1, 0, none⟩) us.length us.length, .slice (some ⟨g2, 0, none⟩) us.length us.length]) ∧ g1 ≠ g2 ∧ w.heap.size ≤ g1 ∧ w.heap.size ≤ g2 ∧
      Rw g1 (us.map fun u => total * (u : Nat) / whole) w' ∧ Rw g2 (us.map fun u => total * (u : Nat) % whole) w' ∧ Below w.heap.size w w' := by
  obtain ⟨Q, hQ⟩ : ∃ Q, Q = us.map fun u => total * (u : Nat) / whole := ⟨_, rfl⟩
  obtain ⟨T, hT⟩ : ∃ T, T = us.map fun u => total * (u : Nat) % whole := ⟨_, rfl⟩
  rw [← hQ, ← hT]
  have hQl : Q.length = us.length := by rw [hQ, List.length_map]
  have hTl : T.length = us.length := by rw [hT, List.length_map]
  have HX : Hid (∀ i, i < us.length → ∃ u : Nat, (up us).getD i 0 = u ∧ u < 4294967296 ∧ (u : Int) ≤ whole ∧ Q.getD i 0 = total * u / whole ∧ T.getD i 0 = total * u % whole) := fun i hi => by
    refine ⟨us.getD i 0, ?_, hu i hi, hq i hi, ?_, ?_⟩
    · simp [up, List.getD_eq_getElem?_getD, hi]
    · rw [hQ]; simp [List.getD_eq_getElem?_getD, hi]
    · rw [hT]; simp [List.getD_eq_getElem?_getD, hi]
  have hmk := make_ints us.length hl
  have HF : Hid (∀ W, Below w.heap.size w W → ∀ i, i < us.length → ∃ b o, A = some ⟨b, o, none⟩ ∧ W.cell? ⟨b, o + i, none⟩ = some (.int .i64 ((up us).getD i 0))) := fun W hb i hi => by
    obtain ⟨b, o, e, _, hc⟩ := (h.below hb) i (by simpa [up] using hi)
    exact ⟨b, o, e, hc⟩
  obtain ⟨N, hN⟩ : ∃ N, N = us.length := ⟨_, rfl⟩
  rw [← hN] at hmk hQl hTl HX HF hl ⊢
  obtain ⟨Z, hZ⟩ : ∃ Z, Z = CJ (List.replicate N 0) := ⟨_, rfl⟩
  rw [← hZ] at hmk
  have HZQ : Hid (CJ (fillL Q 0) = Z) := by unfold Hid; rw [fillL_zero, hQl, hZ]
  have HZT : Hid (CJ (fillL T 0) = Z) := by unfold Hid; rw [fillL_zero, hTl, hZ]
  have HNQ : Hid (∀ k, k < N → (fillL Q k).set k (Q.getD k 0) = fillL Q (k + 1)) := fun k hk => fillL_next (by omega)
  have HNT : Hid (∀ k, k < N → (fillL T k).set k (T.getD k 0) = fillL T (k + 1)) := fun k hk => fillL_next (by omega)
  have HLQ : Hid (∀ k, k ≤ N → (fillL Q k).length = N) := fun k hk => by rw [fillL_len Q (by omega), hQl]
  have HLT : Hid (∀ k, k ≤ N → (fillL T k).length = N) := fun k hk => by rw [fillL_len T (by omega), hTl]
  have HAQ : Hid (fillL Q N = Q) := by unfold Hid; rw [← hQl, fillL_all]
  have HAT : Hid (fillL T N = T) := by unfold Hid; rw [← hTl, fillL_all]
  have mixed := Try.mixedS
  obtain ⟨t1, t2⟩ := ht
  obtain ⟨w1, w2⟩ := hw
  clear h hu hq hQ hT hQl hTl hN hZ
  go_enter Try.func29, Try.ntmps29
  go_upto_region 1 with fail
  go_cut [6, 7] from 10 to 15 (fun a b wx => ∃ g1 g2, a = .slice (some ⟨g1, 0, none⟩) N N ∧ b = .slice (some ⟨g2, 0, none⟩) N N ∧ Hid (g1 ≠ g2 ∧ w.heap.size ≤ g1 ∧ w.heap.size ≤ g2 ∧ Rw g1 (fillL Q 0) wx ∧ Rw g2 (fillL T 0) wx ∧ Below w.heap.size w wx))
  case first =>
    have h2 := two_new w Z 3
    have HB : Below w.heap.size w ((w.alloc (.cells Z 3)).alloc (.cells Z 3)) := ((Below.refl _ _).alloc (Nat.le_refl _) _).alloc (by simp) _
    have HQ0 := HZQ.out
    have HT0 := HZT.out
    have R1 : Hid (w.heap.size ≠ w.heap.size + 1 ∧ w.heap.size ≤ w.heap.size ∧ w.heap.size ≤ w.heap.size + 1 ∧ Rw w.heap.size (fillL Q 0) ((w.alloc (.cells Z 3)).alloc (.cells Z 3)) ∧ Rw (w.heap.size + 1) (fillL T 0) ((w.alloc (.cells Z 3)).alloc (.cells Z 3)) ∧ Below w.heap.size w ((w.alloc (.cells Z 3)).alloc (.cells Z 3))) :=
      ⟨by omega, by omega, by omega, by unfold Rw; rw [HQ0]; exact h2.1, by unfold Rw; rw [HT0]; exact h2.2, HB⟩
    have R2 : Hid (w.heap.size + 1 ≠ w.heap.size ∧ w.heap.size ≤ w.heap.size + 1 ∧ w.heap.size ≤ w.heap.size ∧ Rw (w.heap.size + 1) (fillL Q 0) ((w.alloc (.cells Z 3)).alloc (.cells Z 3)) ∧ Rw w.heap.size (fillL T 0) ((w.alloc (.cells Z 3)).alloc (.cells Z 3)) ∧ Below w.heap.size w ((w.alloc (.cells Z 3)).alloc (.cells Z 3))) :=
      ⟨by omega, by omega, by omega, by unfold Rw; rw [HQ0]; exact h2.2, by unfold Rw; rw [HT0]; exact h2.1, HB⟩
    clear h2 HB HQ0 HT0
    go_region_with (fail)
    all_goals go_wp2
    all_goals go_meet
    all_goals first | exact ⟨_, _, rfl, rfl, R1.out.1, R1.out.2.1, R1.out.2.2.1, R1.out.2.2.2.1, R1.out.2.2.2.2.1, below_drewN R1.out.2.2.2.2.2 1⟩ | exact ⟨_, _, rfl, rfl, R2.out.1, R2.out.2.1, R2.out.2.2.1, R2.out.2.2.2.1, R2.out.2.2.2.2.1, below_drewN R2.out.2.2.2.2.2 1⟩
  case rest =>
    clear hmk HZQ HZT
    obtain ⟨g1, g2, rfl, rfl, HI⟩ := hcut
    go_wp2
    go_loopw [18] (fun v wr => ∃ k : Nat, k ≤ N ∧ v = .int .i64 k ∧ Hid (g1 ≠ g2 ∧ w.heap.size ≤ g1 ∧ w.heap.size ≤ g2 ∧ Rw g1 (fillL Q k) wr ∧ Rw g2 (fillL T k) wr ∧ Below w.heap.size w wr)) (fun v _ => N - (intOf v).toNat)
    case atStart => exact ⟨0, Nat.zero_le _, rfl, HI⟩
    case round =>
      clear HI
      obtain ⟨k, hk, rfl, HI⟩ := hrel
      by_cases hlt : k < N
      · obtain ⟨ne, b1, b2, r1, r2, hb⟩ := HI.out
        obtain ⟨b, o, rfl, hc⟩ := HF.out _ hb k hlt
        obtain ⟨u, hu1, hu2, hu3, hq, ht⟩ := HX.out k hlt
        rw [hu1] at hc
        have c1 := r1.cell (i := k) (by rw [HLQ.out k hk]; exact hlt)
        have s1 := r1.set k (Q.getD k 0)
        have s2 := (r2.other (Ne.symm ne) k (.int .i64 (Q.getD k 0)))
        have c2 := s2.cell (i := k) (by rw [HLT.out k hk]; exact hlt)
        have s3 := s2.set k (T.getD k 0)
        have s4 := s1.other ne k (.int .i64 (T.getD k 0))
        have f1 := r1.thaw k
        have f2 := r2.thaw k
        have s5 := (hb.setCell (p := ⟨g1, k, none⟩) b1 (.int .i64 (Q.getD k 0))).setCell (p := ⟨g2, k, none⟩) b2 (.int .i64 (T.getD k 0))
        rw [HNQ.out k hlt] at s4
        rw [HNT.out k hlt] at s3
        have R : Hid (g1 ≠ g2 ∧ w.heap.size ≤ g1 ∧ w.heap.size ≤ g2 ∧ Rw g1 (fillL Q (k + 1)) (((wr.setCell ⟨g1, k, none⟩ (.int .i64 (Q.getD k 0))).setCell ⟨g2, k, none⟩ (.int .i64 (T.getD k 0)))).drew ∧ Rw g2 (fillL T (k + 1)) (((wr.setCell ⟨g1, k, none⟩ (.int .i64 (Q.getD k 0))).setCell ⟨g2, k, none⟩ (.int .i64 (T.getD k 0)))).drew ∧ Below w.heap.size w (((wr.setCell ⟨g1, k, none⟩ (.int .i64 (Q.getD k 0))).setCell ⟨g2, k, none⟩ (.int .i64 (T.getD k 0)))).drew) :=
          ⟨ne, b1, b2, s4, s3, s5.drew⟩
        have qb := quot_small (t := total) (u := (u : Int)) (a := whole) t1 (by omega) w1 hu3
        have rb1 := Int.emod_nonneg (total * (u : Int)) (show whole ≠ 0 by omega)
        have rb2 := Int.emod_lt_of_pos (total * (u : Int)) w1
        have pb := Int.mul_nonneg t1 (show (0 : Int) ≤ (u : Int) by omega)
        have pb2 : total * (u : Int) ≤ 1048576 * (u : Int) := Int.mul_le_mul_of_nonneg_right t2 (by omega)
        obtain ⟨p, hp⟩ : ∃ p, p = total * (u : Int) := ⟨_, rfl⟩
        have v1 : IntKind.i64.wrap (total * (u : Int)) = p := by rw [← hp]; exact IntWalk.i64_in _ (by omega)
        rw [← hp] at hq ht qb rb1 rb2 pb pb2
        obtain ⟨x, hx⟩ : ∃ x, x = Q.getD k 0 := ⟨_, rfl⟩
        obtain ⟨y, hy⟩ : ∃ x, x = T.getD k 0 := ⟨_, rfl⟩
        rw [← hx] at hq R c2
        rw [← hy] at ht R
        obtain ⟨x0, hx0⟩ : ∃ x, x = (fillL Q k).getD k 0 := ⟨_, rfl⟩
        obtain ⟨y0, hy0⟩ : ∃ x, x = (fillL T k).getD k 0 := ⟨_, rfl⟩
        rw [← hx0] at c1
        rw [← hy0] at c2
        have d1 : p.tdiv whole = x := by rw [Int.tdiv_eq_ediv_of_nonneg pb, hq]
        have d2 : p.tmod whole = y := by rw [Int.tmod_eq_emod_of_nonneg pb, ht]
        rw [← hq] at qb
        rw [← ht] at rb1 rb2
        have v2 : IntKind.i64.wrap x = x := IntWalk.i64_in _ (by omega)
        have v3 : IntKind.i64.wrap y = y := IntWalk.i64_in _ (by omega)
        have wn : ¬ whole = 0 := by omega
        have wn2 : (whole == 0) = false := beq_eq_false_iff_ne.2 wn
        have k1 : (k : Int) < (N : Int) := by omega
        have k0 : (0 : Int) ≤ (k : Int) := by omega
        clear HI r1 r2 hb hp hq ht hx hy hx0 hy0 s1 s2 s3 s4 s5 hu1 hu3 HX HF ne pb2 qb rb1 rb2
        go_wp2_with fail
        go_big_region_o
        clear c1 c2 f1 f2
        go_wp2
        go_roundw
        case rel => exact ⟨k + 1, by omega, by go_num, R⟩
        case measure => simp [intOf]; omega
      · have hkN : k = N := by omega
        subst hkN
        have k1 : ¬ (k : Int) < (k : Int) := by omega
        have R := HI.out
        rw [HAQ.out, HAT.out] at R
        replace R := Lib.hid R
        clear HI HX HF
        go_wp2
        go_ret2
        exact ⟨g1, g2, rfl, R.out⟩

end Go.Proofs.Ytcbimgdgodeppaa
