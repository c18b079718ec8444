/-
  The landed disk: settle.
-/
import Derived.Test.YtnbgnllkikajpaaDiskC4
import Derived.LoopTactic
namespace Go.Proofs.Ytnbgnllkikajpaa
open Go.RowKit

/-- Those of the first k of which it is so. -/
def keptK (ps : List (Nat × List Nat)) (K : Nat → Bool) : Nat → List (Nat × List Nat)
  | 0 => []
  | k + 1 => if K k then keptK ps K k ++ [ps.getD k (0, [])] else keptK ps K k
theorem keptK_keep (ps : List (Nat × List Nat)) (keep : List Bool) : ∀ k, keptK ps (fun i => keep.getD i false) k = keptP ps keep k
  | 0 => rfl
  | k + 1 => by unfold keptK keptP; rw [keptK_keep ps keep k]
theorem keptK_all (ps : List (Nat × List Nat)) : ∀ k, k ≤ ps.length → keptK ps (fun _ => true) k = ps.take k
  | 0, _ => by simp [keptK]
  | k + 1, hk => by
    unfold keptK
    rw [keptK_all ps k (by omega), if_pos rfl, List.take_add_one, List.getD_eq_getElem?_getD, List.getElem?_eq_getElem (by omega)]
    rfl
theorem putK_ok {s : Dk} (h : s.ok) (K : Nat → Bool) : ∀ k, k ≤ s.pend.length → (∀ i, i < s.last.length → Sec ((putP (keptK s.pend K k) s.last).getD i [])) ∧ (putP (keptK s.pend K k) s.last).length = s.last.length
  | 0, _ => ⟨h.sec, rfl⟩
  | k + 1, hk => by
    obtain ⟨h1, h2⟩ := putK_ok h K k (by omega)
    refine ⟨fun i hi => ?_, putP_len _ _⟩
    unfold keptK
    split
    · rw [putP_app, set_getD _ _ _ _ (by rw [h2]; exact hi)]
      split
      · exact (h.pen k (by omega)).2
      · exact h1 i hi
    · exact h1 i hi
theorem putK_next {ps : List (Nat × List Nat)} {K : Nat → Bool} {k : Nat} (l : List (List Nat)) : putP (keptK ps K (k + 1)) l = if K k = true then (putP (keptK ps K k) l).set (ps.getD k (0, [])).1 (ps.getD k (0, [])).2 else putP (keptK ps K k) l := by
  show putP (if K k = true then _ else _) l = _
  split
  · rw [putP_app]
  · rfl

theorem Try.infoWz : (Try.prog.info? 67).map (fun i => (i.zero, i.size)) = some (some (.agg (wrV (0, zeroSec)).toArray), 65) := by kernel_rfl
theorem zeroW (w : World) : (zeroValue 67).run Try.prog w = .ok (.agg (wrV (0, zeroSec)).toArray) w := (zero_of_info Try.infoWz).1 w
theorem wrV_one (q : Nat × List Nat) : (wrV q).toArray.all (·.oneCell') = true := by
  rw [Array.all_eq_true_iff_forall_mem]
  intro v hv
  simp only [wrV, List.mem_toArray, List.mem_append, List.mem_singleton] at hv
  rcases hv with hv | rfl
  · have h := BA_one q.2
    rw [Array.all_eq_true_iff_forall_mem] at h
    exact h v (by simpa using hv)
  · rfl

section
variable {w w' : World} {p gl gn : Nat} {V : Value} {z : Int} {DL : DataW Value} {DN : DataW Unit} {s : Dk}
/-- Nothing is pending any more. -/
theorem DiskIn.settled (h : DiskIn w p gl gn V z DL DN s) {DN' : DataW Unit} (hm : NewMap DN' []) (ho : w'.ownsMap Try.prog 3 (plainElem Try.prog 3) gn 0 DN') (ht : (w.setCell ⟨p, 2, none⟩ (.slice none 0 0)).mapTurned w' gn) :
    DiskIn w' p gl gn (.slice none 0 0) z DL DN' ⟨s.last, [], s.lim, s.off⟩ :=
  ⟨⟨h.ok.pos, h.ok.le, h.ok.sec, fun i hi => absurd hi (by simp)⟩, (mt_other ht h.a1.2.1).trans (setc_same w p 2 _ _ _ h.box), mapHeap h.last ((mt_other ht h.a1.2.2).trans (setc_other w p gl 2 _ h.a1.1)), h.lsays, ho, hm, World.ownsRow_nil _ _ _ _, h.lim, h.zi, h.a1, ⟨by simp [Value.ownBlock], by simp [Value.ownBlock], by simp [Value.ownBlock]⟩⟩

set_option maxHeartbeats 3200000 in
set_option maxRecDepth 20000 in
theorem settle_go (h : DiskIn w p gl gn V z DL DN s) (fid : FuncId) (cap : Array Value) (K : Nat → Bool) (he : ∀ args w, (callFunc fid args).run Try.prog w = .ok (.enter fid args) w)
    (hf : ∀ (i : Nat) (W : World), i < s.pend.length → Away (ownD p gl gn V) w W → Calls Try.prog fid (#[.int .i64 (i : Int)] ++ cap) W fun e w' => e = .returned (.bool (K i)) ∧ w' = W) :
    Calls Try.prog 34 #[.pointer (some ⟨p, 0, none⟩), .func (.func fid) #[] cap] w fun e w' => e = .returned (.tuple #[]) ∧ (∃ DL' DN', DiskIn w' p gl gn (.slice none 0 0) z DL' DN' ⟨putP (keptK s.pend K s.pend.length) s.last, [], s.lim, s.off⟩) ∧ Away (ownD p gl gn V) w w' := by
  obtain ⟨A, c, hV, hm1, hm2⟩ := h.len
  obtain ⟨_, _, c2, _⟩ := h.cells
  rw [hV] at c2
  have HV := Lib.hid hV
  have HF := Lib.hid hf
  have HK := Lib.hid (putK_ok h.ok K)
  have HP := Lib.hid h.ok.pen
  have HR0 : Hid (DiskIn w p gl gn V z DL DN ⟨putP (keptK s.pend K 0) s.last, s.pend, s.lim, s.off⟩) := h
  obtain ⟨N, hN⟩ : ∃ N, N = s.pend.length := ⟨_, rfl⟩
  have HN := Lib.hid hN
  have n1 : (N : Int) ≤ 9223372036854775807 := by unfold maxLen at hm2; omega
  rw [← hN] at c2 HV ⊢
  have hu := Try.undW
  obtain ⟨dW, hdW, hrow⟩ := hu
  obtain ⟨Z, hZ⟩ : ∃ Z, Z = (wrV (0, zeroSec)).toArray := ⟨_, rfl⟩
  have hzv : ∀ W : World, (zeroValue 67).run Try.prog W = .ok (.agg Z) W := fun W => by rw [hZ]; exact zeroW W
  have hZs : Hid (Z.size = 65) := by unfold Hid; rw [hZ]; rfl
  have eg := he
  clear h hV hf hN hm1 hm2 hZ
  go_enter Try.func34, Try.ntmps34
  go_wp2
  go_loopw [11] (fun i wr => ∃ k : Nat, k ≤ N ∧ i = .int .i64 k ∧ Hid (∃ DL', DiskIn wr p gl gn V z DL' DN ⟨putP (keptK s.pend K k) s.last, s.pend, s.lim, s.off⟩) ∧ Hid (Away (ownD p gl gn V) w wr)) (fun i _ => N - (intOf i).toNat)
  case atStart => exact ⟨0, Nat.zero_le _, rfl, ⟨_, HR0.out⟩, Away.refl _ _⟩
  case round =>
    obtain ⟨k, hk, rfl, hr, ha⟩ := hrel
    by_cases hlt : k < N
    · obtain ⟨DL1, h1⟩ := hr.out
      have hj : k < s.pend.length := by have := HN.out; omega
      obtain ⟨g, c', hV', hr1, _⟩ := h1.write hj
      obtain ⟨rfl, rfl⟩ : A = some ⟨g, 0, none⟩ ∧ c' = c := by
        have e := HV.out.symm.trans hV'
        injection e with e1 e2 e3
        exact ⟨e1, e3.symm⟩
      have k1 : (k : Int) < (N : Int) := by omega
      have k0 : (0 : Int) ≤ (k : Int) := by omega
      have HL := Lib.hid hr1
      obtain ⟨q, hq⟩ : ∃ q, q = s.pend.getD k (0, []) := ⟨_, rfl⟩
      have hq2 := Lib.hid (HP.out k hj)
      rw [← hq] at hq2
      simp only [← hq] at HL
      have hinW : (Try.prog.info? 67).map (·.size) = some (wrV q).length := by rw [wrV_len hq2.out.2.1]; exact Try.infW
      have hinW2 : (Try.prog.info? 67).map (·.size) = some (wrV q).toArray.size := by rw [List.size_toArray]; exact hinW
      have hZC : Z.size = (wrV q).toArray.size := by rw [hZs.out, List.size_toArray, wrV_len hq2.out.2.1]
      have hone := wrV_one q
      have hb0 : Hid (Below wr.heap.size wr (wr.alloc (.cells Z 67))) := (Below.refl _ _).alloc (Nat.le_refl _) _
      have hnew := heap_alloc_new wr (.cells Z 67)
      have HL0 : Hid ((wr.alloc (.cells Z 67)).rangeAt g (k * 65) (wrV q)) := World.rangeAt_alloc HL.out _
      have HNX := Lib.hid (putK_next (ps := s.pend) (K := K) (k := k) s.last)
      rw [← hq] at HNX
      have H1 := Lib.hid h1
      have HQ := Lib.hid hq
      clear hr hV' hr1 h1 hq HR0
      obtain ⟨kb, hkb⟩ : ∃ kb, kb = K k := ⟨_, rfl⟩
      have HFk := Lib.hid (HF.out k)
      rw [← hkb] at HFk HNX
      have HKB := Lib.hid hkb
      clear hkb
      obtain ⟨C, hC⟩ : ∃ C, C = (wrV q).toArray := ⟨_, rfl⟩
      rw [← hC] at hinW2 hZC hone
      have HC := Lib.hid hC
      have HKG : Hid (∀ W DLx, DiskIn W p gl gn V z DLx DN ⟨putP (keptK s.pend K k) s.last, s.pend, s.lim, s.off⟩ → Calls Try.prog 39 #[.pointer (some ⟨p, 0, none⟩), .agg C] W fun e w' => e = .returned (.tuple #[]) ∧ (∃ DL', DiskIn w' p gl gn V z DL' DN ⟨(putP (keptK s.pend K k) s.last).set q.1 q.2, s.pend, s.lim, s.off⟩) ∧ Away (ownD p gl gn V) W w') := fun W DLx hx => by
        rw [HC.out]
        exact keep_go hx q.1 (by have := (HK.out k (Nat.le_of_lt hj)).2; show q.1 < (putP _ _).length; rw [this]; exact hq2.out.1) q.2 hq2.out.2
      clear hC
      cases kb with
      | true =>
        go_wp2_with (first
          | (refine wpList_load_mid rfl 67 _ rfl g (k * 65) (by first | rfl | simp) (wrV q) dW HL.out hdW hrow hinW ?_; rw [← HC.out])
          | (refine wpList_store_fresh rfl 67 _ _ rfl wr.heap.size C rfl rfl 67 Z hnew hinW2 hZC hone hb0.out (Nat.le_refl _) ?_; intro W2 hW2 hb2 hk2 hs2)
          | (go_at_fn fid; with_reducible (refine Calls.mono (HFk.out W2 (by have := HN.out; omega) (th_away ha.out hb2)) ?_); rintro e w2 ⟨rfl, rfl⟩)
          | (refine wpList_load_mid rfl 67 _ rfl wr.heap.size 0 (by first | rfl | simp) (wrV q) dW (rangeAt_list hW2 (fun j v hv => by rw [HC.out, List.getElem?_toArray]; exact hv)) hdW hrow hinW ?_; rw [← HC.out])
          | (go_at_call 39; with_reducible (refine Calls.mono (HKG.out _ _ (H1.out.later hb2)) ?_); rintro e w3 ⟨rfl, hr3, ha3⟩))
        have R : Hid (∃ DL', DiskIn w3 p gl gn V z DL' DN ⟨putP (keptK s.pend K (k + 1)) s.last, s.pend, s.lim, s.off⟩) := by
          unfold Hid
          rw [HNX.out]; simp only [if_true]
          exact hr3
        have RA : Hid (Away (ownD p gl gn V) w w3) := aw_trans (th_away ha.out hb2) ha3 (fun b q => .inl q)
        clear hr3 ha3
        go_roundw
        case rel => exact ⟨k + 1, by omega, by go_num, R, RA⟩
        case measure => simp [intOf]; omega
      | false =>
        go_wp2_with (first
          | (refine wpList_load_mid rfl 67 _ rfl g (k * 65) (by first | rfl | simp) (wrV q) dW HL.out hdW hrow hinW ?_; rw [← HC.out])
          | (refine wpList_store_fresh rfl 67 _ _ rfl wr.heap.size C rfl rfl 67 Z hnew hinW2 hZC hone hb0.out (Nat.le_refl _) ?_; intro W2 hW2 hb2 hk2 hs2)
          | (go_at_fn fid; with_reducible (refine Calls.mono (HFk.out W2 (by have := HN.out; omega) (th_away ha.out hb2)) ?_); rintro e w2 ⟨rfl, rfl⟩))
        have R : Hid (∃ DL', DiskIn w2 p gl gn V z DL' DN ⟨putP (keptK s.pend K (k + 1)) s.last, s.pend, s.lim, s.off⟩) := by
          unfold Hid
          rw [HNX.out]; simp only [Bool.false_eq_true, if_false]
          exact ⟨_, H1.out.later hb2⟩
        have RA : Hid (Away (ownD p gl gn V) w w2) := th_away ha.out hb2
        go_roundw
        case rel => exact ⟨k + 1, by omega, by go_num, R, RA⟩
        case measure => simp [intOf]; omega
    · have hkN : k = N := by omega
      have k1 : ¬ (k : Int) < (N : Int) := by omega
      obtain ⟨DL1, h1⟩ := hr.out
      obtain ⟨_, _, d2, d3, _⟩ := h1.cells
      have f2 := h1.thaw 2
      have hown : Hid ((wr.setCell ⟨p, 2, none⟩ (.slice none 0 0)).ownsMap Try.prog 3 (plainElem Try.prog 3) gn s.pend.length DN) := h1.new.setCell (Ne.symm h1.a1.2.1) _
      have HE : Hid (∀ W', W'.ownsMap Try.prog 3 (plainElem Try.prog 3) gn 0 (.map [] : DataW Unit) → (wr.setCell ⟨p, 2, none⟩ (.slice none 0 0)).mapTurned W' gn → (∃ DL' DN', DiskIn W' p gl gn (.slice none 0 0) z DL' DN' ⟨putP (keptK s.pend K N) s.last, [], s.lim, s.off⟩) ∧ Away (ownD p gl gn V) w W') := fun W' q1 q2 => by
        rw [← hkN]
        exact ⟨⟨_, _, h1.settled newMap_none q1 q2⟩, mt_away (ha.out.set own_p _ _) q2 own_n⟩
      clear h1 hr HR0 hkN
      go_wp2_with (refine wpList_clear (H := Unit) rfl _ 57 rfl _ Try.undMapN rfl hown.out ?_; intro w4 ho4 ht4)
      exact bodyPost_end (results_none rfl _ _ _) rfl ⟨rfl, HE.out _ ho4 ht4⟩
end

end Go.Proofs.Ytnbgnllkikajpaa
