/-
  The landed disk: settle. The landed disk: what is done within an attempt: Read's, Lasting's, Flush's; what Crash asks. The landed disk: Flush's attempt; what Crash asks.
-/
import Derived.Test.YtbnhkplhmanmoaaGreatDiskC3G
import Derived.LoopTactic
import Derived.Deep.RegionWith
namespace Go.Proofs.YtbnhkplhmanmoaaGreat
open Go.RowKit

/-- Those of the first k of which it is so. -/
def keptK (ps : List (Nat × List Nat)) (K : Nat → Bool) : Nat → List (Nat × List Nat)
  | 0 => []
  | k + 1 => if K k then keptK ps K k ++ [ps.getD k (0, [])] else keptK ps K k
theorem keptK_keep (ps : List (Nat × List Nat)) (keep : List Bool) : ∀ k, keptK ps (fun i => keep.getD i false) k = keptP ps keep k
  | 0 => rfl
  | k + 1 => by unfold keptK keptP; rw [keptK_keep ps keep k]
theorem keptK_all (ps : List (Nat × List Nat)) : ∀ k, k ≤ ps.length → keptK ps (fun _ => true) k = ps.take k
  | 0, _ => by simp [keptK]
  | k + 1, hk => by
    unfold keptK
    rw [keptK_all ps k (by omega), if_pos rfl, List.take_add_one, List.getD_eq_getElem?_getD, List.getElem?_eq_getElem (by omega)]
    rfl
theorem putK_ok {s : Dk} (h : s.ok) (K : Nat → Bool) : ∀ k, k ≤ s.pend.length → (∀ i, i < s.last.length → Sec ((putP (keptK s.pend K k) s.last).getD i [])) ∧ (putP (keptK s.pend K k) s.last).length = s.last.length
  | 0, _ => ⟨h.sec, rfl⟩
  | k + 1, hk => by
    obtain ⟨h1, h2⟩ := putK_ok h K k (by omega)
    refine ⟨fun i hi => ?_, putP_len _ _⟩
    unfold keptK
    split
    · rw [putP_app, set_getD _ _ _ _ (by rw [h2]; exact hi)]
      split
      · exact (h.pen k (by omega)).2
      · exact h1 i hi
    · exact h1 i hi
theorem putK_next {ps : List (Nat × List Nat)} {K : Nat → Bool} {k : Nat} (l : List (List Nat)) : putP (keptK ps K (k + 1)) l = if K k = true then (putP (keptK ps K k) l).set (ps.getD k (0, [])).1 (ps.getD k (0, [])).2 else putP (keptK ps K k) l := by
  show putP (if K k = true then _ else _) l = _
  split
  · rw [putP_app]
  · rfl

theorem Tryz.infoWz : (Tryz.prog.info? 105).map (fun i => (i.zero, i.size)) = some (some (.agg (wrV (0, zeroSec)).toArray), 65) := by kernel_rfl
theorem zeroW (w : World) : (zeroValue 105).run Tryz.prog w = .ok (.agg (wrV (0, zeroSec)).toArray) w := (zero_of_info Tryz.infoWz).1 w
theorem wrV_one (q : Nat × List Nat) : (wrV q).toArray.all (·.oneCell') = true := by
  rw [Array.all_eq_true_iff_forall_mem]
  intro v hv
  simp only [wrV, List.mem_toArray, List.mem_append, List.mem_singleton] at hv
  rcases hv with hv | rfl
  · have h := BA_one q.2
    rw [Array.all_eq_true_iff_forall_mem] at h
    exact h v (by simpa using hv)
  · rfl

section
variable {w w' : World} {p gl gn : Nat} {V : Value} {z : Int} {DL : DataW Value} {DN : DataW Unit} {s : Dk}
/-- Nothing is pending any more. -/
theorem DiskIn.settled (h : DiskIn w p gl gn V z DL DN s) {DN' : DataW Unit} (hm : NewMap DN' []) (ho : w'.ownsMap Tryz.prog 3 (plainElem Tryz.prog 3) gn 0 DN') (ht : (w.setCell ⟨p, 2, none⟩ (.slice none 0 0)).mapTurned w' gn) :
    DiskIn w' p gl gn (.slice none 0 0) z DL DN' ⟨s.last, [], s.lim, s.off⟩ :=
  ⟨⟨h.ok.pos, h.ok.le, h.ok.sec, fun i hi => absurd hi (by simp)⟩, (mt_other ht h.a1.2.1).trans (setc_same w p 2 _ _ _ h.box), mapHeap h.last ((mt_other ht h.a1.2.2).trans (setc_other w p gl 2 _ h.a1.1)), h.lsays, ho, hm, World.ownsRow_nil _ _ _ _, h.lim, h.zi, h.a1, ⟨by simp [Value.ownBlock], by simp [Value.ownBlock], by simp [Value.ownBlock]⟩⟩

set_option maxHeartbeats 3200000 in
set_option maxRecDepth 20000 in
theorem settle_go (h : DiskIn w p gl gn V z DL DN s) (fid : FuncId) (cap : Array Value) (K : Nat → Bool) (he : ∀ args w, (callFunc fid args).run Tryz.prog w = .ok (.enter fid args) w)
    (hf : ∀ (i : Nat) (W : World), i < s.pend.length → Away (ownD p gl gn V) w W → Calls Tryz.prog fid (#[.int .i64 (i : Int)] ++ cap) W fun e w' => e = .returned (.bool (K i)) ∧ w' = W) :
    Calls Tryz.prog 31 #[.pointer (some ⟨p, 0, none⟩), .func (.func fid) #[] cap] w fun e w' => e = .returned (.tuple #[]) ∧ (∃ DL' DN', DiskIn w' p gl gn (.slice none 0 0) z DL' DN' ⟨putP (keptK s.pend K s.pend.length) s.last, [], s.lim, s.off⟩) ∧ Away (ownD p gl gn V) w w' := by
  obtain ⟨A, c, hV, hm1, hm2⟩ := h.len
  obtain ⟨_, _, c2, _⟩ := h.cells
  rw [hV] at c2
  have HV := Lib.hid hV
  have HF := Lib.hid hf
  have HK := Lib.hid (putK_ok h.ok K)
  have HP := Lib.hid h.ok.pen
  have HR0 : Hid (DiskIn w p gl gn V z DL DN ⟨putP (keptK s.pend K 0) s.last, s.pend, s.lim, s.off⟩) := h
  obtain ⟨N, hN⟩ : ∃ N, N = s.pend.length := ⟨_, rfl⟩
  have HN := Lib.hid hN
  have n1 : (N : Int) ≤ 9223372036854775807 := by unfold maxLen at hm2; omega
  rw [← hN] at c2 HV ⊢
  have hu := Tryz.undW
  obtain ⟨dW, hdW, hrow⟩ := hu
  obtain ⟨Z, hZ⟩ : ∃ Z, Z = (wrV (0, zeroSec)).toArray := ⟨_, rfl⟩
  have hzv : ∀ W : World, (zeroValue 105).run Tryz.prog W = .ok (.agg Z) W := fun W => by rw [hZ]; exact zeroW W
  have hZs : Hid (Z.size = 65) := by unfold Hid; rw [hZ]; rfl
  have eg := he
  clear h hV hf hN hm1 hm2 hZ
  go_enter Tryz.func31, Tryz.ntmps31
  go_wp2
  go_loopw [11] (fun i wr => ∃ k : Nat, k ≤ N ∧ i = .int .i64 k ∧ Hid (∃ DL', DiskIn wr p gl gn V z DL' DN ⟨putP (keptK s.pend K k) s.last, s.pend, s.lim, s.off⟩) ∧ Hid (Away (ownD p gl gn V) w wr)) (fun i _ => N - (intOf i).toNat)
  case atStart => exact ⟨0, Nat.zero_le _, rfl, ⟨_, HR0.out⟩, Away.refl _ _⟩
  case round =>
    obtain ⟨k, hk, rfl, hr, ha⟩ := hrel
    by_cases hlt : k < N
    · obtain ⟨DL1, h1⟩ := hr.out
      have hj : k < s.pend.length := by have := HN.out; omega
      obtain ⟨g, c', hV', hr1, _⟩ := h1.write hj
      obtain ⟨rfl, rfl⟩ : A = some ⟨g, 0, none⟩ ∧ c' = c := by
        have e := HV.out.symm.trans hV'
        injection e with e1 e2 e3
        exact ⟨e1, e3.symm⟩
      have k1 : (k : Int) < (N : Int) := by omega
      have k0 : (0 : Int) ≤ (k : Int) := by omega
      have HL := Lib.hid hr1
      obtain ⟨q, hq⟩ : ∃ q, q = s.pend.getD k (0, []) := ⟨_, rfl⟩
      have hq2 := Lib.hid (HP.out k hj)
      rw [← hq] at hq2
      simp only [← hq] at HL
      have hinW : (Tryz.prog.info? 105).map (·.size) = some (wrV q).length := by rw [wrV_len hq2.out.2.1]; exact Tryz.infW
      have hinW2 : (Tryz.prog.info? 105).map (·.size) = some (wrV q).toArray.size := by rw [List.size_toArray]; exact hinW
      have hZC : Z.size = (wrV q).toArray.size := by rw [hZs.out, List.size_toArray, wrV_len hq2.out.2.1]
      have hone := wrV_one q
      have hb0 : Hid (Below wr.heap.size wr (wr.alloc (.cells Z 105))) := (Below.refl _ _).alloc (Nat.le_refl _) _
      have hnew := heap_alloc_new wr (.cells Z 105)
      have HL0 : Hid ((wr.alloc (.cells Z 105)).rangeAt g (k * 65) (wrV q)) := World.rangeAt_alloc HL.out _
      have HNX := Lib.hid (putK_next (ps := s.pend) (K := K) (k := k) s.last)
      rw [← hq] at HNX
      have H1 := Lib.hid h1
      have HQ := Lib.hid hq
      clear hr hV' hr1 h1 hq HR0
      obtain ⟨kb, hkb⟩ : ∃ kb, kb = K k := ⟨_, rfl⟩
      have HFk := Lib.hid (HF.out k)
      rw [← hkb] at HFk HNX
      have HKB := Lib.hid hkb
      clear hkb
      obtain ⟨C, hC⟩ : ∃ C, C = (wrV q).toArray := ⟨_, rfl⟩
      rw [← hC] at hinW2 hZC hone
      have HC := Lib.hid hC
      have HKG : Hid (∀ W DLx, DiskIn W p gl gn V z DLx DN ⟨putP (keptK s.pend K k) s.last, s.pend, s.lim, s.off⟩ → Calls Tryz.prog 52 #[.pointer (some ⟨p, 0, none⟩), .agg C] W fun e w' => e = .returned (.tuple #[]) ∧ (∃ DL', DiskIn w' p gl gn V z DL' DN ⟨(putP (keptK s.pend K k) s.last).set q.1 q.2, s.pend, s.lim, s.off⟩) ∧ Away (ownD p gl gn V) W w') := fun W DLx hx => by
        rw [HC.out]
        exact keep_go hx q.1 (by have := (HK.out k (Nat.le_of_lt hj)).2; show q.1 < (putP _ _).length; rw [this]; exact hq2.out.1) q.2 hq2.out.2
      clear hC
      cases kb with
      | true =>
        go_wp2_with (first
          | (refine wpList_load_mid rfl 105 _ rfl g (k * 65) (by first | rfl | simp) (wrV q) dW HL.out hdW hrow hinW ?_; rw [← HC.out])
          | (refine wpList_store_fresh rfl 105 _ _ rfl wr.heap.size C rfl rfl 105 Z hnew hinW2 hZC hone hb0.out (Nat.le_refl _) ?_; intro W2 hW2 hb2 hk2 hs2)
          | (go_at_fn fid; with_reducible (refine Calls.mono (HFk.out W2 (by have := HN.out; omega) (th_away ha.out hb2)) ?_); rintro e w2 ⟨rfl, rfl⟩)
          | (refine wpList_load_mid rfl 105 _ rfl wr.heap.size 0 (by first | rfl | simp) (wrV q) dW (rangeAt_list hW2 (fun j v hv => by rw [HC.out, List.getElem?_toArray]; exact hv)) hdW hrow hinW ?_; rw [← HC.out])
          | (go_at_call 52; with_reducible (refine Calls.mono (HKG.out _ _ (H1.out.later hb2)) ?_); rintro e w3 ⟨rfl, hr3, ha3⟩))
        have R : Hid (∃ DL', DiskIn w3 p gl gn V z DL' DN ⟨putP (keptK s.pend K (k + 1)) s.last, s.pend, s.lim, s.off⟩) := by
          unfold Hid
          rw [HNX.out]; simp only [if_true]
          exact hr3
        have RA : Hid (Away (ownD p gl gn V) w w3) := aw_trans (th_away ha.out hb2) ha3 (fun b q => .inl q)
        clear hr3 ha3
        go_roundw
        case rel => exact ⟨k + 1, by omega, by go_num, R, RA⟩
        case measure => simp [intOf]; omega
      | false =>
        go_wp2_with (first
          | (refine wpList_load_mid rfl 105 _ rfl g (k * 65) (by first | rfl | simp) (wrV q) dW HL.out hdW hrow hinW ?_; rw [← HC.out])
          | (refine wpList_store_fresh rfl 105 _ _ rfl wr.heap.size C rfl rfl 105 Z hnew hinW2 hZC hone hb0.out (Nat.le_refl _) ?_; intro W2 hW2 hb2 hk2 hs2)
          | (go_at_fn fid; with_reducible (refine Calls.mono (HFk.out W2 (by have := HN.out; omega) (th_away ha.out hb2)) ?_); rintro e w2 ⟨rfl, rfl⟩))
        have R : Hid (∃ DL', DiskIn w2 p gl gn V z DL' DN ⟨putP (keptK s.pend K (k + 1)) s.last, s.pend, s.lim, s.off⟩) := by
          unfold Hid
          rw [HNX.out]; simp only [Bool.false_eq_true, if_false]
          exact ⟨_, H1.out.later hb2⟩
        have RA : Hid (Away (ownD p gl gn V) w w2) := th_away ha.out hb2
        go_roundw
        case rel => exact ⟨k + 1, by omega, by go_num, R, RA⟩
        case measure => simp [intOf]; omega
    · have hkN : k = N := by omega
      have k1 : ¬ (k : Int) < (N : Int) := by omega
      obtain ⟨DL1, h1⟩ := hr.out
      obtain ⟨_, _, d2, d3, _⟩ := h1.cells
      have f2 := h1.thaw 2
      have hown : Hid ((wr.setCell ⟨p, 2, none⟩ (.slice none 0 0)).ownsMap Tryz.prog 3 (plainElem Tryz.prog 3) gn s.pend.length DN) := h1.new.setCell (Ne.symm h1.a1.2.1) _
      have HE : Hid (∀ W', W'.ownsMap Tryz.prog 3 (plainElem Tryz.prog 3) gn 0 (.map [] : DataW Unit) → (wr.setCell ⟨p, 2, none⟩ (.slice none 0 0)).mapTurned W' gn → (∃ DL' DN', DiskIn W' p gl gn (.slice none 0 0) z DL' DN' ⟨putP (keptK s.pend K N) s.last, [], s.lim, s.off⟩) ∧ Away (ownD p gl gn V) w W') := fun W' q1 q2 => by
        rw [← hkN]
        exact ⟨⟨_, _, h1.settled newMap_none q1 q2⟩, mt_away (ha.out.set own_p _ _) q2 own_n⟩
      clear h1 hr HR0 hkN
      go_wp2_with (refine wpList_clearD (H := Unit) rfl _ 59 rfl _ Tryz.undMapN rfl hown.out ?_; intro w4 ho4 ht4)
      exact bodyPost_end (results_none rfl _ _ _) rfl ⟨rfl, HE.out _ ho4 ht4⟩
end

end Go.Proofs.YtbnhkplhmanmoaaGreat

namespace Go.Proofs.YtbnhkplhmanmoaaGreat
open Go.RowKit

section
variable {w : World} {p gl gn : Nat} {V : Value} {z : Int} {DL : DataW Value} {DN : DataW Unit} {s : Dk}

set_option maxHeartbeats 800000 in
theorem read1_no (h : DiskIn w p gl gn V z DL DN s) (b0 b1 b2 : Nat) (n : Int) (hb0 : w.cell? ⟨b0, 0, none⟩ = some (.pointer (some ⟨p, 0, none⟩))) (hb1 : w.cell? ⟨b1, 0, none⟩ = some (.int .i64 n)) (hE : readE s n ≠ 0) :
    Calls Tryz.prog 138 #[.pointer (some ⟨b0, 0, none⟩), .pointer (some ⟨b1, 0, none⟩), .pointer (some ⟨b2, 0, none⟩)] w fun e w' => e = .panicked (upV (readE s n)) ∧ w' = w := by
  obtain ⟨_, _, _, _, _, c5⟩ := h.cells
  have hnot : ∀ (x : Bool) (w : World), (Op.unary .not (.bool x)).run Tryz.prog w = .ok (.bool (!x)) w := fun _ _ => rfl
  cases ho : s.off with
  | true =>
    have e : readE s n = 8 := by unfold readE; rw [ho]; rfl
    rw [e]
    rw [ho] at c5
    clear h hE e
    go_enter Tryz.func138, Tryz.ntmps138
    go_wp2_with (go_at_call 55; with_reducible (refine Calls.mono (demand_no _ _) ?_); rintro e w1 ⟨rfl, rfl⟩)
    exact ⟨rfl, rfl, rfl⟩
  | false =>
    have hout : outD s n := by
      unfold readE at hE
      rw [ho, if_neg (by decide)] at hE
      by_cases q : outD s n
      · exact q
      · rw [if_neg q] at hE; exact absurd rfl hE
    have e : readE s n = 7 := by unfold readE; rw [ho, if_neg (by decide), if_pos hout]
    rw [e]
    rw [ho] at c5
    have HH := Lib.hid (has_no h n hout)
    clear h hE e hout
    go_enter Tryz.func138, Tryz.ntmps138
    go_wp2_with (first
      | (go_at_call 56; with_reducible (refine Calls.mono HH.out ?_); rintro e w1 ⟨rfl, rfl⟩; have h7 := hnot)
      | (go_at_call 55; have h7' := h7; with_reducible (refine Calls.mono (demand_no _ _) ?_); rintro e w1 ⟨rfl, rfl⟩)
      | (go_at_call 55; with_reducible (refine Calls.mono (demand_ok _ _) ?_); rintro e w1 ⟨rfl, rfl⟩))
    exact ⟨rfl, rfl, rfl⟩

set_option maxHeartbeats 1600000 in
set_option maxRecDepth 20000 in
theorem read1_ok (h : DiskIn w p gl gn V z DL DN s) (b0 b1 b2 i : Nat) (hb0 : w.cell? ⟨b0, 0, none⟩ = some (.pointer (some ⟨p, 0, none⟩))) (hb1 : w.cell? ⟨b1, 0, none⟩ = some (.int .i64 (i : Int))) (hb2 : w.heap[b2]? = some (.cells #[.slice none 0 0] 54 (0, 0))) (hE : readE s (i : Int) = 0) :
    Calls Tryz.prog 138 #[.pointer (some ⟨b0, 0, none⟩), .pointer (some ⟨b1, 0, none⟩), .pointer (some ⟨b2, 0, none⟩)] w fun e w' => e = .returned (.tuple #[]) ∧
      ∃ W, Below w.heap.size w W ∧ w' = (W.alloc (.cells (BA (nowD s i)) 103)).setCell ⟨b2, 0, none⟩ (.slice (some ⟨W.heap.size, 0, none⟩) 64 64) := by
  obtain ⟨_, _, _, _, _, c5⟩ := h.cells
  have ho : s.off = false := by
    cases q : s.off
    · rfl
    · unfold readE at hE; rw [q] at hE; cases hE
  have hout : ¬ outD s (i : Int) := fun q => by unfold readE at hE; rw [ho, if_neg (by decide), if_pos q] at hE; cases hE
  have hi : i < s.last.length := by unfold outD at hout; omega
  rw [ho] at c5
  have HH := Lib.hid (has_yes h (i : Int) hout)
  have HNW := Lib.hid (now_go h i hi)
  obtain ⟨t, ht⟩ : ∃ t, t = nowD s i := ⟨_, rfl⟩
  have htl : t.length = 64 := by rw [ht]; exact (seenP_sec h.ok hi).1
  rw [← ht] at HNW ⊢
  have HBY := Lib.hid (bytes_go t htl)
  have hlt := (Array.getElem?_eq_some_iff.1 hb2).1
  have HS : Hid (∀ W : World, Below w.heap.size w W → (W.alloc (.cells (BA t) 103)).cell? ⟨b2, 0, none⟩ = some (.slice none 0 0) ∧ (W.alloc (.cells (BA t) 103)).frozen? ⟨b2, 0, none⟩ = false) := fun W hb => by
    have hq : (W.alloc (.cells (BA t) 103)).heap[b2]? = some (.cells #[.slice none 0 0] 54 (0, 0)) := (Below.heap_alloc _ _ _ (Nat.lt_of_lt_of_le hlt hb.size)).trans ((hb.block b2 hlt).trans hb2)
    exact ⟨cell_of_row _ _ _ _ _ _ hq, frozen_of_row _ _ _ _ _ hq⟩
  obtain ⟨T, hT⟩ : ∃ T, T = BA t := ⟨_, rfl⟩
  rw [← hT] at HBY HS ⊢
  clear h hE hout hi ho ht htl hT hlt hb2
  go_enter Tryz.func138, Tryz.ntmps138
  go_wp2_with (first
    | (go_at_call 56; with_reducible (refine Calls.mono HH.out ?_); rintro e w1 ⟨rfl, rfl⟩)
    | (go_at_call 55; with_reducible (refine Calls.mono (demand_ok _ _) ?_); rintro e w1 ⟨rfl, rfl⟩)
    | (go_at_call 139; with_reducible (refine Calls.mono HNW.out ?_); rintro e w1 ⟨rfl, hb1⟩)
    | (go_at_call 57; with_reducible (refine Calls.mono (HBY.out _) ?_); rintro e w2 ⟨rfl, rfl⟩; have y1 := (HS.out _ hb1).1; have y2 := (HS.out _ hb1).2))
  exact bodyPost_end (results_none rfl _ _ _) rfl ⟨rfl, _, hb1, rfl⟩

set_option maxHeartbeats 800000 in
theorem last1_no (h : DiskIn w p gl gn V z DL DN s) (b0 b1 b2 : Nat) (n : Int) (hb0 : w.cell? ⟨b0, 0, none⟩ = some (.pointer (some ⟨p, 0, none⟩))) (hb1 : w.cell? ⟨b1, 0, none⟩ = some (.int .i64 n)) (hE : lastE s n ≠ 0) :
    Calls Tryz.prog 54 #[.pointer (some ⟨b0, 0, none⟩), .pointer (some ⟨b1, 0, none⟩), .pointer (some ⟨b2, 0, none⟩)] w fun e w' => e = .panicked (upV (lastE s n)) ∧ w' = w := by
  have hout : outD s n := by
    unfold lastE at hE
    by_cases q : outD s n
    · exact q
    · rw [if_neg q] at hE; exact absurd rfl hE
  have e : lastE s n = 7 := by unfold lastE; rw [if_pos hout]
  rw [e]
  have HH := Lib.hid (has_no h n hout)
  clear h hE e hout
  go_enter Tryz.func54, Tryz.ntmps54
  go_wp2_with (first
    | (go_at_call 56; with_reducible (refine Calls.mono HH.out ?_); rintro e w1 ⟨rfl, rfl⟩)
    | (go_at_call 55; with_reducible (refine Calls.mono (demand_no _ _) ?_); rintro e w1 ⟨rfl, rfl⟩))
  exact ⟨rfl, rfl, rfl⟩

set_option maxHeartbeats 1600000 in
set_option maxRecDepth 20000 in
theorem last1_ok (h : DiskIn w p gl gn V z DL DN s) (b0 b1 b2 i : Nat) (hb0 : w.cell? ⟨b0, 0, none⟩ = some (.pointer (some ⟨p, 0, none⟩))) (hb1 : w.cell? ⟨b1, 0, none⟩ = some (.int .i64 (i : Int))) (hb2 : w.heap[b2]? = some (.cells #[.slice none 0 0] 54 (0, 0))) (hE : lastE s (i : Int) = 0) (hne : b2 ≠ b0 ∧ b2 ≠ b1 ∧ b2 ≠ p) :
    Calls Tryz.prog 54 #[.pointer (some ⟨b0, 0, none⟩), .pointer (some ⟨b1, 0, none⟩), .pointer (some ⟨b2, 0, none⟩)] w fun e w' => e = .returned (.tuple #[]) ∧
      ∃ W, Below w.heap.size w W ∧ w' = (W.alloc (.cells (BA (s.last.getD i [])) 103)).setCell ⟨b2, 0, none⟩ (.slice (some ⟨W.heap.size, 0, none⟩) 64 64) := by
  obtain ⟨_, c1, _, _, _, _⟩ := h.cells
  have hout : ¬ outD s (i : Int) := fun q => by unfold lastE at hE; rw [if_pos q] at hE; cases hE
  have hi : i < s.last.length := by unfold outD at hout; omega
  have HH := Lib.hid (has_yes h (i : Int) hout)
  obtain ⟨t, ht⟩ : ∃ t, t = s.last.getD i [] := ⟨_, rfl⟩
  have htl : t.length = 64 := by rw [ht]; exact (h.ok.sec i hi).1
  have hi6 : (i : Int) < 4096 := by have := h.ok.le; omega
  have hrunA : ∀ W : World, W.heap = w.heap → (Instr.lookup 58 (.map (some gl)) (.int .i64 (i : Int)) false).run Tryz.prog W = .ok (secV t) W := fun W hW => by
    have hl := mapHeap (w' := W) h.last (by rw [hW])
    obtain ⟨v, ps, hrun, hR⟩ := hl.lookup keyD Tryz.undMapL (zeroLD W) (zd := .held (secV zeroSec)) (zp := []) rfl (keyOfD (x := (i : Int)) (by unfold I64c; omega))
    rw [h.lsays.here i hi, ← ht] at hR
    have hv : v = secV t := by
      unfold heldElem at hR
      injection hR with hR
      injection hR with hR _
      injection hR
    rw [hrun, hv]
  rw [← ht]
  have HBY := Lib.hid (bytes_go t htl)
  have hlt := (Array.getElem?_eq_some_iff.1 hb2).1
  have c20 : w.cell? ⟨b2, 0, none⟩ = some (.slice none 0 0) := cell_of_row _ _ _ _ _ _ hb2
  have hrun := hrunA w.drew rfl
  have hq : (w.alloc (.cells (BA t) 103)).heap[b2]? = some (.cells #[.slice none 0 0] 54 (0, 0)) := (Below.heap_alloc w _ _ hlt).trans hb2
  have y1 : (w.alloc (.cells (BA t) 103)).cell? ⟨b2, 0, none⟩ = some (.slice none 0 0) := cell_of_row _ _ _ _ _ _ hq
  have y2 : (w.alloc (.cells (BA t) 103)).frozen? ⟨b2, 0, none⟩ = false := frozen_of_row _ _ _ _ _ hq
  have y3 : (w.drew.alloc (.cells (BA t) 103)).cell? ⟨b2, 0, none⟩ = some (.slice none 0 0) := y1
  have y4 : (w.drew.alloc (.cells (BA t) 103)).frozen? ⟨b2, 0, none⟩ = false := y2
  have hb : Hid (Below w.heap.size w w.drew) := (Below.refl _ _).drew
  unfold secV at hrun HBY
  have HS : Hid (∀ W : World, W.heap = w.heap ∨ W.heap = (w.alloc (.cells (BA t) 103)).heap ∨ W.heap = ((w.alloc (.cells (BA t) 103)).setCell ⟨b2, 0, none⟩ (.slice (some ⟨w.heap.size, 0, none⟩) 64 64)).heap → W.cell? ⟨b0, 0, none⟩ = some (.pointer (some ⟨p, 0, none⟩)) ∧ W.cell? ⟨p, 1, none⟩ = some (.map (some gl)) ∧ W.cell? ⟨b1, 0, none⟩ = some (.int .i64 (i : Int))) := fun W q => by
    have l0 := World.block_lt_of_cell? w _ hb0
    have l1 := World.block_lt_of_cell? w _ hb1
    have lp := World.block_lt_of_cell? w _ c1
    have key : ∀ b, b < w.heap.size → b2 ≠ b → W.heap[b]? = w.heap[b]? := fun b hb hn => by
      rcases q with q | q | q
      · rw [q]
      · rw [q]; exact Below.heap_alloc w _ _ hb
      · rw [q]; exact (setc_other _ _ _ _ _ hn).trans (Below.heap_alloc w _ _ hb)
    exact ⟨(World.cell?_of_block (key b0 l0 hne.1)).trans hb0, (World.cell?_of_block (key p lp hne.2.2)).trans c1, (World.cell?_of_block (key b1 l1 hne.2.1)).trans hb1⟩
  obtain ⟨T, hT⟩ : ∃ T, T = BA t := ⟨_, rfl⟩
  rw [← hT] at HBY y1 y2 y3 y4 hrun HS ⊢
  clear h hE hout hi ht htl hT hlt hb2 hq hrunA hne
  go_enter Tryz.func54, Tryz.ntmps54
  go_wp2_with (first
    | (go_at_call 56; with_reducible (refine Calls.mono HH.out ?_); rintro e w1 ⟨rfl, rfl⟩)
    | (go_at_call 55; with_reducible (refine Calls.mono (demand_ok _ _) ?_); rintro e w1 ⟨rfl, rfl⟩))
  go_region_held3 (fun W => W.cell? ⟨b0, 0, none⟩ = some (.pointer (some ⟨p, 0, none⟩)) ∧ W.cell? ⟨p, 1, none⟩ = some (.map (some gl)) ∧ W.cell? ⟨b1, 0, none⟩ = some (.int .i64 (i : Int)))
    (first
      | exact HS.out _ (.inl rfl)
      | exact HS.out _ (.inr (.inl rfl))
      | exact HS.out _ (.inr (.inr rfl)))
    (first
      | (go_at_call 57; with_reducible (refine Calls.mono (HBY.out _) ?_); rintro e w2 ⟨rfl, rfl⟩))
  exact bodyPost_end (results_none rfl _ _ _) rfl ⟨rfl, _, hb.out, rfl⟩
end

end Go.Proofs.YtbnhkplhmanmoaaGreat

namespace Go.Proofs.YtbnhkplhmanmoaaGreat
open Go.RowKit

theorem all_go (i : Nat) (w : World) : Calls Tryz.prog 121 #[.int .i64 (i : Int)] w fun e w' => e = .returned (.bool true) ∧ w' = w := by
  go_enter Tryz.func121, Tryz.ntmps121
  go_wp2
  go_ret
  exact ⟨rfl, rfl⟩

set_option maxHeartbeats 800000 in
theorem crash1_go (b0 c B : Nat) (A : Option Addr) (l : List Bool) (w : World) (hb0 : w.cell? ⟨b0, 0, none⟩ = some (.slice A l.length c)) (hB : Bools w B A l) (i : Nat) :
    Calls Tryz.prog 32 (#[.int .i64 (i : Int)] ++ #[.pointer (some ⟨b0, 0, none⟩)]) w fun e w' => e = .returned (.bool (l.getD i false)) ∧ w' = w := by
  obtain ⟨N, hN⟩ : ∃ N, N = l.length := ⟨_, rfl⟩
  rw [← hN] at hb0
  by_cases hi : i < l.length
  · obtain ⟨b, o, rfl, _, hc⟩ := hB i hi
    have k0 : (0 : Int) ≤ (i : Int) := by omega
    have k1 : (i : Int) < (N : Int) := by omega
    obtain ⟨v, hv⟩ : ∃ v, v = l.getD i false := ⟨_, rfl⟩
    rw [← hv] at hc ⊢
    clear hB hN hi hv
    go_enter Tryz.func32, Tryz.ntmps32
    go_wp2
    go_ret
    exact ⟨rfl, rfl⟩
  · have k1 : ¬ (i : Int) < (N : Int) := by omega
    have e : l.getD i false = false := by rw [List.getD_eq_getElem?_getD, List.getElem?_eq_none (by omega)]; rfl
    rw [e]
    clear hB hN hi e
    go_enter Tryz.func32, Tryz.ntmps32
    go_wp2
    go_ret
    exact ⟨rfl, rfl⟩

section
variable {w : World} {p gl gn : Nat} {V : Value} {z : Int} {DL : DataW Value} {DN : DataW Unit} {s : Dk}
theorem spend_off {s : Dk} (h : spendE s = 0) : (spendS s).off = s.off ∧ (spendS s).last = s.last ∧ (spendS s).pend = s.pend := by
  unfold spendS
  split
  · rename_i q; unfold spendE at h; rw [if_pos q] at h; cases h
  · exact ⟨rfl, rfl, rfl⟩
theorem spendE_or (s : Dk) : spendE s = 0 ∨ spendE s = 8 := by unfold spendE; split <;> simp

set_option maxHeartbeats 800000 in
theorem flush1_no (h : DiskIn w p gl gn V z DL DN s) (b0 : Nat) (hb0 : w.cell? ⟨b0, 0, none⟩ = some (.pointer (some ⟨p, 0, none⟩))) (hE : flushE s ≠ 0) :
    Calls Tryz.prog 120 #[.pointer (some ⟨b0, 0, none⟩)] w fun e w' => e = .panicked (upV (flushE s)) ∧ (DiskIn w' p gl gn V z DL DN (flushS s) ∧ Away (ownD p gl gn V) w w') := by
  obtain ⟨_, _, _, _, _, c5⟩ := h.cells
  have hnot : ∀ (x : Bool) (w : World), (Op.unary .not (.bool x)).run Tryz.prog w = .ok (.bool (!x)) w := fun _ _ => rfl
  cases ho : s.off with
  | true =>
    have e : flushE s = 8 := by unfold flushE; rw [ho]; rfl
    have e2 : flushS s = s := by unfold flushS; rw [ho]; rfl
    rw [e, e2]
    rw [ho] at c5
    have R := Lib.hid (And.intro h (Away.refl (ownD p gl gn V) w))
    clear h hE e e2
    go_enter Tryz.func120, Tryz.ntmps120
    go_wp2_with (go_at_call 55; with_reducible (refine Calls.mono (demand_no _ _) ?_); rintro e w1 ⟨rfl, rfl⟩)
    exact ⟨rfl, rfl, R.out⟩
  | false =>
    have hs : spendE s ≠ 0 := fun q => by unfold flushE at hE; rw [ho, if_neg (by decide)] at hE; exact hE q
    have e : flushE s = 8 := by unfold flushE; rw [ho, if_neg (by decide)]; exact (spendE_or s).resolve_left hs
    have e2 : flushS s = spendS s := by unfold flushS; rw [ho, if_neg (by decide), if_neg hs]
    rw [e, e2]
    rw [ho] at c5
    have HSP := Lib.hid (spend_no_go h hs)
    obtain ⟨s2, hs2⟩ : ∃ s2, s2 = spendS s := ⟨_, rfl⟩
    rw [← hs2] at HSP ⊢
    clear h hE e e2 hs hs2
    go_enter Tryz.func120, Tryz.ntmps120
    go_wp2_with (first
      | (go_at_call 119; with_reducible (refine Calls.mono HSP.out ?_); rintro e w1 ⟨rfl, hr1, ha1⟩)
      | (go_at_call 55; with_reducible (refine Calls.mono (demand_ok _ _) ?_); rintro e w1 ⟨rfl, rfl⟩))
    exact ⟨rfl, rfl, hr1, ha1⟩

set_option maxHeartbeats 800000 in
theorem flush1_ok (h : DiskIn w p gl gn V z DL DN s) (b0 : Nat) (hb0 : w.cell? ⟨b0, 0, none⟩ = some (.pointer (some ⟨p, 0, none⟩))) (hn : ¬ ownD p gl gn V b0) (hE : flushE s = 0) :
    Calls Tryz.prog 120 #[.pointer (some ⟨b0, 0, none⟩)] w fun e w' => e = .returned (.tuple #[]) ∧ ((∃ z' DL' DN', DiskIn w' p gl gn (.slice none 0 0) z' DL' DN' (flushS s)) ∧ Away (ownD p gl gn V) w w') := by
  obtain ⟨_, _, _, _, _, c5⟩ := h.cells
  have hnot : ∀ (x : Bool) (w : World), (Op.unary .not (.bool x)).run Tryz.prog w = .ok (.bool (!x)) w := fun _ _ => rfl
  have ho : s.off = false := by
    cases q : s.off
    · rfl
    · unfold flushE at hE; rw [q] at hE; cases hE
  have hs : spendE s = 0 := by unfold flushE at hE; rw [ho, if_neg (by decide)] at hE; exact hE
  have e2 : flushS s = ⟨putP s.pend s.last, [], (spendS s).lim, false⟩ := by unfold flushS; rw [ho, if_neg (by decide), if_pos hs, (spend_off hs).1, ho]
  rw [e2]
  rw [ho] at c5
  have HSP := Lib.hid (spend_ok_go h hs)
  have HC : Hid (∀ W, Away (ownD p gl gn V) w W → W.cell? ⟨b0, 0, none⟩ = some (.pointer (some ⟨p, 0, none⟩))) := fun W ha => (ha.cell (World.block_lt_of_cell? w _ hb0) hn).trans hb0
  have HST : Hid (∀ W z', DiskIn W p gl gn V z' DL DN ⟨s.last, s.pend, (spendS s).lim, false⟩ → Away (ownD p gl gn V) w W → Calls Tryz.prog 31 #[.pointer (some ⟨p, 0, none⟩), .func (.func 121) #[] #[]] W fun e w' => e = .returned (.tuple #[]) ∧ (∃ z' DL' DN', DiskIn w' p gl gn (.slice none 0 0) z' DL' DN' ⟨putP s.pend s.last, [], (spendS s).lim, false⟩) ∧ Away (ownD p gl gn V) w w') := fun W z' hW ha => by
    refine (settle_go hW 121 #[] (fun _ => true) (fun args w => by kernel_rfl) (fun i W' _ _ => all_go i W')).mono ?_
    rintro e w' ⟨q1, ⟨DL', DN', q2⟩, q3⟩
    rw [keptK_all _ _ (Nat.le_refl _), List.take_length] at q2
    exact ⟨q1, ⟨z', DL', DN', q2⟩, aw_trans ha q3 (fun _ q => .inl q)⟩
  obtain ⟨s2, hs2⟩ : ∃ s2, s2 = (⟨putP s.pend s.last, [], (spendS s).lim, false⟩ : Dk) := ⟨_, rfl⟩
  rw [← hs2]
  simp only [← hs2] at HST
  clear h hE e2 hs hs2 hn
  go_enter Tryz.func120, Tryz.ntmps120
  go_wp2_with (first
    | (go_at_call 119; with_reducible (refine Calls.mono HSP.out ?_); rintro e w1 ⟨rfl, ⟨z1, hr1⟩, ha1⟩; have y0 := HC.out _ ha1)
    | (go_at_call 31; with_reducible (refine Calls.mono (HST.out _ _ hr1 ha1) ?_); rintro e w2 ⟨rfl, hr2, ha2⟩)
    | (go_at_call 55; with_reducible (refine Calls.mono (demand_ok _ _) ?_); rintro e w1 ⟨rfl, rfl⟩))
  exact bodyPost_end (results_none rfl _ _ _) rfl ⟨rfl, hr2, ha2⟩
end

end Go.Proofs.YtbnhkplhmanmoaaGreat
