/-
  slices.DeleteFunc of volumes in a row of one's own, of one that is there.
-/
import Derived.Test.YtbnhkplhmanmoaaGreatTableC17G
namespace Go.Proofs.YtbnhkplhmanmoaaGreat
open Go.RowKit

theorem zcV : (Builtin.zeroCells (Value.cells (.agg #[.int .i64 0, .int .i64 0, .int .i64 0, .int .i64 0])) 1).toList = volC ⟨0, 0, 0, 0⟩ := by kernel_rfl
theorem Tryz.infoZV : (Tryz.prog.info? 82).map (fun i => (i.zero, i.size)) = some (some (.agg #[.int .i64 0, .int .i64 0, .int .i64 0, .int .i64 0]), 4) := by kernel_rfl

set_option maxHeartbeats 3200000 in
set_option maxRecDepth 20000 in
theorem deleteV_go (lo g N c k : Nat) (id : Int) (fn : FuncId) (cb : Array Value) (L : List Vol) (w : World) (hR : RwV lo g N c w L w) (h12 : N ≤ 12) (hup : L.Pairwise fun a b => a.id < b.id) (hk : k < L.length) (hid : L[k].id = id)
    (he : ∀ args w, (callFunc fn args).run Tryz.prog w = .ok (.enter fn args) w)
    (hc : ∀ (x : Vol) X, w.grownBy X (some g) → Calls Tryz.prog fn (#[.agg (volV x)] ++ cb) X fun e w' => e = .returned (.bool (decide (x.id = id))) ∧ Below X.heap.size X w') :
    Calls Tryz.prog 102 #[.slice (some ⟨g, 0, none⟩) N c, .func (.func fn) #[] cb] w fun e w' => e = .returned (.slice (some ⟨g, 0, none⟩) (N - 1 : Nat) c) ∧ RwV lo g (N - 1) c w (L.eraseIdx k) w' := by
  have hNL := hR.len
  have hl : ∀ j, (h : j < L.length) → j < k → L[j].id ≠ id := fun j hj hjk => by
    have := List.pairwise_iff_getElem.1 hup j k hj hk hjk; omega
  have hafter : ∀ j, (h : j < L.length) → k < j → L[j].id ≠ id := fun j hj hjk => by
    have := List.pairwise_iff_getElem.1 hup k j hk hj hjk; omega
  have hfirst : FirstAt (fun j => decide (∃ h : j < L.length, L[j].id = id)) L.length k := .inr ⟨k, hk, rfl, decide_eq_true ⟨hk, hid⟩, fun j hj => decide_eq_false fun ⟨h, e⟩ => hl j h hj e⟩
  have hidx := indexV_any (some ⟨g, 0, none⟩) c L _ k fn cb w (by omega) (vols_of_row (by rw [← hNL]; exact hR.own)) hfirst he (fun j hj X hb => by
    have q := hc L[j] X (grown_of_below hb _)
    have e : decide (∃ h : j < L.length, L[j].id = id) = decide (L[j].id = id) := by
      rw [Bool.eq_iff_iff, decide_eq_true_iff, decide_eq_true_iff]
      exact ⟨fun ⟨_, e⟩ => e, fun e => ⟨hj, e⟩⟩
    rw [e]; exact q)
  rw [← hNL] at hidx
  have HIDX := Lib.hid hidx
  have HC := Lib.hid hc
  have HNL : Hid (N = L.length) := hNL
  have HST : Hid (delTo L k (k + 1) = L) := delTo_start
  have HEN : Hid ((delTo L k N).take (N - 1) = L.eraseIdx k) := by rw [hNL]; exact delTo_end hk
  have HLN : Hid (∀ j, j ≤ N → 1 ≤ j → N = (delTo L k j).length) := fun j h1 h2 => by rw [delTo_len hk (by omega) h2]; exact hNL
  have HEL : Hid ((L.eraseIdx k).length = N - 1) := by unfold Hid; rw [List.length_eraseIdx_of_lt hk, hNL]
  have HAT : Hid (∀ j, (h : j < L.length) → k < j → (delTo L k j)[j]? = some L[j] ∧ (delTo L k j).set (j - 1) L[j] = delTo L k (j + 1) ∧ L[j].id ≠ id) := fun j h1 h2 => ⟨delTo_at hk h1 (by omega), delTo_next h2 h1, hafter j h1 h2⟩
  have HR := Lib.hid hR
  have eg := he
  have hkN : k < N := by omega
  have v1 : IntKind.i64.wrap ((k : Int) + 1) = ((k + 1 : Nat) : Int) := by rw [IntWalk.i64_in _ (by omega)]; omega
  have kne : ((k : Int) == -1) = false := by rw [beq_eq_false_iff_ne]; omega
  clear hl hafter hfirst hidx hc hNL hR hup hid hk he
  go_enter Tryz.func102, Tryz.ntmps102
  go_wp2_with (go_at_call 135; with_reducible (refine Calls.mono HIDX.out ?_); rintro e w1 ⟨rfl, hb1⟩)
  have HR1 := Lib.hid (HR.out.below hb1)
  clear HR HIDX hb1
  go_loopw [5, 6] (fun iv jv wr => ∃ i j : Nat, i + 1 = j ∧ k < j ∧ j ≤ N ∧ iv = .int .i64 i ∧ jv = .int .i64 j ∧ Hid (RwV lo g N c w (delTo L k j) wr)) (fun _ jv _ => N - (intOf jv).toNat)
  case atStart => exact ⟨k, k + 1, rfl, Nat.lt_succ_self k, hkN, rfl, by first | rfl | go_num, by rw [HST.out]; exact HR1.out⟩
  case round =>
    clear HR1 v1 kne
    obtain ⟨i, j, hij, hkj, hjN, rfl, rfl, S1⟩ := hrel
    by_cases hlt : j < N
    · have k1 : (j : Int) < (N : Int) := by omega
      have k0 : (0 : Int) ≤ (j : Int) := by omega
      have i1 : (i : Int) < (N : Int) := by omega
      have i0 : (0 : Int) ≤ (i : Int) := by omega
      have hjL : j < L.length := by have := HNL.out; omega
      obtain ⟨hat, hset, hne⟩ := HAT.out j hjL hkj
      have hlen := HLN.out j (by omega) (by omega)
      have hjD : j < (delTo L k j).length := by omega
      have hcell := S1.out.at_ hjD
      have hat2 : (delTo L k j)[j] = L[j] := by rw [List.getElem?_eq_getElem hjD] at hat; injection hat
      rw [hat2] at hcell
      obtain ⟨y, hy⟩ : ∃ y, y = L[j] := ⟨_, rfl⟩
      rw [← hy] at hcell hset hne
      obtain ⟨xp0, xp1, xp2, xp3⟩ := hcell
      have hb0 : Below wr.heap.size wr (wr.alloc (.cells #[.int .i64 y.id, .int .i64 y.ten, .int .i64 y.blocks, .int .i64 y.base] 82)) := (Below.refl _ _).alloc (Nat.le_refl _) _
      have hcl := HC.out y (wr.alloc (.cells #[.int .i64 y.id, .int .i64 y.ten, .int .i64 y.blocks, .int .i64 y.base] 82)) (S1.out.grown.trans (grown_of_below hb0 _))
      rw [decide_eq_false hne, show volV y = #[.int .i64 y.id, .int .i64 y.ten, .int .i64 y.blocks, .int .i64 y.base] from rfl] at hcl
      have HCL := Lib.hid hcl
      have HX : Hid (∀ W : World, Below (wr.alloc (.cells #[.int .i64 y.id, .int .i64 y.ten, .int .i64 y.blocks, .int .i64 y.base] 82)).heap.size (wr.alloc (.cells #[.int .i64 y.id, .int .i64 y.ten, .int .i64 y.blocks, .int .i64 y.base] 82)) W → (W.cell? ⟨wr.heap.size, 0, none⟩ = some (.int .i64 y.id) ∧ W.cell? ⟨wr.heap.size, 1, none⟩ = some (.int .i64 y.ten) ∧ W.cell? ⟨wr.heap.size, 2, none⟩ = some (.int .i64 y.blocks) ∧ W.cell? ⟨wr.heap.size, 3, none⟩ = some (.int .i64 y.base))) := fun W hb => cells4 ((hb.block _ (by simp)).trans (heap_alloc_new wr _))
      have HSET := Lib.hid hset
      have HY : Hid (#[.int .i64 y.id, .int .i64 y.ten, .int .i64 y.blocks, .int .i64 y.base] = (volC y).toArray) := rfl
      have HIJ : Hid (i = j - 1) := by unfold Hid; omega
      have hiL : Hid (i < (delTo L k j).length) := by unfold Hid; omega
      have hlen2 : Hid (N = (delTo L k j).length) := hlen
      have hlen3 : Hid (N = (delTo L k (j + 1)).length) := HLN.out (j + 1) (by omega) (by omega)
      clear HC HAT hcl hat hat2 hset hne hy hlen hjD HST HEN HEL HLN
      go_wp2_with (first
        | (go_at_fn fn; with_reducible (refine Calls.mono HCL.out ?_); rintro e w2 ⟨rfl, hb2⟩
           obtain ⟨xq0, xq1, xq2, xq3⟩ := HX.out _ hb2
           have hb3 := chain hb0 hb2
           have S2 := Lib.hid (S1.out.below hb3))
        | (refine wpList_put rfl 82 _ _ rfl volC_len volC_one S2.out.own rfl hlen2.out hiL.out _ rfl y rfl _ HY.out rfl Tryz.infVS ?_; intro W5 ho5 hg5))
      have S5 : Hid (RwV lo g N c w (delTo L k (j + 1)) W5) := by
        rw [HIJ.out, HSET.out] at ho5
        exact ⟨ho5, S2.out.grown.trans hg5, hlen3.out⟩
      clear S1 S2 ho5 hg5 hb0 hb2 hb3 xp0 xp1 xp2 xp3 xq0 xq1 xq2 xq3 HX HCL
      go_roundw
      case rel => first | exact ⟨j, j + 1, rfl, by omega, by omega, by go_num, by go_num, S5⟩ | ((repeat apply Exists.intro); exact ⟨⟨j, j + 1, rfl, by omega, by omega, by go_num, by go_num, S5⟩, rfl⟩)
      case measure => simp [intOf]; omega
    · have hjn : j = N := by omega
      subst hjn
      have k1 : ¬ (j : Int) < (j : Int) := by omega
      have hiD : Hid (i < (delTo L k j).length) := by unfold Hid; have := HLN.out j (Nat.le_refl _) (by omega); omega
      have hlenj : Hid (j = (delTo L k j).length) := HLN.out j (Nat.le_refl _) (by omega)
      have hjc : j ≤ c := row_le S1.out.own
      clear HC HAT HST
      have i0 : (0 : Int) ≤ (i : Int) := by omega
      have i1 : (i : Int) ≤ (j : Int) := by omega
      have i2 : (i : Int) ≤ (c : Int) := by omega
      have hne : ¬ c = i := by omega
      have hji : j - i = 1 := by omega
      go_wp2_with (refine wpList_clear rfl _ 33 82 rfl Tryz.underlying33 (.agg #[.int .i64 0, .int .i64 0, .int .i64 0, .int .i64 0]) (zero_of_info Tryz.infoZV).1 volC_len volC_one S1.out.own rfl hlenj.out hiD.out _ rfl _ ⟨0, 0, 0, 0⟩ rfl zcV ?_; intro W6 ho6 hg6)
      have hij2 : i = j - 1 := by omega
      have S6 : Hid (RwV lo g (j - 1) c w (L.eraseIdx k) W6) := by
        refine ⟨?_, S1.out.grown.trans hg6, HEL.out.symm⟩
        have h7 := own_take volC_len ho6 (by rw [List.length_set]; exact hlenj.out) (m := j - 1) (by omega)
        have e : ((delTo L k j).set i ⟨0, 0, 0, 0⟩).take (j - 1) = L.eraseIdx k := by
          rw [← HEN.out, hij2]
          refine List.ext_getElem? fun q => ?_
          rw [List.getElem?_take, List.getElem?_take]
          by_cases hq : q < j - 1
          · rw [if_pos hq, if_pos hq, List.getElem?_set_ne (by omega)]
          · rw [if_neg hq, if_neg hq]
        rw [e] at h7
        exact h7
      have hcast : Hid (((j - 1 : Nat)) = i) := hij2.symm
      clear S1 ho6 hg6
      go_wp2
      go_ret
      exact ⟨by rw [hcast.out]; rfl, S6.out⟩

end Go.Proofs.YtbnhkplhmanmoaaGreat
