/-
  The landed header: Newest, of a sound table and as many heads as slots. The document's own Volume (stowageref16).
-/
import Derived.Test.YtbmgiekiildaaaaHdC9G
import Derived.Test.YtbmgiekiildaaaaTableNumsG
namespace Go.Proofs.Ytbmgiekiildaaaa
open Go.RowKit

/-- What Newest answers. -/
def NewAns (t : Tab) (hs : List Rc) (w : World) (e : Ending) (w' : World) : Prop :=
  ∃ A4 c4 A5 c5 ls, e = .returned (.tuple #[.slice A4 (cntTo t hs ls t.vs.length).length c4, .slice A5 t.vs.length c5, .int .i64 0]) ∧ (cntTo t hs ls t.vs.length).length ≤ c4 ∧ t.vs.length ≤ c5 ∧ ls.length = t.vs.length ∧ LastOK t hs ls ∧ RecsAt w' w'.heap.size A4 (cntTo t hs ls t.vs.length) ∧ Ints w' w'.heap.size .i64 A5 ls ∧ Below w.heap.size w w'
theorem cntTo_len (t : Tab) (hs : List Rc) (ls : List Int) (hb : ∀ v ∈ t.vs, v.blocks ≤ 32) : ∀ k, (cntTo t hs ls k).length ≤ 32 * k
  | 0 => Nat.le_refl _
  | k + 1 => by
    have ih := cntTo_len t hs ls hb k
    have h2 := blkTo_len (ls.getD k 0) (goodL (t.vs.getD k ⟨0, 0, 0, 0⟩) t.os hs) (t.vs.getD k ⟨0, 0, 0, 0⟩).blocks.toNat
    have h3 : (t.vs.getD k ⟨0, 0, 0, 0⟩).blocks ≤ 32 := by
      rw [List.getD_eq_getElem?_getD]
      cases hg : t.vs[k]? with
      | none => show (0 : Int) ≤ 32; decide
      | some v => exact hb v (List.mem_of_getElem? hg)
    unfold cntTo
    rw [List.length_append]
    omega
theorem vols_few {t : Tab} (h : t.sound) : t.vs.length ≤ 8 := by
  have key : ∀ (vs : List Vol) (lo : Int), vs.Pairwise (fun x y => x.id < y.id) → (∀ v ∈ vs, lo ≤ v.id ∧ v.id ≤ 7) → 0 ≤ lo → (vs.length : Int) ≤ 8 - lo ∨ vs = [] := by
    intro vs
    induction vs with
    | nil => intro _ _ _ _; exact .inr rfl
    | cons v vs ih =>
      intro lo hp hb hlo
      rw [List.pairwise_cons] at hp
      have h1 := hb v (by simp)
      rcases ih (v.id + 1) hp.2 (fun x hx => ⟨by have := hp.1 x hx; omega, (hb x (List.mem_cons_of_mem _ hx)).2⟩) (by omega) with q | q
      · left; rw [List.length_cons]; omega
      · left; rw [q]; simp; omega
  rcases key t.vs 0 h.vup (fun v hv => (h.vol v hv).1) (Int.le_refl _) with q | q
  · omega
  · rw [q]; exact Nat.zero_le _

theorem lastOK_snoc {t : Tab} {hs : List Rc} {ls : List Int} {r : Int} (h : LastOK t hs ls) (hr : ReachOK (t.vs.getD ls.length ⟨0, 0, 0, 0⟩).base (goodL (t.vs.getD ls.length ⟨0, 0, 0, 0⟩) t.os hs) r) : LastOK t hs (ls ++ [r]) := fun k hk => by
  rw [List.length_append, List.length_singleton] at hk
  by_cases q : k < ls.length
  · rw [show (ls ++ [r]).getD k 0 = ls.getD k 0 by rw [List.getD_eq_getElem?_getD, List.getD_eq_getElem?_getD, List.getElem?_append_left q]]
    exact h k q
  · have e : k = ls.length := by omega
    subst e
    rw [show (ls ++ [r]).getD ls.length 0 = r by rw [List.getD_eq_getElem?_getD, List.getElem?_append_right (Nat.le_refl _), Nat.sub_self]; rfl]
    exact hr
theorem cntTo_next {t : Tab} {hs : List Rc} {ls : List Int} {r : Int} {k : Nat} (h : ls.length = k) : cntTo t hs (ls ++ [r]) (k + 1) = cntTo t hs ls k ++ blkTo r (goodL (t.vs.getD k ⟨0, 0, 0, 0⟩) t.os hs) (t.vs.getD k ⟨0, 0, 0, 0⟩).blocks.toNat := by
  subst h
  conv => lhs; unfold cntTo
  rw [cntTo_more t hs ls r _ (Nat.le_refl _), show (ls ++ [r]).getD ls.length 0 = r by rw [List.getD_eq_getElem?_getD, List.getElem?_append_right (Nat.le_refl _), Nat.sub_self]; rfl]
theorem hdC_new7 (W U : World) (hU : W.heap.size + 1 = U.heap.size) (t : TypeId) (k a b c d : Int) (key : ByteArray) : ∀ j u, ([.int .i64 k, .int .i64 a, .int .i64 b, .int .i64 c, .int .i64 d, .string key] : List Value)[j]? = some u → (U.alloc (.cells #[.int .i64 k, .int .i64 a, .int .i64 b, .int .i64 c, .int .i64 d, .string key] t)).cell? ((⟨W.heap.size + 1, 0, none⟩ : Addr).add j) = some u := by rw [hU]; exact hdC_new6 U t k a b c d key
theorem hrecs_grown {w w' : World} {A : Option Addr} {rs : List Rc} {row : Option Nat} (h : RecsAt w w.heap.size A rs) (hg : w.grownBy w' row) (hne : ∀ a, A = some a → row ≠ some a.block) : RecsAt w' w'.heap.size A rs := fun k hk => by
  obtain ⟨b, off, e, hl, c0, c1, c2, c3, c4, c5⟩ := h k hk
  have hb := hg.block b hl (fun q => hne _ e q.symm)
  exact ⟨b, off, e, Nat.lt_of_lt_of_le hl hg.size, by rw [World.cell?_of_block hb]; exact c0, by rw [World.cell?_of_block hb]; exact c1, by rw [World.cell?_of_block hb]; exact c2, by rw [World.cell?_of_block hb]; exact c3, by rw [World.cell?_of_block hb]; exact c4, by rw [World.cell?_of_block hb]; exact c5⟩

set_option maxHeartbeats 6400000 in
set_option maxRecDepth 20000 in
/-- 'Newest'. -/
theorem hNewest_ok (V : TabW) (t : Tab) (A : Option Addr) (c : Nat) (hs : List Rc) (w : World) (h : TabAt w w.heap.size V t) (ho : t.ok) (hh : RecsAt w w.heap.size A hs) (hd : ∀ x ∈ hs, I64n x.d) (hsd : t.sound) (hl : hs.length = t.os.length) :
    Calls Try.prog 14 #[.agg (tabV V t), .slice A hs.length c] w fun e w' => NewAns t hs w e w' := by
  obtain ⟨i6, hi8, hz0, hz1, hz2⟩ := info_parts Try.infoHeadF
  obtain ⟨i1, hj8, hy0, hy1, hy2⟩ := info_parts Try.infoIntH
  obtain ⟨⟨F1, F2⟩, hrow, hb0⟩ := htab_box w V t 38
  have HCK : Hid (Calls Try.prog 26 #[.agg (tabV V t)] (w.alloc (.cells (tabV V t) 38)) fun e w' => e = .returned (.int .i64 0) ∧ Below (w.alloc (.cells (tabV V t) 38)).heap.size (w.alloc (.cells (tabV V t) 38)) w') := by
    have := check_any V t _ ((h.below hb0).more hb0.size) ho true ⟨fun _ => hsd, fun _ => rfl⟩
    rwa [if_pos rfl] at this
  have hinf : (Try.prog.info? 38).map (·.size) = some (tabV V t).size := Try.infoTabH
  have HSZ : Hid ((w.alloc (.cells (tabV V t) 38)).heap.size = w.heap.size + 1) := by unfold Hid; simp
  have HTA : Hid (∀ W, Below w.heap.size w W → VolsAt W w.heap.size V.A2 t.vs ∧ Ints W w.heap.size .i64 V.A3 t.os ∧ RecsAt W w.heap.size A hs) := fun W hb => ⟨h.vs.below hb, h.os.below hb, hh.below hb⟩
  have HSD := Lib.hid hsd
  have HDD : Hid (∀ v, ∀ x ∈ goodL v t.os hs, I64n x.d) := fun v x hx => by
    obtain ⟨s, _, e, _⟩ := (goodTo_mem hs.length).1 hx
    by_cases q : s < hs.length
    · refine hd x ?_
      rw [← e, List.getD_eq_getElem?_getD, List.getElem?_eq_getElem q]; exact List.getElem_mem _
    · rw [← e, List.getD_eq_getElem?_getD, List.getElem?_eq_none (by omega)]
      exact ⟨by decide, by decide⟩
  have HO64 : Hid (t.os.length ≤ 64) := hsd.len.2
  have HV8 := Lib.hid (vols_few hsd)
  have HVB : Hid (∀ k, k < t.vs.length → (0 ≤ (t.vs.getD k ⟨0, 0, 0, 0⟩).blocks ∧ (t.vs.getD k ⟨0, 0, 0, 0⟩).blocks ≤ 32) ∧ 0 ≤ (t.vs.getD k ⟨0, 0, 0, 0⟩).base ∧ (t.vs.getD k ⟨0, 0, 0, 0⟩).base ≤ 1099511627776) := fun k hk => by
    rw [List.getD_eq_getElem?_getD, List.getElem?_eq_getElem hk]
    exact (hsd.vol _ (List.getElem_mem hk)).2.2
  have HCL : Hid (∀ ls k, (cntTo t hs ls k).length ≤ 32 * k) := fun ls k => cntTo_len t hs ls (fun v hv => (hsd.vol v hv).2.2.1.2) k
  have HR := Lib.hid hrow
  have HB := Lib.hid hb0
  have e1 : ((hs.length : Int) != (t.os.length : Int)) = false := by rw [bne_eq_false_iff_eq]; omega
  obtain ⟨NO, hNO⟩ : ∃ N, N = t.os.length := ⟨_, rfl⟩
  have HNO := Lib.hid hNO
  rw [hl, ← hNO] at e1
  have HNH : Hid (hs.length = NO) := by rw [hNO]; exact hl
  obtain ⟨NV, hNV⟩ : ∃ N, N = t.vs.length := ⟨_, rfl⟩
  have HNV := Lib.hid hNV
  obtain ⟨X, hX⟩ : ∃ X, X = w.alloc (.cells (tabV V t) 38) := ⟨_, rfl⟩
  have HXX := Lib.hid hX
  obtain ⟨P, hP⟩ : ∃ P, P = tabV V t := ⟨_, rfl⟩
  have HF2 : Hid (∀ W : World, W.heap[w.heap.size]? = some (.cells P 38 (0, 0)) → W.cell? ⟨w.heap.size, 2, none⟩ = some (.slice V.A3 NO V.c3) ∧ W.cell? ⟨w.heap.size, 1, none⟩ = some (.slice V.A2 NV V.c2)) := fun W q => by
    rw [hP] at q
    rw [hNO, hNV]
    exact ⟨by rw [cell_of_row _ _ _ _ _ _ q]; rfl, by rw [cell_of_row _ _ _ _ _ _ q]; rfl⟩
  rw [← hX] at HCK HSZ HR HB
  simp only [← hP] at HCK HR hinf HXX
  rw [← hP, hl, ← hNO]
  clear F1 F2 hrow hb0 h ho hh hd hsd hX hP hl hNO hNV
  go_enter Try.func14, Try.ntmps14
  go_wp2_with (first
    | (rw [← HXX.out]; refine wpList_load_row rfl 38 _ rfl w.heap.size rfl 38 _ (0, 0) _ HR.out Try.underlying38 rfl hinf ?_)
    | (go_at_call 26; with_reducible (refine Calls.mono HCK.out ?_); rintro e w1 ⟨rfl, hb1⟩; have hr1 := Lib.hid ((hb1.block w.heap.size (by have := HSZ.out; omega)).trans HR.out); obtain ⟨f2, f1⟩ := HF2.out w1 hr1.out))
  have HW1 : Hid (Below (w.heap.size + 1) X w1 ∧ w.heap.size + 1 ≤ w1.heap.size ∧ Below w.heap.size w w1) := by
    have h1 := hb1.size
    have h2 := HSZ.out
    exact ⟨hb1.mono (by omega), by omega, HB.out.trans (hb1.mono (by omega))⟩
  clear hb1 f1 f2 HCK HXX hinf
  go_loopw [4, 5, 27] (fun v4 v5 i wr => ∃ (k : Nat) (ls : List Int), k ≤ NV ∧ i = .int .i64 k ∧ (∃ A c, v4 = .slice A (cntTo t hs ls k).length c) ∧ (∃ A c, v5 = .slice A k c) ∧ Hid (ls.length = k ∧ LastOK t hs ls ∧ NewS (w.heap.size + 1) w1 wr v4 v5 (cntTo t hs ls k) ls)) (fun _ _ i _ => NV - (intOf i).toNat)
  case atStart =>
    refine ⟨0, [], Nat.zero_le _, rfl, ⟨none, 0, rfl⟩, ⟨none, 0, rfl⟩, rfl, fun k hk => absurd hk (Nat.not_lt_zero k), ⟨hown_nil _ _ _, ⟨rfl, .inl ⟨rfl, rfl⟩⟩, fun q hq => (by cases hq), Below.refl _ _, HW1.out.2.1⟩⟩
  case round =>
    obtain ⟨k, ls, hk, rfl, ⟨A4, c4, rfl⟩, ⟨A5, c5, rfl⟩, hS⟩ := hrel
    by_cases hlt : k < NV
    · obtain ⟨hls, hlast, hN⟩ := hS.out
      have hbw : Below w.heap.size w wr := HW1.out.2.2.trans (hN.below.mono (Nat.le_succ _))
      obtain ⟨hva, _, _⟩ := HTA.out wr hbw
      obtain ⟨b, off, hA2, hbl, hmid⟩ := vols_mid hva (k := k) (by have := HNV.out; omega)
      have hrt := (hN.below.block w.heap.size (Nat.lt_succ_self _)).trans hr1.out
      have hsz := hN.size
      obtain ⟨⟨hv0, hv1⟩, hv2, hv3⟩ := HVB.out k (by have := HNV.out; omega)
      obtain ⟨v, hv⟩ : ∃ v, v = t.vs.getD k ⟨0, 0, 0, 0⟩ := ⟨_, rfl⟩
      rw [← hv] at hmid hv0 hv1 hv2 hv3
      have hxv : (hvC v).toArray = volV v := Array.toArray_toList
      have hrd : ReachOK v.base (goodL v t.os hs) = ReachOK (t.vs.getD ls.length ⟨0, 0, 0, 0⟩).base (goodL (t.vs.getD ls.length ⟨0, 0, 0, 0⟩) t.os hs) := by rw [hls, ← hv]
      have HNX : Hid (∀ r, ReachOK v.base (goodL v t.os hs) r → LastOK t hs (ls ++ [r]) ∧ cntTo t hs (ls ++ [r]) (k + 1) = cntTo t hs ls k ++ blkTo r (goodL v t.os hs) v.blocks.toNat) := fun r hr => ⟨lastOK_snoc hlast (by rw [← hrd]; exact hr), by rw [cntTo_next hls, ← hv]⟩
      have HGO : Hid (∀ W, Below w.heap.size w W → Calls Try.prog 27 #[.agg (volV v), .slice V.A3 NO V.c3, .slice A NO c] W fun e w' => ∃ A' c', e = .returned (.slice A' (goodL v t.os hs).length c') ∧ (goodL v t.os hs).length ≤ c' ∧ RecsAt w' w'.heap.size A' (goodL v t.os hs) ∧ (∀ a, A' = some a → W.heap.size ≤ a.block ∧ a.block < w'.heap.size) ∧ Below W.heap.size W w') := fun W hb => by
        obtain ⟨_, q2, q3⟩ := HTA.out W hb
        have := hgood_any v t.os V.A3 V.c3 A c hs W (q2.more hb.size) (q3.more hb.size) (by rw [HNH.out, HNO.out]) HO64.out
        rwa [← HNO.out, HNH.out] at this
      have HGN : Hid ((goodL v t.os hs).length ≤ 64) := by have := goodTo_len v t.os hs hs.length; have := HNH.out; have := HO64.out; have := HNO.out; unfold Hid goodL; omega
      have HGD : Hid (∀ x ∈ goodL v t.os hs, I64n x.d) := HDD.out v
      obtain ⟨L, hL⟩ : ∃ L, L = goodL v t.os hs := ⟨_, rfl⟩
      rw [← hL] at HNX HGO HGN HGD
      have hck := HCL.out ls k
      obtain ⟨C0, hC0⟩ : ∃ C, C = cntTo t hs ls k := ⟨_, rfl⟩
      rw [← hC0] at HNX hN hck ⊢
      have HRT := Lib.hid hrt
      have HSZ2 := Lib.hid hsz
      have hinfv : (Try.prog.info? 46).map (·.size) = some (volV v).size := Try.infoVolH
      obtain ⟨PV, hPV⟩ : ∃ P, P = volV v := ⟨_, rfl⟩
      have HPV : Hid (∀ W : World, W.heap[wr.heap.size]? = some (.cells PV 46 (0, 0)) → W.cell? ⟨wr.heap.size, 2, none⟩ = some (.int .i64 v.blocks) ∧ W.cell? ⟨wr.heap.size, 3, none⟩ = some (.int .i64 v.base)) := fun W q => by
        rw [hPV] at q
        exact ⟨by rw [cell_of_row _ _ _ _ _ _ q]; rfl, by rw [cell_of_row _ _ _ _ _ _ q]; rfl⟩
      obtain ⟨vb, hvb⟩ : ∃ x, x = v.blocks := ⟨_, rfl⟩
      obtain ⟨va, hva2⟩ : ∃ x, x = v.base := ⟨_, rfl⟩
      rw [← hvb] at HPV HNX hv0 hv1
      rw [← hva2] at HPV HNX hv2 hv3
      rw [← hPV] at hxv hinfv
      simp only [← hPV] at HGO
      have HPP := Lib.hid hPV
      have HN := Lib.hid hN
      have HLS := Lib.hid hls
      have HRE : Hid (∀ W A' c', RecsAt W W.heap.size A' L → Calls Try.prog 28 #[.int .i64 va, .slice A' L.length c'] W fun e w' => ∃ r, e = .returned (.int .i64 r) ∧ ReachOK va L r ∧ Below W.heap.size W w') := fun W A' c' q => hreach_any va A' c' L W q HGN.out HGD.out ⟨hv2, hv3⟩
      have HVBB := Lib.hid (And.intro hv0 hv1)
      have hk0 : (0 : Int) ≤ (k : Int) := by omega
      have hk1 : (k : Int) < (NV : Int) := by omega
      have hk8 : k < 8 := by have := HV8.out; have := HNV.out; omega
      have HBW := Lib.hid hbw
      have hone : PV.all (·.oneCell') = true := by rw [hPV]; simp [volV, Value.oneCell']
      have HSZV : Hid (∀ W : World, (W.alloc (.cells #[.int .i64 0, .int .i64 0, .int .i64 0, .int .i64 0] 46)).heap[W.heap.size]? = some (.cells #[.int .i64 0, .int .i64 0, .int .i64 0, .int .i64 0] 46 (0, 0))) := fun W => heap_alloc_new W _
      have hold : Hid ((#[.int .i64 0, .int .i64 0, .int .i64 0, .int .i64 0] : Array Value).size = PV.size) := by rw [hPV]; rfl
      rw [hA2]
      clear hS hlast hN hva hrt hsz hv hL hPV hvb hva2 hls hv0 hv1 hv2 hv3 hrd hC0 hbw hbl hA2
      go_wp2_with (first
        | (refine wpList_load_mid rfl 46 _ rfl b (off + k * 4) rfl (hvC v) _ hmid Try.underlying46 rfl Try.infoVolH ?_; rw [hxv])
        | (have hguard := HSZV; clear hguard; refine wpList_store_fresh rfl 46 _ _ rfl wr.heap.size PV rfl rfl 46 _ (HSZV.out wr) hinfv hold.out hone ((Below.refl wr.heap.size wr).alloc (Nat.le_refl _) _) (Nat.le_refl _) ?_; intro W2 hW2 hbW2 hkW2 hsW2
           have hb2 := Lib.hid hbW2
           have hp2 := Lib.hid hW2
           obtain ⟨f2, _⟩ := HF2.out W2 ((hbW2.block w.heap.size (by have := HSZ2.out; omega)).trans HRT.out)
           have hx2 := Lib.hid (HBW.out.trans (hbW2.mono HBW.out.size))
           clear hW2 hbW2 hkW2 hsW2 HSZV)
        | (refine wpList_load_row rfl 46 _ rfl wr.heap.size rfl 46 _ (0, 0) _ hp2.out Try.underlying46 rfl hinfv ?_)
        | (go_at_call 27; with_reducible (refine Calls.mono (HGO.out W2 hx2.out) ?_); rintro e w6 ⟨AL, cL, rfl, hcl, hrL, hgL, hb6⟩
           have hp6 := Lib.hid ((hb6.block _ (Array.getElem?_eq_some_iff.1 hp2.out).1).trans hp2.out)
           obtain ⟨g2, g3⟩ := HPV.out w6 hp6.out
           have h6 := Lib.hid (And.intro hgL hb6)
           clear hcl hgL hb6 HGO g2)
        | (go_at_call 28; with_reducible (refine Calls.mono (HRE.out w6 AL cL hrL) ?_); rintro e w7 ⟨r, rfl, hre, hb7⟩
           have hre7 := Lib.hid hre
           have hN7 := Lib.hid (HN.out.later (hb2.out.trans ((h6.out.2.mono hb2.out.size).trans (hb7.mono (Nat.le_trans hb2.out.size h6.out.2.size)))))
           have hp7 := Lib.hid ((hb7.block _ (Array.getElem?_eq_some_iff.1 hp6.out).1).trans hp6.out)
           have hr7 := Lib.hid ((hrL.below hb7).more hb7.size)
           have hl7 := hN7.out.lst
           rw [HLS.out] at hl7
           have h7 := Lib.hid hb7
           clear hre hb7 HRE g3 hrL)
        | (at_builtin; refine wpList_append_own_at _ rfl _ _ 36 rfl (w.heap.size + 1) 3 i1 (.int .i64 0) 1 8 Try.underlying36 hj8 hy0 hy1 hy2 rfl (by decide) _ _ _ rfl (hl7.alloc _) ⟨w7.heap.size, 0, none⟩ 1 1 [_] rfl rfl (cell_one_new _ _ _) ?c2 ?c3 ?c4 ?c5 ?_))
      case c2 => intro u hu; simp at hu; subst hu; rfl
      case c3 => unfold maxLen; have := HV8.out; have := HNV.out; omega
      case c4 => have := HV8.out; have := HNV.out; omega
      case c5 => have := hN7.out.size; simp; omega
      intro v8 w8 hown8 hgrow8 _ hob8
      obtain ⟨p, hp⟩ : ∃ p, p = wr.heap.size := ⟨_, rfl⟩
      have H5 : Hid (∀ q, (Value.slice A5 k c5).ownBlock = some q → q < p) := fun q hq => by rw [hp]; exact (HN.out.lst.lt q hq).2
      have H4 : Hid (∀ q, (Value.slice A4 C0.length c4).ownBlock = some q → q < p) := fun q hq => by rw [hp]; exact (HN.out.cnt.lt q hq).2
      have HAL : Hid (∀ a, AL = some a → p < a.block) := fun a ha => by
        have h1 := (h6.out.1 a ha).1
        have h2 := (Array.getElem?_eq_some_iff.1 hp2.out).1
        rw [hp]; omega
      have HALT : Hid (∀ a, AL = some a → a.block < w8.heap.size) := fun a ha => by
        have h1 := (h6.out.1 a ha).2
        have h2 := h7.out.size
        have h3 := hgrow8.size
        simp at h3
        omega
      have hpw : p < w7.heap.size := by rw [hp]; exact (Array.getElem?_eq_some_iff.1 hp7.out).1
      have hn7a := hN7.out.later ((Below.refl w7.heap.size w7).alloc (Nat.le_refl _) (.cells #[.int .i64 r] 3))
      have HN8 : Hid (NewS (w.heap.size + 1) w1 w8 (.slice A4 C0.length c4) v8 C0 (ls ++ [r])) := hn7a.addL (by rw [HLS.out]; exact hown8) hgrow8 (hob8.imp id fun q => by rw [q]; simp)
      have HR8 : Hid (RecsAt w8 w8.heap.size AL L) := by
        refine hrecs_grown ((hr7.out.below ((Below.refl w7.heap.size w7).alloc (Nat.le_refl _) (.cells #[.int .i64 r] 3))).more (by simp)) hgrow8 fun a ha q => ?_
        have h1 := H5.out _ q
        have h2 := HAL.out a ha
        omega
      have hp8 : w8.heap[p]? = some (.cells PV 46 (0, 0)) := by
        rw [hgrow8.block p (by simp; omega) (fun q => by have := H5.out p q.symm; omega), Below.heap_alloc _ _ _ hpw, hp]
        exact hp7.out
      have HP8 := Lib.hid hp8
      have hy2 : w8.cell? ⟨p, 2, none⟩ = some (.int .i64 vb) := by
        rw [hp] at hp8 ⊢
        exact (HPV.out w8 hp8).1
      obtain ⟨A6, c6, rfl⟩ := own_slice hown8
      obtain ⟨HNXa, HNXb⟩ := HNX.out r hre7.out
      have HXa := Lib.hid HNXa
      have HXb := Lib.hid HNXb
      have HLS2 := HLS
      have HV0 := Lib.hid (show (vb.toNat : Int) = vb by have := HVBB.out; omega)
      have HV32 : Hid (vb.toNat ≤ 32) := by have := HVBB.out; unfold Hid; omega
      have hck2 := Lib.hid hck
      rw [← hp]
      have HNA : Hid (∀ a, AL = some a → (Value.slice A4 C0.length c4).ownBlock ≠ some a.block ∧ a.block < w8.heap.size) := fun a ha => ⟨fun q => by
        have h1 := H4.out _ q
        have h2 := HAL.out a ha
        omega, HALT.out a ha⟩
      clear hown8 hgrow8 hob8 hn7a hp8 HNXa HNXb hl7 hr7 hp7 hN7 h7 h6 hp6 hx2 hp2 hb2 f2 HN HLS HRT HSZ2 HPV HBW hone hold hxv hinfv HPP hmid hck hpw H5 H4 HNX hre7 hp
      go_wp2
      go_loopw [4, 46] (fun v4 i wi => ∃ j : Nat, j ≤ vb.toNat ∧ i = .int .i64 j ∧ (∃ A c, v4 = .slice A (C0 ++ blkTo r L j).length c) ∧ Hid (NewS (w.heap.size + 1) w1 wi v4 (.slice A6 (k + 1) c6) (C0 ++ blkTo r L j) (ls ++ [r]) ∧ RecsAt wi wi.heap.size AL L ∧ (∀ a, AL = some a → v4.ownBlock ≠ some a.block ∧ a.block < wi.heap.size))) (fun _ i _ => vb.toNat - (intOf i).toNat)
      case atStart => exact ⟨0, Nat.zero_le _, rfl, ⟨A4, c4, by rw [show blkTo r L 0 = [] from rfl, List.append_nil]⟩, by rw [show blkTo r L 0 = [] from rfl, List.append_nil]; exact ⟨HN8.out, HR8.out, HNA.out⟩⟩
      case round =>
        obtain ⟨j, hj, rfl, ⟨A9, c9, rfl⟩, hS⟩ := hrel
        clear HN8 HR8 HNA
        have hbl := blkTo_len r L j
        have hlen : (C0 ++ blkTo r L j).length ≤ 32 * 8 + 64 := by rw [List.length_append]; have := hck2.out; have := HV32.out; have := HV8.out; have := HNV.out; omega
        by_cases hjb : j < vb.toNat
        · have j0 : (0 : Int) ≤ (j : Int) := by omega
          have j1 : (j : Int) < vb := by have := HV0.out; omega
          have j2 : j < 32 := by have := HV32.out; omega
          have HNE := Lib.hid (hnewest_any j r AL cL L wr hS.out.2.1 HGN.out)
          obtain ⟨x, hx⟩ : ∃ x, x = newL j r L := ⟨_, rfl⟩
          rw [← hx] at HNE
          have HXX2 := Lib.hid hx
          have HEQ : Hid (∀ W, (Op.equalIn 10000 23 (.agg (rcV x)) (.agg #[.int .i64 0, .int .i64 0, .int .i64 0, .int .i64 0, .int .i64 0, .string ⟨#[]⟩])).run Try.prog W = .ok (decide (x = hZero)) W) := fun W => eqHead_all x hZero W
          have HB12 : Hid (∀ W, Below wr.heap.size wr W → (W.alloc (.cells (rcV x) 23)).heap[W.heap.size]? = some (.cells (rcV x) 23 (0, 0)) ∧ NewS (w.heap.size + 1) w1 (W.alloc (.cells (rcV x) 23)) (.slice A9 (C0 ++ blkTo r L j).length c9) (.slice A6 (k + 1) c6) (C0 ++ blkTo r L j) (ls ++ [r]) ∧ RecsAt (W.alloc (.cells (rcV x) 23)) (W.alloc (.cells (rcV x) 23)).heap.size AL L ∧ (∀ a, AL = some a → (Value.slice A9 (C0 ++ blkTo r L j).length c9).ownBlock ≠ some a.block ∧ a.block < (W.alloc (.cells (rcV x) 23)).heap.size)) := fun W hb => by
            have h2 : Below wr.heap.size wr (W.alloc (.cells (rcV x) 23)) := hb.alloc hb.size _
            exact ⟨heap_alloc_new _ _, hS.out.1.later h2, (hS.out.2.1.below h2).more h2.size, fun a ha => ⟨(hS.out.2.2 a ha).1, Nat.lt_of_lt_of_le (hS.out.2.2 a ha).2 h2.size⟩⟩
          have hinfx : (Try.prog.info? 23).map (·.size) = some (rcV x).size := Try.infoHead
          obtain ⟨M, hM⟩ : ∃ M, M = (C0 ++ blkTo r L j).length := ⟨_, rfl⟩
          have HM := Lib.hid hM
          rw [← hM] at hlen
          simp only [← hM] at HB12
          rw [← hM]
          have HYE : Hid (x ≠ hZero → blkTo r L (j + 1) = blkTo r L j ++ [x]) := fun q => by rw [blkTo_yes (by rw [← HXX2.out]; exact q), ← HXX2.out]
          have HNO : Hid (x = hZero → blkTo r L (j + 1) = blkTo r L j) := fun q => blkTo_no (by rw [← HXX2.out]; exact q)
          have HFS : Hid (flat hdC (C0 ++ blkTo r L j) ++ hdC x = flat hdC ((C0 ++ blkTo r L j) ++ [x])) := (flat_snoc _ _).symm
          obtain ⟨xk, xa, xb, xc, xd, xs⟩ := x
          simp only [rcV] at HNE HEQ HB12
          have hinfx : (Try.prog.info? 23).map (·.size) = some (#[.int .i64 xk, .int .i64 xa, .int .i64 xb, .int .i64 xc, .int .i64 xd, .string xs] : Array Value).size := Try.infoHead
          by_cases hz : (⟨xk, xa, xb, xc, xd, xs⟩ : Rc) = hZero
          · rw [decide_eq_true hz] at HEQ
            have heq := HEQ.out
            have HE := Lib.hid (HNO.out hz)
            clear hz hx hS hbl hM HYE HNO
            go_wp2_with (first
              | (go_at_call 29; with_reducible (refine Calls.mono HNE.out ?_); rintro e w9 ⟨rfl, hb9⟩; have H12 := Lib.hid (HB12.out w9 hb9); clear hb9)
              | (refine wpList_load_row rfl 23 _ rfl w9.heap.size rfl 23 _ (0, 0) _ H12.out.1 Try.underlying23 rfl hinfx ?_))
            have R : Hid (NewS (w.heap.size + 1) w1 (w9.alloc (.cells #[.int .i64 xk, .int .i64 xa, .int .i64 xb, .int .i64 xc, .int .i64 xd, .string xs] 23)) (.slice A9 M c9) (.slice A6 (k + 1) c6) (C0 ++ blkTo r L (j + 1)) (ls ++ [r]) ∧ RecsAt (w9.alloc (.cells #[.int .i64 xk, .int .i64 xa, .int .i64 xb, .int .i64 xc, .int .i64 xd, .string xs] 23)) (w9.alloc (.cells #[.int .i64 xk, .int .i64 xa, .int .i64 xb, .int .i64 xc, .int .i64 xd, .string xs] 23)).heap.size AL L ∧ (∀ a, AL = some a → (Value.slice A9 M c9).ownBlock ≠ some a.block ∧ a.block < (w9.alloc (.cells #[.int .i64 xk, .int .i64 xa, .int .i64 xb, .int .i64 xc, .int .i64 xd, .string xs] 23)).heap.size)) := by
              rw [HE.out]; exact H12.out.2
            have HLE : Hid ((C0 ++ blkTo r L (j + 1)).length = M) := by unfold Hid; rw [HE.out, HM.out]
            go_roundw
            case rel => first | exact ⟨j + 1, by omega, by go_num, ⟨A9, c9, by rw [HLE.out]⟩, R⟩ | ((repeat apply Exists.intro); exact ⟨⟨j + 1, by omega, by go_num, ⟨A9, c9, by rw [HLE.out]⟩, R⟩, rfl⟩)
            case measure => first | (simp [intOf]; done) | (simp [intOf]; omega)
          · rw [decide_eq_false hz] at HEQ
            have heq := HEQ.out
            have HE := Lib.hid (HYE.out hz)
            clear hz hx hS hbl hM HYE HNO
            go_wp2_with (first
              | (go_at_call 29; with_reducible (refine Calls.mono HNE.out ?_); rintro e w9 ⟨rfl, hb9⟩; have H12 := Lib.hid (HB12.out w9 hb9); have hc12 := H12.out.2.1.cnt; rw [← HM.out] at hc12; clear hb9)
              | (refine wpList_load_row rfl 23 _ rfl w9.heap.size rfl 23 _ (0, 0) _ H12.out.1 Try.underlying23 rfl hinfx ?_)
              | (at_builtin; refine wpList_append_own_at _ rfl _ _ 39 rfl (w.heap.size + 1) 23 i6 (.agg #[.int .i64 0, .int .i64 0, .int .i64 0, .int .i64 0, .int .i64 0, .string ⟨#[]⟩]) 6 56 Try.underlying39 hi8 hz0 hz1 hz2 rfl (by decide) _ _ _ rfl (hc12.alloc _) ⟨w9.heap.size + 1, 0, none⟩ 1 1 [.int .i64 xk, .int .i64 xa, .int .i64 xb, .int .i64 xc, .int .i64 xd, .string xs] rfl rfl (hdC_new7 w9 _ (by simp) _ _ _ _ _ _ _) ?c2 ?c3 ?c4 ?c5 ?_))
            case c2 => intro u hu; exact hdC_one ⟨xk, xa, xb, xc, xd, xs⟩ u hu
            case c3 => unfold maxLen; omega
            case c4 => omega
            case c5 => have := H12.out.2.1.size; simp at this ⊢; omega
            intro v9 w10 hown10 hgrow10 _ hob10
            have hn12 := H12.out.2.1.later ((Below.refl (w9.alloc (.cells #[.int .i64 xk, .int .i64 xa, .int .i64 xb, .int .i64 xc, .int .i64 xd, .string xs] 23)).heap.size (w9.alloc (.cells #[.int .i64 xk, .int .i64 xa, .int .i64 xb, .int .i64 xc, .int .i64 xd, .string xs] 23))).alloc (Nat.le_refl _) (.cells #[.int .i64 xk, .int .i64 xa, .int .i64 xb, .int .i64 xc, .int .i64 xd, .string xs] 23))
            have hr12 := (H12.out.2.2.1.below ((Below.refl (w9.alloc (.cells #[.int .i64 xk, .int .i64 xa, .int .i64 xb, .int .i64 xc, .int .i64 xd, .string xs] 23)).heap.size (w9.alloc (.cells #[.int .i64 xk, .int .i64 xa, .int .i64 xb, .int .i64 xc, .int .i64 xd, .string xs] 23))).alloc (Nat.le_refl _) (.cells #[.int .i64 xk, .int .i64 xa, .int .i64 xb, .int .i64 xc, .int .i64 xd, .string xs] 23))).more (by simp : (w9.alloc (.cells #[.int .i64 xk, .int .i64 xa, .int .i64 xb, .int .i64 xc, .int .i64 xd, .string xs] 23)).heap.size ≤ ((w9.alloc (.cells #[.int .i64 xk, .int .i64 xa, .int .i64 xb, .int .i64 xc, .int .i64 xd, .string xs] 23)).alloc (.cells #[.int .i64 xk, .int .i64 xa, .int .i64 xb, .int .i64 xc, .int .i64 xd, .string xs] 23)).heap.size)
            have R : Hid (NewS (w.heap.size + 1) w1 w10 v9 (.slice A6 (k + 1) c6) (C0 ++ blkTo r L (j + 1)) (ls ++ [r]) ∧ RecsAt w10 w10.heap.size AL L ∧ (∀ a, AL = some a → v9.ownBlock ≠ some a.block ∧ a.block < w10.heap.size)) := by
              rw [HE.out, ← List.append_assoc]
              refine ⟨hn12.addC (x := ⟨xk, xa, xb, xc, xd, xs⟩) (by rw [← HM.out]; exact hown10) hgrow10 (hob10.imp id fun q => by rw [q]; simp), hrecs_grown hr12 hgrow10 (fun a ha => (H12.out.2.2.2 a ha).1), fun a ha => ⟨fun q => ?_, ?_⟩⟩
              · rcases hob10 with g | g
                · exact (H12.out.2.2.2 a ha).1 (g ▸ q)
                · rw [g] at q
                  injection q with q
                  have h9 := (H12.out.2.2.2 a ha).2
                  simp at q h9
                  omega
              · have h9 := (H12.out.2.2.2 a ha).2
                have h10 := hgrow10.size
                simp at h9 h10
                omega
            obtain ⟨A10, c10, rfl⟩ := hown_slice hown10
            have HLE : Hid ((C0 ++ blkTo r L (j + 1)).length = M + 1) := by unfold Hid; rw [HE.out, ← List.append_assoc, List.length_append, ← HM.out]; rfl
            clear hown10 hgrow10 hob10 hn12 hr12 hc12
            go_wp2
            go_roundw
            case rel => first | exact ⟨j + 1, by omega, by go_num, ⟨A10, c10, by rw [HLE.out]⟩, R⟩ | ((repeat apply Exists.intro); exact ⟨⟨j + 1, by omega, by go_num, ⟨A10, c10, by rw [HLE.out]⟩, R⟩, rfl⟩)
            case measure => first | (simp [intOf]; done) | (simp [intOf]; omega)
        · have hjv : j = vb.toNat := by omega
          have j1 : ¬ (j : Int) < vb := by have := HV0.out; omega
          have R : Hid ((ls ++ [r]).length = k + 1 ∧ LastOK t hs (ls ++ [r]) ∧ NewS (w.heap.size + 1) w1 wr (.slice A9 (C0 ++ blkTo r L j).length c9) (.slice A6 (k + 1) c6) (cntTo t hs (ls ++ [r]) (k + 1)) (ls ++ [r])) := by
            refine ⟨by rw [List.length_append, HLS2.out]; rfl, HXa.out, ?_⟩
            rw [HXb.out, ← hjv]
            exact hS.out.1
          have HLE : Hid ((C0 ++ blkTo r L j).length = (cntTo t hs (ls ++ [r]) (k + 1)).length) := by unfold Hid; rw [HXb.out, ← hjv]
          clear hS hbl hlen hjv
          go_wp2
          go_roundw
          case rel => first | exact ⟨k + 1, ls ++ [r], by omega, by go_num, ⟨A9, c9, by rw [HLE.out]⟩, ⟨A6, c6, rfl⟩, R⟩ | ((repeat apply Exists.intro); exact ⟨⟨k + 1, ls ++ [r], by omega, by go_num, ⟨A9, c9, by rw [HLE.out]⟩, ⟨A6, c6, rfl⟩, R⟩, rfl⟩)
          case measure => first | (simp [intOf]; done) | (simp [intOf]; omega)
    · have hkN : k = NV := by omega
      have k1 : ¬ (k : Int) < (NV : Int) := by omega
      have R : Hid (NewAns t hs w (.returned (.tuple #[.slice A4 (cntTo t hs ls k).length c4, .slice A5 k c5, .int .i64 0])) wr) := by
        obtain ⟨hls, hlast, hN⟩ := hS.out
        have e : k = t.vs.length := by rw [hkN]; exact HNV.out
        refine ⟨A4, c4, A5, c5, ls, by rw [← e], ?_, ?_, by rw [hls, e], hlast, ?_, ?_, HW1.out.2.2.trans (hN.below.mono (Nat.le_succ _))⟩
        · rw [← e]; exact hown_le hN.cnt
        · rw [← e, ← hls]; have := hN.lst; rw [← hls] at this; exact own_le this
        · rw [← e]; exact hrecs_of_own hN.cnt rfl
        · have := hN.lst; rw [← hls] at this; exact Ints.of_own this
      clear hS hkN
      go_wp2
      go_ret3
      exact R.out

end Go.Proofs.Ytbmgiekiildaaaa

namespace Go.Proofs.Ytbmgiekiildaaaa
open Go.RowKit

set_option maxHeartbeats 1600000 in
set_option maxRecDepth 20000 in
/-- 'Volume'. -/
theorem refVol_any (V : TabW) (t : Tab) (id : Int) (w : World) (h : TabAt w w.heap.size V t) (hm : t.vs.length ≤ 9223372036854775807) :
    Calls Try.prog 15 #[.agg (tabV V t), .int .i64 id] w fun e w' => e = .returned (.int .i64 (volI t.vs id)) ∧ Below w.heap.size w w' := by
  obtain ⟨F0, F1, F2, hb0⟩ := box_facts w (.slice V.A1 t.ts.length V.c1) (.slice V.A2 t.vs.length V.c2) (.slice V.A3 t.os.length V.c3) 38
  have HT := Lib.hid (h.vs.below hb0)
  have hle := h.l2
  obtain ⟨ts, vs, os⟩ := t
  obtain ⟨A1, c1, A2, c2, A3, c3⟩ := V
  simp only [tabV] at F0 F1 F2 hb0 HT hle hm ⊢
  obtain ⟨N, hN⟩ : ∃ N, N = ts.length := ⟨_, rfl⟩
  obtain ⟨N2, hN2⟩ : ∃ N, N = vs.length := ⟨_, rfl⟩
  obtain ⟨N3, hN3⟩ : ∃ N, N = os.length := ⟨_, rfl⟩
  rw [← hN, ← hN2, ← hN3] at F0 F1 F2 hb0 ⊢
  rw [← hN2] at hm hle
  simp only [← hN, ← hN2, ← hN3] at HT
  have HN := Lib.hid hN2
  obtain ⟨W0, hW0⟩ : ∃ W, W = w.alloc (.cells #[.slice A1 N c1, .slice A2 N2 c2, .slice A3 N3 c3] 38) := ⟨_, rfl⟩
  have HW := Lib.hid hW0
  rw [← hW0] at F0 F1 F2 hb0 HT
  clear h hN hN2 hN3
  go_enter Try.func15, Try.ntmps15
  go_wp2
  rw [← hW0]
  clear hW0
  go_loopw [5] (fun i wr => ∃ k : Nat, k ≤ N2 ∧ i = .int .i64 k ∧ Hid (∀ j, (h : j < vs.length) → j < k → vs[j].id ≠ id) ∧ wr = W0) (fun i _ => N2 - (intOf i).toNat)
  case atStart => exact ⟨0, Nat.zero_le _, rfl, fun j _ hj => absurd hj (Nat.not_lt_zero j), rfl⟩
  case round =>
    obtain ⟨k, hk, rfl, hall, rfl⟩ := hrel
    have k0 : (0 : Int) ≤ (k : Int) := by omega
    by_cases hlt : k < N2
    · have hkx : k < vs.length := by have := HN.out; omega
      have k1 : (k : Int) < (N2 : Int) := by omega
      obtain ⟨b, off, rfl, _, q0, _⟩ := HT.out k hkx
      by_cases he : vs[k].id = id
      · have HE := Lib.hid (volI_at hkx he hall.out)
        obtain ⟨p, hp⟩ : ∃ p, p = vs[k].id := ⟨_, rfl⟩
        rw [← hp] at q0 he
        have d : (p == id) = true := beq_iff_eq.2 he
        clear hp he
        go_wp2
        go_ret
        exact ⟨by rw [HE.out]; rfl, hb0⟩
      · have HYES : Hid (∀ j, (h : j < vs.length) → j < k + 1 → vs[j].id ≠ id) := fun j hj hj2 => by
          rcases Nat.lt_or_ge j k with g | g
          · exact hall.out j hj g
          · have : j = k := by omega
            subst this; exact he
        obtain ⟨p, hp⟩ : ∃ p, p = vs[k].id := ⟨_, rfl⟩
        rw [← hp] at q0 he
        have d : (p == id) = false := beq_eq_false_iff_ne.2 he
        clear hp he
        go_wp2
        go_roundw
        case rel => exact ⟨k + 1, by omega, by go_num, HYES, by first | rfl | trivial⟩
        case measure => first | (simp [intOf]; done) | (simp [intOf]; omega)
    · have hkN : k = N2 := by omega
      have HE : Hid (volI vs id = -1) := volI_no fun j hj => hall.out j hj (by have := HN.out; omega)
      have k1 : ¬ (k : Int) < (N2 : Int) := by omega
      clear hkN
      go_wp2
      go_ret
      exact ⟨by rw [HE.out]; rfl, hb0⟩

end Go.Proofs.Ytbmgiekiildaaaa
