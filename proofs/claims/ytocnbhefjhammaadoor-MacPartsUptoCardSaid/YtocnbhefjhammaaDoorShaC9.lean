/-
  'Write' of a hash.
-/
import Derived.Test.YtocnbhefjhammaaDoorShaC8
namespace Go.Proofs.YtocnbhefjhammaaDoor
open Go.RowKit

theorem Head.at72 {w : World} {g : Nat} {t : TypeId} {l beg : List Nat} {n : Nat} (h : Head w g t l (HK beg n)) (hb : beg.length = 64) : w.cell? ⟨g, 72, none⟩ = some (.int .u64 (n : Int)) := by
  rw [cell_of_row w g 72 _ t _ h.row, List.getElem?_toArray, List.getElem?_append_right (by rw [List.length_map, h.len]; decide), List.length_map, h.len]
  unfold HK
  rw [List.getElem?_append_right (by rw [List.length_map, hb]; decide), List.length_map, hb]; rfl
theorem Head.begun {w : World} {g : Nat} {t : TypeId} {l beg : List Nat} {n : Nat} (h : Head w g t l (HK beg n)) (hb : beg.length = 64) : w.rangeAt g 8 (beg.map fun z : Nat => Value.int .u8 (z : Int)) := fun j v hv => by
  have hj : j < 64 := by
    rcases Nat.lt_or_ge j 64 with h | h
    · exact h
    · rw [List.getElem?_eq_none (by rw [List.length_map, hb]; exact h)] at hv; cases hv
  rw [cell_of_row w g (8 + j) _ t _ h.row, List.getElem?_toArray, List.getElem?_append_right (by rw [List.length_map, h.len]; omega), List.length_map, h.len, Nat.add_sub_cancel_left]
  unfold HK
  rw [List.getElem?_append_left (by rw [List.length_map, hb]; exact hj)]
  exact hv
theorem Head.taken {w : World} {g : Nat} {t : TypeId} {l beg : List Nat} {n : Nat} (h : Head w g t l (HK beg n)) (hb : beg.length = 64) (m : Nat) : Head (w.setCell ⟨g, 72, none⟩ (.int .u64 (m : Int))) g t l (HK beg m) := by
  refine ⟨h.len, ?_⟩
  rw [heap_setCell_same w g 72 _ t _ h.row]
  congr 2
  unfold HK
  rw [List.setIfInBounds_toArray, List.set_append_right _ _ (by rw [List.length_map, h.len]; decide), List.length_map, h.len, List.set_append_right _ _ (by rw [List.length_map, hb]; decide), List.length_map, hb]
  rfl
theorem st_less {w : World} {g : Nat} {l beg T cs : List Nat} (h : Head w g 63 l (HK (beg.take (T.length % 64) ++ cs ++ beg.drop (T.length % 64 + cs.length)) (T.length + cs.length))) (hl : (beg.take (T.length % 64) ++ cs ++ beg.drop (T.length % 64 + cs.length)).length = 64)
    (hb : ∀ x ∈ beg.take (T.length % 64) ++ cs ++ beg.drop (T.length % 64 + cs.length), x < 256) (hbl : beg.length = 64) (hbt : beg.take (T.length % 64) = T.drop (64 * (T.length / 64))) (hs : eightOf (sumTo l 8) = blocksTo shaH T (T.length / 64)) (hm : T.length % 64 + cs.length < 64) : St w g (T ++ cs) := by
  obtain ⟨e1, e2⟩ := took_less hbl hbt hm
  refine ⟨l, _, by rw [List.length_append]; exact h, hl, hb, e2, ?_⟩
  rw [e1, blocksTo_append _ _ _ _ (by omega)]
  exact hs
theorem st_full {w : World} {g : Nat} {l beg T cs : List Nat} (h : Head w g 63 (addTo l (roundsTo (eightOf (sumTo l 8)) shaK (wordsTo (beg.take (T.length % 64) ++ cs ++ beg.drop (T.length % 64 + cs.length)) 64) 64) 8) (HK (beg.take (T.length % 64) ++ cs ++ beg.drop (T.length % 64 + cs.length)) (T.length + cs.length)))
    (hl : (beg.take (T.length % 64) ++ cs ++ beg.drop (T.length % 64 + cs.length)).length = 64)
    (hb : ∀ x ∈ beg.take (T.length % 64) ++ cs ++ beg.drop (T.length % 64 + cs.length), x < 256) (hbl : beg.length = 64) (hbt : beg.take (T.length % 64) = T.drop (64 * (T.length / 64))) (hs : eightOf (sumTo l 8) = blocksTo shaH T (T.length / 64)) (hm : T.length % 64 + cs.length = 64) : St w g (T ++ cs) := by
  obtain ⟨e1, e2, e3, e4⟩ := took_full hbl hbt hm
  refine ⟨_, _, by rw [List.length_append]; exact h, hl, hb, by rw [e2, List.take_zero, e4], ?_⟩
  rw [sum_block, e1, hs, e3]
  simp only [blocksTo]
  rw [blocksTo_append _ _ _ _ (by omega)]
/-- In the reading part of a region that draws: a whole array is loaded. -/
theorem wpStill_load_mid {P : Program} {ops : Array Oper} {w : World} {Q : Act → Prop} {rest : List Oper} {o : Oper} {a : Act} (hw : Region.wanted o (yielded ops a.tmps) = true) (ty : TypeId) (x : Operand) (ho : o.op = .load ty x)
    (b off : Nat) (hx : a.eval x = .pointer (some ⟨b, off, none⟩)) (cs : List Value) (d : TypeDesc) (hc : w.rangeAt b off cs) (hu : P.underlying ty = some d) (hd : d.isRow = true) (hi : (P.info? ty).map (·.size) = some cs.length)
    (h : wpStill P ops w Q rest (a.put o.dst (.agg cs.toArray))) : wpStill P ops w Q (o :: rest) a := by
  refine wpStill_step fun K hK => ?_
  rw [if_pos hw]
  unfold Oper.still execOp
  simp only [ho, hx, Instr.loadAt, Instr.sureAddr, Sem.run_bind, Sem.run_pure, Result.andThen_ok, run_loadVar_mid w b off ty cs d hc hu hd hi]
  exact ⟨rfl, hK _ h⟩
def lenV' : Value → Nat
  | .slice _ n _ => n
  | _ => 0

set_option maxHeartbeats 1600000 in
set_option maxRecDepth 100000 in
/-- 'Write'. -/
theorem write_any (g : Nat) (t b : List Nat) (A : Option Addr) (c : Nat) (w : World) (hL : Laid w) (hg : 0 < g ∧ 1 < g) (hs : St w g t) (hr : Near w g A b) (hA : A = none → c = 0) (hb : ∀ x ∈ b, x < 256) (hc : b.length ≤ c) (hm : t.length + b.length ≤ 281474976710656) :
    Calls Tryd.prog 23 #[.pointer (some ⟨g, 0, none⟩), .slice A b.length c] w fun e w' => e = .returned (.tuple #[]) ∧ St w' g (t ++ b) ∧ Off (· = g) w w' := by
  have HLD := Lib.hid hL
  have HGG := Lib.hid hg
  have HB := Lib.hid hb
  have HR := Lib.hid hr
  have HS := Lib.hid hs
  clear hL hg hb hr hs
  go_enter Tryd.func23, Tryd.ntmps23
  go_wp2
  go_loopw [1] (fun v wr => ∃ (k : Nat) (A' : Option Addr) (c' : Nat), k ≤ b.length ∧ v = .slice A' (b.length - k) c' ∧ Near wr g A' (b.drop k) ∧ (A' = none → c' = 0) ∧ b.length - k ≤ c' ∧ St wr g (t ++ b.take k) ∧ Off (· = g) w wr) (fun v _ => lenV' v)
  case atStart => exact ⟨0, A, c, Nat.zero_le _, rfl, HR.out, hA, hc, by rw [List.take_zero, List.append_nil]; exact HS.out, Off.refl _ _⟩
  case round =>
    obtain ⟨k, A', c', hk, rfl, hnear, hnil, hcc, ⟨l, beg, hhd, hbl, hbb, hbt, hsum⟩, hoff⟩ := hrel
    by_cases hlt : k < b.length
    · obtain ⟨T, hT⟩ : ∃ T, T = t ++ b.take k := ⟨_, rfl⟩
      obtain ⟨D, hD⟩ : ∃ D, D = b.drop k := ⟨_, rfl⟩
      have hDl : D.length = b.length - k := by rw [hD, List.length_drop]
      have hTl : T.length ≤ 281474976710656 := by rw [hT, List.length_append, List.length_take]; omega
      rw [← hT] at hhd hbt hsum
      rw [← hD] at hnear
      rw [← hDl] at hcc ⊢
      have hD0 : 0 < D.length := by omega
      obtain ⟨blk, off, e1, hblk, _, _⟩ := hnear 0 hD0
      subst e1
      obtain ⟨m, hme⟩ : ∃ m, m = T.length % 64 := ⟨_, rfl⟩
      have hm64 : m < 64 := by omega
      obtain ⟨n, hne⟩ : ∃ n, n = Nat.min D.length (64 - m) := ⟨_, rfl⟩
      have hn1 : n ≤ D.length := by rw [hne]; exact Nat.min_le_left _ _
      have hn2 : n ≤ 64 - m := by rw [hne]; exact Nat.min_le_right _ _
      have hn3 : 0 < n := by rw [hne]; exact Nat.lt_min.2 ⟨hD0, by omega⟩
      obtain ⟨M, hM⟩ : ∃ M, M = T.length := ⟨_, rfl⟩
      have c72 := hhd.at72 hbl
      rw [← hM] at c72 hme hTl
      have hmi : (M : Int) % 64 = (m : Int) := by omega
      have hmt : (M : Int).tmod 64 = (m : Int) := by rw [Int.tmod_eq_emod_of_nonneg (by omega)]; exact hmi
      have z0 : (0 : Int) ≤ (m : Int) := by omega
      have y0 : (m : Int) ≤ 64 := by omega
      have hne64 : ¬ 64 = m := by omega
      obtain ⟨d, hd⟩ : ∃ d, d = D.length := ⟨_, rfl⟩
      rw [← hd] at hcc hD0 hn1 hne ⊢
      have hD0' : (0 : Int) < (d : Int) := by omega
      have HT := Lib.hid hT
      have HD := Lib.hid hD
      have HDL := Lib.hid hDl
      have Hd := Lib.hid hd
      have HM := Lib.hid hM
      have HME := Lib.hid hme
      have HNE := Lib.hid hne
      clear hT hD hDl hd hM hme hne
      go_wp2
      go_still_tail 10, (by kernel_rfl)
      change wpList _ _ _ _ _ wr.drew
      obtain ⟨V, hV⟩ : ∃ V, V = (D.take n).map fun z : Nat => Value.int .u8 (z : Int) := ⟨_, rfl⟩
      have hDn : (D.take n).length = n := by rw [List.length_take, ← Hd.out]; omega
      have hVl : V.length = n := by rw [hV, List.length_map, hDn]
      refine wpList_copy_off rfl _ _ 22 22 rfl 5 Tryd.underlying22 (by kernel_rfl) g (8 + m) (64 - m) (64 - m) ⟨blk, off, none⟩ d c' rfl rfl ((l.map fun z : Nat => Value.int .u32 (z : Int)) ++ HK beg T.length).toArray 63 hhd.row V (by rw [hVl]; exact HNE.out) ?hsrc ?hfit ?h1 ?_
      case hsrc =>
        intro j v hv
        have hj : j < n := by
          rcases Nat.lt_or_ge j n with h | h
          · exact h
          · rw [List.getElem?_eq_none (by rw [hVl]; exact h)] at hv; cases hv
        obtain ⟨blk', off', e', _, _, hc'⟩ := hnear j (by rw [← Hd.out]; omega)
        obtain ⟨rfl, rfl⟩ : blk = blk' ∧ off = off' := by simpa using e'
        have hjd : j < D.length := by rw [← Hd.out]; omega
        rw [Addr.add_mid, World.cell?_drew, hc', ← hv, hV, List.getElem?_map, List.getElem?_take, if_pos hj, List.getElem?_eq_getElem hjd]
        simp [List.getD_eq_getElem?_getD, List.getElem?_eq_getElem hjd]
      case hfit =>
        rw [hVl]
        simp [HK, hhd.len, hbl]; omega
      case h1 => intro v hv; rw [hV] at hv; obtain ⟨z, _, rfl⟩ := List.mem_map.1 hv; rfl
      intro W hW oW
      have hHW : Head W g 63 l (HK (beg.take m ++ D.take n ++ beg.drop (m + n)) M) := by
        refine ⟨hhd.len, ?_⟩
        have h := hW.out
        have e := HK_copy l beg (D.take n) T.length m hhd.len (by rw [hDn]; omega)
        rw [hDn, ← hV] at e
        rw [hVl, List.toList_toArray, e, ← HM.out] at h
        exact h
      have hB2l : (beg.take m ++ D.take n ++ beg.drop (m + n)).length = 64 := by rw [List.length_append, List.length_append, hDn, List.length_take, List.length_drop]; omega
      have hB2b : ∀ x ∈ beg.take m ++ D.take n ++ beg.drop (m + n), x < 256 := by
        intro x hx
        rcases List.mem_append.1 hx with hx | hx
        · rcases List.mem_append.1 hx with hx | hx
          · exact hbb x (List.mem_of_mem_take hx)
          · have h := List.mem_of_mem_take hx
            rw [HD.out] at h
            exact HB.out x (List.mem_of_mem_drop h)
        · exact hbb x (List.mem_of_mem_drop hx)
      have c72W := hHW.at72 hB2l
      have f72W := hHW.free 72
      have oWW : Off (· = g) w W := hoff.trans ((Off.refl _ _).drew.trans oW)
      have hnW : Near W g (if c' = n then some ⟨blk, off, none⟩ else (some (⟨blk, off, none⟩ : Addr)).map (·.add n)) (b.drop (k + n)) := by
        have h := (hnear.off ((Off.refl _ _).drew.trans oW)).cut (n := n) (c := c') (by rw [← Hd.out]; exact hn1) (by rw [← Hd.out]; exact hcc)
        rw [HD.out, List.drop_drop] at h
        exact h
      have hTn : T ++ D.take n = t ++ b.take (k + n) := by
        rw [HT.out, HD.out, List.append_assoc, List.take_add]
      have hTl2 : (T ++ D.take n).length = M + n := by rw [List.length_append, hDn, HM.out]
      have hdk : d - n = b.length - (k + n) := by rw [Hd.out, HDL.out]; omega
      obtain ⟨B2, hB2⟩ : ∃ B2, B2 = beg.take m ++ D.take n ++ beg.drop (m + n) := ⟨_, rfl⟩
      rw [← hB2] at hHW hB2l hB2b
      have HHW := Lib.hid hHW
      have HOW := Lib.hid oWW
      have HNW := Lib.hid hnW
      have HTN := Lib.hid hTn
      have HTL2 := Lib.hid hTl2
      have HDK := Lib.hid hdk
      have HB2 := Lib.hid hB2
      have HNIL : Hid ((if c' = n then some (⟨blk, off, none⟩ : Addr) else (some (⟨blk, off, none⟩ : Addr)).map (·.add n)) = none → c' - n = 0) := by
        intro h; split at h <;> cases h
      have n0 : (0 : Int) ≤ (n : Int) := by omega
      have nd : (n : Int) ≤ (d : Int) := by omega
      have nc : (n : Int) ≤ (c' : Int) := by omega
      have nw : IntKind.u64.wrap (n : Int) = (n : Int) := IntWalk.u64_in _ (by omega)
      have sw : IntKind.u64.wrap ((M : Int) + (n : Int)) = (M : Int) + (n : Int) := IntWalk.u64_in _ (by omega)
      have hMn : m = M % 64 := HME.out
      clear hW oW hHW oWW hnW hTn hTl2 hdk hB2 c72 hoff hnear hV
      have hgo : goInt (V.length : Int) = Value.int .i64 (n : Int) := by rw [hVl]; rfl
      rw [hgo]
      clear hgo hVl
      simp only [Act.put, List.setIfInBounds_toArray, List.set_cons_succ, List.set_cons_zero]
      by_cases hfull : m + n = 64
      · have htm : ((M : Int) + (n : Int)).tmod 64 = 0 := by rw [Int.tmod_eq_emod_of_nonneg (by omega)]; omega
        have hte : ((M : Int) + (n : Int)) % 64 = 0 := by omega
        have hkn : k + n ≤ b.length := by have := HDL.out; have := Hd.out; omega
        have hq3 : (if c' = n then some (⟨blk, off, none⟩ : Addr) else (some (⟨blk, off, none⟩ : Addr)).map (·.add n)) = some ⟨blk, off, none⟩ ∧ c' = n ∨ (if c' = n then some (⟨blk, off, none⟩ : Addr) else (some (⟨blk, off, none⟩ : Addr)).map (·.add n)) = some ⟨blk, off + n, none⟩ ∧ ¬ c' = n := by
          by_cases hq : c' = n
          · exact Or.inl ⟨if_pos hq, hq⟩
          · exact Or.inr ⟨by rw [if_neg hq, Option.map_some, Addr.add_mid], hq⟩
        have HQ3 := Lib.hid hq3
        obtain ⟨W3, hW3⟩ : ∃ W3, W3 = W.setCell ⟨g, 72, none⟩ (.int .u64 ((M : Int) + (n : Int))) := ⟨_, rfl⟩
        have hH3 : Head W3 g 63 l (HK B2 (M + n)) := by rw [hW3]; exact HHW.out.taken hB2l (M + n)
        have oW3 : Off (· = g) w W3 := by rw [hW3]; exact HOW.out.set 72 _
        have nW3 := HNW.out.off (w' := W3) (by rw [hW3]; exact (Off.refl _ _).set 72 _)
        have hLW := HLD.out.off oW3.drew (fun q hq => by rw [hq]; exact HGG.out)
        have hTK := take_any g 63 l B2 (HK B2 (M + n)) W3.drew hLW hB2b hB2l (hH3.keep rfl)
        have hST : ∀ W4, Head W4 g 63 (addTo l (roundsTo (eightOf (sumTo l 8)) shaK (wordsTo B2 64) 64) 8) (HK B2 (M + n)) → St W4 g (t ++ b.take (k + n)) := by
          intro W4 hh
          rw [← HTN.out]
          have e1 : T.length % 64 = m := by rw [HME.out, HM.out]
          rw [HB2.out] at hB2l hB2b hh
          refine st_full (beg := beg) (l := l) ?_ ?_ ?_ hbl hbt hsum ?_
          · rw [e1, hDn, ← HM.out]; exact hh
          · rw [e1, hDn]; exact hB2l
          · rw [e1, hDn]; exact hB2b
          · rw [e1, hDn]; omega
        have hld : W3.drew.rangeAt g 8 (B2.map fun z : Nat => Value.int .u8 (z : Int)) := hH3.begun hB2l
        have hinf : (Tryd.prog.info? 35).map (·.size) = some (B2.map fun z : Nat => Value.int .u8 (z : Int)).length := by rw [List.length_map, hB2l]; kernel_rfl
        have HLD2 := Lib.hid hld
        have HINF := Lib.hid hinf
        unfold BA at hTK
        have HTK := Lib.hid hTK
        have HST := Lib.hid hST
        have HW3 := Lib.hid hW3
        have O3 := Lib.hid oW3
        have N3 := Lib.hid nW3
        clear hTK hST hW3 oW3 nW3 hLW hH3 hsum hbt hhd hbl hbb hld hinf hMn hmi hmt hfull y0 z0 hne64
        by_cases hq : c' = n
        · go_wp2
          rw [← HW3.out]
          refine wp_region_still_tail 7 (by kernel_rfl) (by kernel_rfl) ?_
          simp only [List.take_succ_cons, List.take_zero, List.drop_succ_cons, List.drop_zero]
          iterate 6 still_step
          refine wpStill_load_mid (by rfl) 35 (.tmp 44) rfl g 8 rfl _ _ HLD2.out Tryd.underlying35 rfl HINF.out ?_
          refine wpStill_nil ?_
          change wpList _ _ _ _ _ W3.drew
          go_wp2_with (go_at_call 28; with_reducible (refine Calls.mono HTK.out ?_); rintro e W4 ⟨rfl, hH4, hO4⟩)
          have hNE := N3.out.off ((Off.refl _ _).drew.trans hO4)
          rw [if_pos hq] at hNE
          refine ⟨⟨k + n, _, _, hkn, by rw [HDK.out], hNE, (fun h => rfl), by have := HDK.out; omega, HST.out _ hH4, O3.out.trans ((Off.refl _ _).drew.trans hO4)⟩, ?_⟩
          show d - n < d
          omega
        · have hq2 : ¬ (c' : Int) = (n : Int) := by omega
          go_wp2
          rw [← HW3.out]
          refine wp_region_still_tail 7 (by kernel_rfl) (by kernel_rfl) ?_
          simp only [List.take_succ_cons, List.take_zero, List.drop_succ_cons, List.drop_zero]
          iterate 6 still_step
          refine wpStill_load_mid (by rfl) 35 (.tmp 44) rfl g 8 rfl _ _ HLD2.out Tryd.underlying35 rfl HINF.out ?_
          refine wpStill_nil ?_
          change wpList _ _ _ _ _ W3.drew
          go_wp2_with (go_at_call 28; with_reducible (refine Calls.mono HTK.out ?_); rintro e W4 ⟨rfl, hH4, hO4⟩)
          have hNE := N3.out.off ((Off.refl _ _).drew.trans hO4)
          rw [if_neg hq, Option.map_some, Addr.add_mid] at hNE
          refine ⟨⟨k + n, _, _, hkn, by rw [HDK.out], hNE, (fun h => by cases h), by have := HDK.out; omega, HST.out _ hH4, O3.out.trans ((Off.refl _ _).drew.trans hO4)⟩, ?_⟩
          show d - n < d
          omega
      · obtain ⟨q, hqe⟩ : ∃ q, q = m + n := ⟨_, rfl⟩
        have htm : ((M : Int) + (n : Int)).tmod 64 = (q : Int) := by rw [Int.tmod_eq_emod_of_nonneg (by omega)]; omega
        have hte : ((M : Int) + (n : Int)) % 64 = (q : Int) := by omega
        have htb : ((q : Int) == 0) = false := by simp; omega
        have htn : ¬ ((q : Int) = 0) := by omega
        have hq64 : (q : Int) ≤ 64 := by omega
        have hq0 : (0 : Int) ≤ (q : Int) := by omega
        have HQE := Lib.hid hqe
        clear hqe
        have hST : St (W.setCell ⟨g, 72, none⟩ (.int .u64 ((M : Int) + (n : Int)))) g (t ++ b.take (k + n)) := by
          rw [← HTN.out]
          have hh := HHW.out.taken hB2l (M + n)
          rw [HB2.out] at hB2l hB2b hh
          have e1 : T.length % 64 = m := by rw [HME.out, HM.out]
          refine st_less (beg := beg) (l := l) ?_ ?_ ?_ hbl hbt hsum ?_
          · rw [e1, hDn, ← HM.out]; exact hh
          · rw [e1, hDn]; exact hB2l
          · rw [e1, hDn]; exact hB2b
          · rw [e1, hDn]; omega
        have hOF : Off (· = g) w (W.setCell ⟨g, 72, none⟩ (.int .u64 ((M : Int) + (n : Int)))) := HOW.out.set 72 _
        have hNE : Near (W.setCell ⟨g, 72, none⟩ (.int .u64 ((M : Int) + (n : Int)))) g (if c' = n then some ⟨blk, off, none⟩ else (some (⟨blk, off, none⟩ : Addr)).map (·.add n)) (b.drop (k + n)) := HNW.out.off ((Off.refl _ _).set 72 _)
        have hkn : k + n ≤ b.length := by have := HDL.out; have := Hd.out; omega
        have R := Lib.hid (And.intro hST (And.intro hOF hNE))
        have hnil2 := HNIL.out
        clear hST hOF hNE hsum hbt hhd hbl hbb
        by_cases hq : c' = n
        · go_wp2
          obtain ⟨hST, hOF, hNE⟩ := R.out
          rw [if_pos hq] at hNE
          refine ⟨⟨k + n, _, _, hkn, by rw [HDK.out], hNE, (fun h => rfl), by have := HDK.out; omega, hST, hOF⟩, ?_⟩
          show d - n < d
          omega
        · have hq2 : ¬ (c' : Int) = (n : Int) := by omega
          go_wp2
          obtain ⟨hST, hOF, hNE⟩ := R.out
          rw [if_neg hq, Option.map_some, Addr.add_mid] at hNE
          refine ⟨⟨k + n, _, _, hkn, by rw [HDK.out], hNE, (fun h => by cases h), by have := HDK.out; omega, hST, hOF⟩, ?_⟩
          show d - n < d
          omega
    · have hkb : k = b.length := by omega
      subst hkb
      rw [List.take_length] at hsum hbt hhd
      have hfin : St wr g (t ++ b) := ⟨l, beg, hhd, hbl, hbb, hbt, hsum⟩
      have hz : ¬ ((0 : Int) < ((b.length - b.length : Nat) : Int)) := by omega
      clear hsum hbt hhd hbl hbb hlt
      go_wp2
      exact bodyPost_end (results_none rfl _ _ _) rfl ⟨rfl, hfin, hoff⟩

end Go.Proofs.YtocnbhefjhammaaDoor
