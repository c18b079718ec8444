/-
  The law LineTurned as a walk, from what is asked of the layer line.
-/
import Derived.Test.YtbfchclfonicmaaLineApart
namespace Go.Proofs.Ytbfchclfonicmaa
open Go.RowKit

theorem byteCastL (t k : Nat) : (t : Int) / 2 ^ (8 * k) % 256 = ((t / 256 ^ k % 256 : Nat) : Int) := by
  rw [Int.natCast_emod, Int.natCast_ediv, Int.natCast_pow, Int.pow_mul]; rfl

set_option maxHeartbeats 1600000 in
set_option maxRecDepth 20000 in
/-- Nothing is turned. -/
theorem lineTurned_no (l : Ln) (at_ t : Nat) (w : World) (HS : LineSpec w) (ho : l.ok) (h : encE l ≠ 0 ∨ t = 0) :
    Calls Try.prog 6 #[.agg (lnV l), .int .u16 (at_ : Int), .int .u32 (t : Int)] w fun e w' => e = .returned (.bool true) ∧ Below w.heap.size w w' := by
  have HA := Lib.hid (fun W (hb : Below w.heap.size w W) => lineAwake HS W hb)
  have H1 := Lib.hid (fun W (hb : Below w.heap.size w W) => HS.encAny l W hb ho)
  have hinf : (Try.prog.info? 25).map (·.size) = some (lnV l).size := Try.infoLine
  have HR : Hid (∀ o : Array Value, (w.alloc (.cells o 25)).heap[w.heap.size]? = some (.cells o 25 (0, 0)) ∧ Below w.heap.size w (w.alloc (.cells o 25))) := fun o => ⟨heap_alloc_new w _, (Below.refl _ _).alloc (Nat.le_refl _) _⟩
  obtain ⟨V, hV⟩ : ∃ V, V = lnV l := ⟨_, rfl⟩
  rw [← hV] at hinf ⊢
  simp only [← hV] at H1
  obtain ⟨E, hE⟩ : ∃ E, E = encE l := ⟨_, rfl⟩
  rw [← hE] at h
  simp only [← hE] at H1
  obtain ⟨X, hX⟩ : ∃ X, X = (encR l).2 := ⟨_, rfl⟩
  simp only [← hX] at H1
  clear HS ho hV hE hX
  by_cases hE : E = 0
  · subst hE
    have ht : t = 0 := by omega
    subst ht
    clear h
    go_enter Try.func6, Try.ntmps6
    go_wp2_with (first
      | (refine wpList_load_row rfl 25 _ rfl w.heap.size rfl 25 _ (0, 0) _ (HR.out V).1 Try.underlying25 rfl hinf ?_)
      | (go_at_call 10; with_reducible (refine Calls.mono (H1.out _ (HR.out V).2) ?_); rintro e w1 ⟨A1, c1, rfl, hi1, hb1⟩; have hx1 := (HR.out V).2.trans (hb1.mono (HR.out V).2.size))
      | (have hguard := hx2; clear hguard; go_at_call 12; with_reducible (refine Calls.mono (HA.out _ hx2) ?_); rintro e w3 ⟨rfl, hb3⟩; have hx3 := hx2.trans (hb3.mono hx2.size))
      | (have hguard := hx1; clear hguard; go_at_call 12; with_reducible (refine Calls.mono (HA.out _ hx1) ?_); rintro e w2 ⟨rfl, hb2⟩; have hx2 := hx1.trans (hb2.mono hx1.size)))
    go_ret
    exact ⟨rfl, hx3⟩
  · have d1 : (E != 0) = true := by rw [bne_iff_ne]; exact hE
    have d2 : (E == 0) = false := by rw [beq_eq_false_iff_ne]; exact hE
    clear h hE
    go_enter Try.func6, Try.ntmps6
    go_wp2_with (first
      | (refine wpList_load_row rfl 25 _ rfl w.heap.size rfl 25 _ (0, 0) _ (HR.out V).1 Try.underlying25 rfl hinf ?_)
      | (go_at_call 10; with_reducible (refine Calls.mono (H1.out _ (HR.out V).2) ?_); rintro e w1 ⟨A1, c1, rfl, hi1, hb1⟩; have hx1 := (HR.out V).2.trans (hb1.mono (HR.out V).2.size))
      | (have hguard := hx2; clear hguard; go_at_call 12; with_reducible (refine Calls.mono (HA.out _ hx2) ?_); rintro e w3 ⟨rfl, hb3⟩; have hx3 := hx2.trans (hb3.mono hx2.size))
      | (have hguard := hx1; clear hguard; go_at_call 12; with_reducible (refine Calls.mono (HA.out _ hx1) ?_); rintro e w2 ⟨rfl, hb2⟩; have hx2 := hx1.trans (hb2.mono hx1.size)))
    go_ret
    exact ⟨rfl, hx3⟩

set_option maxHeartbeats 3200000 in
set_option maxRecDepth 20000 in
theorem lineTurned_yes (l : Ln) (at_ t : Nat) (w : World) (HS : LineSpec w) (hE : encE l = 0) (h0 : t ≠ 0) (ht : t < 4294967296) (ha : at_ < 65536) :
    Calls Try.prog 6 #[.agg (lnV l), .int .u16 (at_ : Int), .int .u32 (t : Int)] w fun e w' => e = .returned (.bool true) ∧ Below w.heap.size w w' := by
  have HA := Lib.hid (fun W (hb : Below w.heap.size w W) => lineAwake HS W hb)
  have H1 := Lib.hid (fun W (hb : Below w.heap.size w W) => HS.enc l W hb (enc_ok hE) hE)
  have hel := encB_len hE
  have hem := encB_mem l
  obtain ⟨i, hi⟩ : ∃ i : Nat, (i : Int) = (at_ : Int) % 57 := ⟨at_ % 57, by omega⟩
  have hi56 : i ≤ 56 := by omega
  have HTD := Lib.hid (turned_dec (l := l) hE (i := i) (t := t) (by omega) (by omega) h0)
  have H2 : Hid (∀ (W : World) (A : Option Addr) (c : Nat), Below w.heap.size w W → Ints W W.heap.size .u8 A (turned (encB l) i t 4) → 64 ≤ c → Calls Try.prog 13 #[.slice A 64 c] W fun e w' => e = .returned (.tuple #[.agg zeroV, .int .i64 2]) ∧ Below W.heap.size W w') := fun W A c hb hI hc => by
    have h := HS.dec A c (turned (encB l) i t 4) W hb hI (turned_mem _ i t 4 hem) (by rw [turned_len, hel]; exact hc) (by rw [turned_len, hel]; decide)
    rw [HTD.out, turned_len, hel] at h
    exact h
  have hinf : (Try.prog.info? 25).map (·.size) = some (lnV l).size := Try.infoLine
  have hinf2 : (Try.prog.info? 25).map (·.size) = some zeroV.size := Try.infoLine
  have hone2 : zeroV.all (·.oneCell') = true := lnV_one zeroL
  have hold2 : Hid (9 = zeroV.size) := rfl
  have HNEW := Lib.hid (fun W : World => heap_alloc_new W (.cells #[.int .i64 0, .int .i64 0, .bool false, .int .i64 0, .int .i64 0, .int .i64 0, .int .i64 0, .int .i64 0, .string ⟨#[]⟩] 25))
  have HAL := Lib.hid (fun W : World => (Below.refl W.heap.size W).alloc (Nat.le_refl _) (.cells #[.int .i64 0, .int .i64 0, .bool false, .int .i64 0, .int .i64 0, .int .i64 0, .int .i64 0, .int .i64 0, .string ⟨#[]⟩] 25))
  have HR : Hid (∀ o : Array Value, (w.alloc (.cells o 25)).heap[w.heap.size]? = some (.cells o 25 (0, 0)) ∧ Below w.heap.size w (w.alloc (.cells o 25))) := fun o => ⟨heap_alloc_new w _, (Below.refl _ _).alloc (Nat.le_refl _) _⟩
  have heq : ∀ W, (Op.equalIn 10000 25 (.agg zeroV) (.agg zeroV)).run Try.prog W = .ok true W := fun W => (eqLine_all zeroL zeroL W).trans (by rw [decide_eq_true rfl])
  have heq2 : ∀ W, (Op.equalIn 10000 25 (.agg zeroV) (.agg #[.int .i64 0, .int .i64 0, .bool false, .int .i64 0, .int .i64 0, .int .i64 0, .int .i64 0, .int .i64 0, .string ⟨#[]⟩])).run Try.prog W = .ok true W := heq
  have HTS : Hid (∀ k, (turned (encB l) i t k).set (i + k) ((((encB l).getD (i + k) 0).toNat ^^^ (t / 256 ^ k % 256) : Nat) : Int) = turned (encB l) i t (k + 1)) := fun k => turned_succ _ i t k
  have HTA : Hid (∀ k, k < 4 → (turned (encB l) i t k).getD (i + k) 0 = (encB l).getD (i + k) 0) := fun k hk => turned_at _ i t k (by rw [hel]; omega)
  have HTL : Hid (∀ k, (turned (encB l) i t k).length = 64) := fun k => by rw [turned_len, hel]
  have HT0 : Hid (turned (encB l) i t 0 = encB l) := turned_zero _ i t
  have HBY : Hid (∀ k, k < 4 → 0 ≤ (encB l).getD (i + k) 0 ∧ (encB l).getD (i + k) 0 ≤ 255) := fun k hk => hem _ (getD_mem (by rw [hel]; omega))
  obtain ⟨V, hV⟩ : ∃ V, V = lnV l := ⟨_, rfl⟩
  rw [← hV] at hinf ⊢
  simp only [← hV] at H1
  obtain ⟨X, hX⟩ : ∃ X, X = encB l := ⟨_, rfl⟩
  simp only [← hX] at H1 H2 HTS HTA HTL HT0 HBY
  obtain ⟨TT, hTT⟩ : ∃ T : Nat → List Int, T = fun k => turned X i t k := ⟨_, rfl⟩
  have hTTk : ∀ k, turned X i t k = TT k := fun k => by rw [hTT]
  simp only [hTTk] at H2 HTS HTA HTL HT0
  have H6 : ((t : Int) == 0) = false := by rw [beq_eq_false_iff_ne]; omega
  have hmod : (at_ : Int) % 57 = (i : Int) := hi.symm
  have hmod2 : Int.tmod (at_ : Int) 57 = (i : Int) := by rw [Int.tmod_eq_emod_of_nonneg (by omega)]; exact hi.symm
  have ht2 : (t : Int) ≤ 4294967295 := by omega
  clear HS hE h0 hel hem hi HTD hV hX hTT hTTk
  go_enter Try.func6, Try.ntmps6
  go_wp2_with (first
    | (refine wpList_load_row rfl 25 _ rfl w.heap.size rfl 25 _ (0, 0) _ (HR.out V).1 Try.underlying25 rfl hinf ?_)
    | (go_at_call 10; with_reducible (refine Calls.mono (H1.out _ (HR.out V).2) ?_); rintro e w1 ⟨A1, c1, rfl, hc1, _, hg1, hb1⟩; have hx1 := (HR.out V).2.trans (hb1.mono (HR.out V).2.size); unfold GotI at hg1; obtain ⟨g, o, rfl, hgb, hgl, hcells⟩ := hg1; have HCE := Lib.hid hcells; clear hcells)
    | (go_at_call 12; with_reducible (refine Calls.mono (HA.out _ hx1) ?_); rintro e w2 ⟨rfl, hb2⟩; have hx2 := hx1.trans (hb2.mono hx1.size)))
  have hgw : w.heap.size ≤ g := Nat.le_trans (HR.out V).2.size hgb
  have hg2 : g < w2.heap.size := Nat.lt_of_lt_of_le hgl hb2.size
  have HROW : Hid (∀ j, j < 64 → w2.cell? ⟨g, o + j, none⟩ = some (.int .u8 (X.getD j 0)) ∧ w2.frozen? ⟨g, o + j, none⟩ = false) := fun j hj => by
    have h := HCE.out j (by have := HTL.out 0; rw [HT0.out] at this; omega)
    exact ⟨(hb2.cell (p := ⟨g, o + j, none⟩) hgl).trans h.1, by rw [World.frozen?_of_block (w' := w2) (w := w1) (a := ⟨g, o + j, none⟩) (hb2.block g hgl)]; exact h.2⟩
  have HX2 := Lib.hid hx2
  clear HCE hx1 hx2 hb1 hb2 hgb hgl
  go_loopw [10] (fun k wr => ∃ n : Nat, n ≤ 4 ∧ k = .int .i64 n ∧ Hid ((∀ j, j < 64 → wr.cell? ⟨g, o + j, none⟩ = some (.int .u8 ((TT n).getD j 0)) ∧ wr.frozen? ⟨g, o + j, none⟩ = false) ∧ g < wr.heap.size ∧ Below w.heap.size w wr)) (fun k _ => 4 - (intOf k).toNat)
  case atStart => exact ⟨0, by omega, rfl, by rw [HT0.out]; exact ⟨HROW.out, hg2, HX2.out⟩⟩
  case round =>
    obtain ⟨n, hn, rfl, hS⟩ := hrel
    clear HROW HX2
    by_cases hn4 : n < 4
    · obtain ⟨hcs, hgr, hbel⟩ := hS.out
      obtain ⟨hcell, hfz⟩ := hcs (i + n) (by omega)
      rw [HTA.out n hn4] at hcell
      have hyb := HBY.out n hn4
      have hset := HTS.out n
      obtain ⟨y, hy'⟩ : ∃ y : Nat, (y : Int) = X.getD (i + n) 0 := ⟨(X.getD (i + n) 0).toNat, by omega⟩
      rw [← hy'] at hcell hyb hset
      have HSET := Lib.hid hset
      have HCS := Lib.hid hcs
      have HBL := Lib.hid hbel
      have e1 : ((i : Int) + (n : Int)).toNat = i + n := by omega
      have hq0 : (0 : Int) ≤ (i : Int) + (n : Int) := by omega
      have hq1 : (i : Int) + (n : Int) < 64 := by omega
      have hs0 : (0 : Int) ≤ 8 * (n : Int) := by omega
      have hs1 : 8 * (n : Int) ≤ 32 := by omega
      clear hy' hset hcs hS hbel
      go_wp2
      go_region
      all_goals
        go_wp2
        go_roundw
        case rel =>
          have ev : bits .xor .u8 (y : Int) ((t : Int) / 2 ^ (8 * n) % 256) = ((y ^^^ (t / 256 ^ n % 256) : Nat) : Int) := by
            rw [byteCastL]; exact u8_xor_nat _ _ (by omega) (by omega)
          rw [ev]
          have hs' : (TT n).set (i + n) ((y ^^^ (t / 256 ^ n % 256) : Nat) : Int) = TT (n + 1) := HSET.out
          refine ⟨n + 1, by omega, by go_num, ⟨fun j hj => ?_, ?_, ?_⟩⟩
          · rw [← hs']
            by_cases hji : j = i + n
            · subst hji
              refine ⟨?_, ?_⟩
              · have h1 : (TT n).length = 64 := HTL.out n
                have h2 : ((TT n).set (i + n) ((y ^^^ (t / 256 ^ n % 256) : Nat) : Int)).getD (i + n) 0 = ((y ^^^ (t / 256 ^ n % 256) : Nat) : Int) := by
                  rw [List.getD_eq_getElem?_getD, List.getElem?_set_self (by omega)]; rfl
                rw [h2]
                exact World.cell?_setCell_same wr _ _ hcell
              · exact (World.frozen?_setCell wr _ _ _).trans hfz
            · obtain ⟨k1, k2⟩ := HCS.out j hj
              refine ⟨?_, (World.frozen?_setCell wr _ _ _).trans k2⟩
              have h2 : ((TT n).set (i + n) ((y ^^^ (t / 256 ^ n % 256) : Nat) : Int)).getD j 0 = (TT n).getD j 0 := by
                rw [List.getD_eq_getElem?_getD, List.getElem?_set_ne (by omega), ← List.getD_eq_getElem?_getD]
              rw [h2]
              exact (World.cell?_setCell_other wr _ _ _ (fun e => by injection e with _ e2 _; omega)).trans k1
          · simpa [World.setCell] using hgr
          · exact (HBL.out.setCell (p := ⟨g, o + (i + n), none⟩) hgw _).drew
        case measure => simp [intOf]; omega
    · have hn' : n = 4 := by omega
      subst hn'
      obtain ⟨hcs, hgr, hbel⟩ := hS.out
      have hI : Ints wr wr.heap.size .u8 (some ⟨g, o, none⟩) (TT 4) := fun j hj => ⟨g, o, rfl, hgr, (hcs j (by have := HTL.out 4; omega)).1⟩
      have HDC := Lib.hid (H2.out wr (some ⟨g, o, none⟩) c1 hbel hI hc1)
      have HBL := Lib.hid hbel
      clear hcs hS hbel hI H2
      go_wp2_with (first
        | (go_at_call 13; with_reducible (refine Calls.mono HDC.out ?_); rintro e w5 ⟨rfl, hb5⟩; have hx5 := HBL.out.trans (hb5.mono HBL.out.size))
        | (have hguard := hx5; clear hguard; refine wpList_store_fresh rfl 25 _ _ rfl w5.heap.size zeroV rfl rfl 25 _ (HNEW.out w5) hinf2 hold2.out hone2 (HAL.out w5) (Nat.le_refl _) ?_; intro W6 hW6 hbW6 hkW hsW; have hx6 := hx5.trans (hbW6.mono hx5.size); have HW6 := Lib.hid hW6; clear hkW hsW hW6)
        | (refine wpList_load_when rfl 25 _ rfl w5.heap.size rfl 25 _ HW6.out Try.underlying25 rfl hinf2 ?_))
      go_ret
      exact ⟨rfl, hx6⟩

/-- LineTurned. -/
theorem lineTurned_go (l : Ln) (at_ t : Nat) (w : World) (HS : LineSpec w) (ho : l.ok) (ht : t < 4294967296) (ha : at_ < 65536) :
    Calls Try.prog 6 #[.agg (lnV l), .int .u16 (at_ : Int), .int .u32 (t : Int)] w fun e w' => e = .returned (.bool true) ∧ Below w.heap.size w w' := by
  by_cases h : encE l ≠ 0 ∨ t = 0
  · exact lineTurned_no l at_ t w HS ho h
  · exact lineTurned_yes l at_ t w HS (by omega) (by omega) ht ha

end Go.Proofs.Ytbfchclfonicmaa
