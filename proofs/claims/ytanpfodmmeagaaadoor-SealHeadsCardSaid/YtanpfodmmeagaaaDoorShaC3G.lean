/-
  The numbers of a block. What the package's two variables hold: the words ahead of any block, and what each step adds. The words that stand now.
-/
import Derived.Test.YtanpfodmmeagaaaDoorShaC1G
import Derived.Test.YtanpfodmmeagaaaDoorWordsG
import Derived.Test.YtanpfodmmeagaaaDoorShaNumsG
namespace Go.Proofs.YtanpfodmmeagaaaDoor
open Go.RowKit

def none64 : List Nat := List.replicate 64 0
theorem nr_next (l : List Nat) (k x : Nat) : (l ++ List.replicate (k + 1) 0).set l.length x = (l ++ [x]) ++ List.replicate k 0 := by
  rw [List.set_append_right _ _ (Nat.le_refl _), Nat.sub_self, List.replicate_succ, List.set_cons_zero, List.append_assoc]; rfl
theorem nr_at (l : List Nat) (k i : Nat) (h : i < l.length) : (l ++ List.replicate k 0).getD i 0 = l.getD i 0 := by
  rw [List.getD_eq_getElem?_getD, List.getD_eq_getElem?_getD, List.getElem?_append_left h]
theorem get4 (b : List Nat) (i : Nat) (h : i + 4 ≤ b.length) : getE (up (b.drop i)) 4 = 0 ∧ getV (up (b.drop i)) 4 = (be4 b i : Nat) := by
  have hl : (up (b.drop i)).length = b.length - i := by rw [up_len, List.length_drop]
  have e : getE (up (b.drop i)) 4 = 0 := by
    unfold getE
    rw [if_pos (by decide), if_neg (by rw [hl]; omega)]
  refine ⟨e, ?_⟩
  unfold getV
  rw [if_pos e]
  have ht : (up (b.drop i)).take (4 : Int).toNat = [((b.getD i 0 : Nat) : Int), ((b.getD (i + 1) 0 : Nat) : Int), ((b.getD (i + 2) 0 : Nat) : Int), ((b.getD (i + 3) 0 : Nat) : Int)] := by
    apply List.ext_getElem
    · simp [hl]; omega
    · intro j h1 h2
      have hj : j < 4 := by simpa using h2
      have hb : i + j < b.length := by omega
      have : j = 0 ∨ j = 1 ∨ j = 2 ∨ j = 3 := by omega
      rcases this with rfl | rfl | rfl | rfl <;> simp_all [up, List.getD_eq_getElem?_getD]
  rw [ht]
  simp only [valOf, List.foldl_cons, List.foldl_nil, be4]
  omega

set_option maxHeartbeats 1600000 in
set_option maxRecDepth 100000 in
/-- 'numbers'. -/
theorem numbers_any (b : List Nat) (w : World) (hb : ∀ x ∈ b, x < 256) (hl : b.length = 64) :
    Calls Tryd.prog 83 #[.agg (BA b)] w fun e w' => e = .returned (.agg (U (wordsTo b 64))) ∧ Below w.heap.size w w' := by
  have hz := (zero_of_info (P := Tryd.prog) (t := 131) (v := .agg (U none64)) (n := 64) (by kernel_rfl)).1
  have HBO := Lib.hid hb
  have HLE := Lib.hid hl
  have HBB : Hid ((w.alloc (.cells (BA b) 64)).heap[w.heap.size]? = some (.cells (BA b) 64 (0, 0))) := heap_alloc_new _ _
  have h64 : Hid ((BA b).size = 64) := by unfold Hid; rw [BA_size, hl]
  clear hb hl
  obtain ⟨c, hc⟩ : ∃ c, c = BA b := ⟨_, rfl⟩
  rw [← hc] at HBB h64 ⊢
  have HC := Lib.hid hc
  clear hc
  go_enter Tryd.func83, Tryd.ntmps83
  go_wp2
  clear hz
  go_loopw [10] (fun i wr => ∃ t : Nat, t ≤ 16 ∧ i = .int .i64 t ∧ Below w.heap.size w wr ∧ wr.heap[w.heap.size]? = some (.cells c 64 (0, 0)) ∧ Row wr (w.heap.size + 1) 131 none64 ∧ Row wr (w.heap.size + 1 + 1) 131 (wordsTo b t ++ List.replicate (64 - t) 0)) (fun i _ => 16 - (intOf i).toNat)
  case atStart =>
    refine ⟨0, by omega, rfl, ?_, ?_, ?_, ?_⟩
    · exact (((Below.refl _ _).alloc (Nat.le_refl _) _).alloc (by simp) _).alloc (by simp; omega) _
    · exact (((Below.refl _ _).alloc (Nat.le_refl _) _).alloc (by simp) _ |>.block w.heap.size (by simp)).trans HBB.out
    · exact (Row.new' (w.alloc _) _ _ none64 (by simp) rfl).alloc _
    · exact Row.new' ((w.alloc _).alloc _) _ _ _ (by simp) rfl
  case round =>
    obtain ⟨t, ht, rfl, hbel, hr1, hr2, hr3⟩ := hrel
    by_cases hlt : t < 16
    · have n0 : (4 * (t : Int)).toNat = 4 * t := by omega
      have z0 : (0 : Int) ≤ 4 * (t : Int) := by omega
      have y0 : 4 * (t : Int) ≤ 64 := by omega
      have v1 : IntKind.i64.wrap (4 * (t : Int)) = 4 * (t : Int) := IntWalk.i64_in _ (by omega)
      have hln := wordsTo_len b t
      have hg := get4 b (4 * t) (by have := HLE.out; omega)
      have hx1 := be4_lt HBO.out (4 * t)
      have HG : Hid (Calls Tryd.prog 86 #[.slice (some ⟨w.heap.size, 4 * t, none⟩) (64 - 4 * t) (64 - 4 * t), .int .i64 4] wr fun e w' => e = .returned (.tuple #[.int .u64 (be4 b (4 * t) : Nat), .int .i64 0]) ∧ Below wr.heap.size wr w') := by
        have hi : Ints wr wr.heap.size .u8 (some ⟨w.heap.size, 0, none⟩) (up b) := ints_of_BA (by rw [← HC.out]; exact hr1) (Nat.lt_of_lt_of_le (by omega : w.heap.size < w.heap.size + 1) (Nat.le_of_lt hr2.lt))
        have hc := hi.cut (n := 4 * t) (c := 64) (by rw [up_len, HLE.out]; omega) (by rw [up_len, HLE.out]; omega)
        rw [if_neg (by omega)] at hc
        have ha : (some (⟨w.heap.size, 0, none⟩ : Addr)).map (·.add (4 * t)) = some ⟨w.heap.size, 4 * t, none⟩ := by rw [Option.map_some, Addr.add_mid, Nat.zero_add]
        rw [ha, show (up b).drop (4 * t) = up (b.drop (4 * t)) from by simp [up]] at hc
        have h := get_any (some ⟨w.heap.size, 4 * t, none⟩) (64 - 4 * t) (up (b.drop (4 * t))) 4 wr hc (fun z hz => by
          obtain ⟨n, hn, rfl⟩ := List.mem_map.1 hz
          have := HBO.out n (List.mem_of_mem_drop hn); omega) (by rw [up_len, List.length_drop, HLE.out]; exact Nat.le_refl _)
        rw [hg.1, hg.2, up_len, List.length_drop, HLE.out] at h
        exact h
      have hrow : (64 - t) = (63 - t) + 1 := by omega
      have HN := Lib.hid (nr_next (wordsTo b t) (63 - t) (be4 b (4 * t)))
      have hw : wordsTo b (t + 1) = wordsTo b t ++ [be4 b (4 * t)] := by show wordsTo b t ++ [if t < 16 then _ else _] = _; rw [if_pos hlt]
      rw [hln, ← hw, ← hrow, show 63 - t = 64 - (t + 1) by omega] at HN
      have hlen : (wordsTo b t ++ List.replicate (64 - t) 0).length = 64 := by rw [List.length_append, hln, List.length_replicate]; omega
      obtain ⟨zs, hzs⟩ : ∃ zs, zs = wordsTo b t ++ List.replicate (64 - t) 0 := ⟨_, rfl⟩
      rw [← hzs] at HN hlen hr3
      obtain ⟨x, hx⟩ : ∃ x, x = be4 b (4 * t) := ⟨_, rfl⟩
      rw [← hx] at HN HG hx1
      have p0 : IntKind.u32.wrap (x : Int) = (x : Int) := IntWalk.u32_in _ (by omega)
      have HD := Lib.hid fun w' (hb : Below wr.heap.size wr w') =>
        (⟨(hr3.below hb hr3.lt).cell (by rw [hlen]; omega), (hr3.below hb hr3.lt).free t⟩ :
          w'.cell? ⟨w.heap.size + 1 + 1, t, none⟩ = some (.int .u32 (zs.getD t 0 : Nat)) ∧ w'.frozen? ⟨w.heap.size + 1 + 1, t, none⟩ = false)
      have R := Lib.hid (And.intro hbel (And.intro hr1 (And.intro hr2 hr3)))
      have ht64 : (t : Int) < 64 := by omega
      clear hw hrow hzs hx hg hln hbel hr1 hr2 hr3 hlen
      go_wp2_with (go_at_call 86; with_reducible (refine Calls.mono HG.out ?_); rintro e wq ⟨rfl, hbq⟩; have hd1 := (HD.out _ hbq).1; have hd2 := (HD.out _ hbq).2)
      obtain ⟨hbel, hr1, hr2, hr3⟩ := R.out
      have R2 : Below w.heap.size w (wq.setCell ⟨w.heap.size + 1 + 1, t, none⟩ (.int .u32 (x : Int))) ∧ (wq.setCell ⟨w.heap.size + 1 + 1, t, none⟩ (.int .u32 (x : Int))).heap[w.heap.size]? = some (.cells c 64 (0, 0)) ∧
          Row (wq.setCell ⟨w.heap.size + 1 + 1, t, none⟩ (.int .u32 (x : Int))) (w.heap.size + 1) 131 none64 ∧ Row (wq.setCell ⟨w.heap.size + 1 + 1, t, none⟩ (.int .u32 (x : Int))) (w.heap.size + 1 + 1) 131 (wordsTo b (t + 1) ++ List.replicate (64 - (t + 1)) 0) :=
        ⟨(chain hbel hbq).setCell (by simp only []; omega) _, (heap_setCell_other _ _ _ _ (by simp only []; omega)).trans ((hbq.block _ (by have := hr2.lt; omega)).trans hr1), (hr2.below hbq hr2.lt).other _ _ (by simp only []; omega), by rw [← HN.out]; exact (hr3.below hbq hr3.lt).set t _⟩
      clear hbel hr1 hr2 hr3 hbq R HD HG hd1 hd2
      go_wp2
      go_roundw
      case rel => exact ⟨t + 1, by omega, by go_num, R2⟩
      case measure => simp [intOf]; omega
    · have ht16 : t = 16 := by omega
      subst ht16
      have hl3 := hr3.lt
      go_wp2
      go_loopw [7] (fun i wr => ∃ t : Nat, 16 ≤ t ∧ t ≤ 64 ∧ i = .int .i64 t ∧ Below w.heap.size w wr ∧ Row wr (w.heap.size + 1) 131 none64 ∧ Row wr (w.heap.size + 1 + 1) 131 (wordsTo b t ++ List.replicate (64 - t) 0)) (fun i _ => 64 - (intOf i).toNat)
      case atStart => exact ⟨16, by omega, by omega, rfl, hbel, hr2, hr3⟩
      case round =>
        clear hbel hr1 hr2 hr3 hl3
        obtain ⟨t, ht0, ht1, rfl, hbel, hr2, hr3⟩ := hrel
        by_cases hlt : t < 64
        · have hlw := wordsTo_len b t
          have hlen : (wordsTo b t ++ List.replicate (64 - t) 0).length = 64 := by rw [List.length_append, hlw, List.length_replicate]; omega
          have hcell : ∀ j, j < t → wr.cell? ⟨w.heap.size + 1 + 1, j, none⟩ = some (.int .u32 (((wordsTo b t).getD j 0 : Nat) : Int)) := fun j hj => by
            rw [hr3.cell (by rw [hlen]; omega), nr_at _ _ _ (by rw [hlw]; exact hj)]
          have m15 := hcell (t - 15) (by omega)
          have m2 := hcell (t - 2) (by omega)
          have m7 := hcell (t - 7) (by omega)
          have m16 := hcell (t - 16) (by omega)
          have hlt4 := fun j => getD_lt (by decide) (wordsTo_lt HBO.out t) j
          have hw : wordsTo b (t + 1) = wordsTo b t ++ [nextW (wordsTo b t) t] := by show wordsTo b t ++ [if t < 16 then _ else _] = _; rw [if_neg (by omega)]
          have HN := Lib.hid (nr_next (wordsTo b t) (63 - t) (nextW (wordsTo b t) t))
          rw [hlw, ← hw, show 63 - t + 1 = 64 - t by omega, show 63 - t = 64 - (t + 1) by omega] at HN
          unfold nextW at HN
          obtain ⟨x15, e15⟩ : ∃ x, x = (wordsTo b t).getD (t - 15) 0 := ⟨_, rfl⟩
          obtain ⟨x2, e2⟩ : ∃ x, x = (wordsTo b t).getD (t - 2) 0 := ⟨_, rfl⟩
          obtain ⟨x7, e7⟩ : ∃ x, x = (wordsTo b t).getD (t - 7) 0 := ⟨_, rfl⟩
          obtain ⟨x16, e16⟩ : ∃ x, x = (wordsTo b t).getD (t - 16) 0 := ⟨_, rfl⟩
          have l15 := hlt4 (t - 15)
          have l2 := hlt4 (t - 2)
          rw [← e15] at m15 l15 HN
          rw [← e2] at m2 l2 HN
          rw [← e7] at m7 HN
          rw [← e16] at m16 HN
          have R1 := fun W => right_any x15 7 W l15 (by omega) (by omega)
          have R2 := fun W => right_any x15 18 W l15 (by omega) (by omega)
          have R3 := fun W => right_any x2 17 W l2 (by omega) (by omega)
          have R4 := fun W => right_any x2 19 W l2 (by omega) (by omega)
          have f1 := u32_x (rotrN x15 7) (rotrN x15 18) (rotrN_lt l15) (rotrN_lt l15)
          have f2 := u32_x (rotrN x15 7 ^^^ rotrN x15 18) (x15 / 8) (xor_lt (rotrN_lt l15) (rotrN_lt l15)) (div_lt l15)
          have f3 := u32_x (rotrN x2 17) (rotrN x2 19) (rotrN_lt l2) (rotrN_lt l2)
          have f4 := u32_x (rotrN x2 17 ^^^ rotrN x2 19) (x2 / 1024) (xor_lt (rotrN_lt l2) (rotrN_lt l2)) (div_lt l2)
          have f5 : ((x15 / 8 : Nat) : Int) = (x15 : Int) / 8 := by omega
          have f6 : ((x2 / 1024 : Nat) : Int) = (x2 : Int) / 1024 := by omega
          rw [show rotrN x15 7 ^^^ rotrN x15 18 ^^^ x15 / 8 = sch0 x15 from rfl, f5] at f2
          rw [show rotrN x2 17 ^^^ rotrN x2 19 ^^^ x2 / 1024 = sch1 x2 from rfl, f6] at f4
          obtain ⟨a1, ea1⟩ : ∃ a, a = rotrN x15 7 := ⟨_, rfl⟩
          obtain ⟨a2, ea2⟩ : ∃ a, a = rotrN x15 18 := ⟨_, rfl⟩
          obtain ⟨a3, ea3⟩ : ∃ a, a = rotrN x2 17 := ⟨_, rfl⟩
          obtain ⟨a4, ea4⟩ : ∃ a, a = rotrN x2 19 := ⟨_, rfl⟩
          obtain ⟨a5, ea5⟩ : ∃ a, a = a1 ^^^ a2 := ⟨_, rfl⟩
          obtain ⟨a6, ea6⟩ : ∃ a, a = a3 ^^^ a4 := ⟨_, rfl⟩
          obtain ⟨a7, ea7⟩ : ∃ a, a = sch0 x15 := ⟨_, rfl⟩
          obtain ⟨a8, ea8⟩ : ∃ a, a = sch1 x2 := ⟨_, rfl⟩
          rw [← ea1] at R1 f1 f2
          rw [← ea2] at R2 f1 f2
          rw [← ea3] at R3 f3 f4
          rw [← ea4] at R4 f3 f4
          rw [← ea5] at f1 f2
          rw [← ea6] at f3 f4
          rw [← ea7] at f2 HN
          rw [← ea8] at f4 HN
          have HR1 := Lib.hid R1
          have HR2 := Lib.hid R2
          have HR3 := Lib.hid R3
          have HR4 := Lib.hid R4
          have g3 : ((a8 : Int) + (x7 : Int) + (a7 : Int) + (x16 : Int)) % 4294967296 = ((add32 (add32 (add32 a8 x7) a7) x16 : Nat) : Int) := by unfold add32; omega
          obtain ⟨d3, ed3⟩ : ∃ d, d = add32 (add32 (add32 a8 x7) a7) x16 := ⟨_, rfl⟩
          rw [← ed3] at g3 HN
          have HG3 := Lib.hid g3
          obtain ⟨zs, hzs⟩ : ∃ zs, zs = wordsTo b t ++ List.replicate (64 - t) 0 := ⟨_, rfl⟩
          rw [← hzs] at HN hlen hr3
          have n15 : ((t : Int) - 15).toNat = t - 15 := by omega
          have n2 : ((t : Int) - 2).toNat = t - 2 := by omega
          have n7 : ((t : Int) - 7).toNat = t - 7 := by omega
          have n16 : ((t : Int) - 16).toNat = t - 16 := by omega
          have z15 : (0 : Int) ≤ (t : Int) - 15 := by omega
          have z2 : (0 : Int) ≤ (t : Int) - 2 := by omega
          have z7 : (0 : Int) ≤ (t : Int) - 7 := by omega
          have z16 : (0 : Int) ≤ (t : Int) - 16 := by omega
          have ge15 : (15 : Int) ≤ (t : Int) := by omega
          have ge2 : (2 : Int) ≤ (t : Int) := by omega
          have ge7 : (7 : Int) ≤ (t : Int) := by omega
          have ge16 : (16 : Int) ≤ (t : Int) := by omega
          have y15 : (t : Int) - 15 < 64 := by omega
          have y2 : (t : Int) - 2 < 64 := by omega
          have y7 : (t : Int) - 7 < 64 := by omega
          have y16 : (t : Int) - 16 < 64 := by omega
          have y0 : (t : Int) < 64 := by omega
          have v15 : IntKind.i64.wrap ((t : Int) - 15) = (t : Int) - 15 := IntWalk.i64_in _ (by omega)
          have v2 : IntKind.i64.wrap ((t : Int) - 2) = (t : Int) - 2 := IntWalk.i64_in _ (by omega)
          have v7 : IntKind.i64.wrap ((t : Int) - 7) = (t : Int) - 7 := IntWalk.i64_in _ (by omega)
          have v16 : IntKind.i64.wrap ((t : Int) - 16) = (t : Int) - 16 := IntWalk.i64_in _ (by omega)
          clear hcell hlt4 hw e15 e2 e7 e16 R1 R2 R3 R4 f5 f6 ea1 ea2 ea3 ea4 ea5 ea6 ea7 ea8 ed3 l15 l2 hzs g3 hlw
          go_wp2
          go_quiet (fail)
          go_wp2_with (first
            | (go_at_call 87; with_reducible (refine Calls.mono (HR1.out _) ?_); rintro e w' ⟨rfl, rfl⟩)
            | (go_at_call 87; with_reducible (refine Calls.mono (HR2.out _) ?_); rintro e w' ⟨rfl, rfl⟩)
            | (go_at_call 87; with_reducible (refine Calls.mono (HR3.out _) ?_); rintro e w' ⟨rfl, rfl⟩)
            | (go_at_call 87; with_reducible (refine Calls.mono (HR4.out _) ?_); rintro e w' ⟨rfl, rfl⟩))
          obtain ⟨W, hW⟩ : ∃ W, W = wr.drewN nq := ⟨_, rfl⟩
          have bW : Below w.heap.size w W := by rw [hW]; exact below_drewN hbel nq
          have rW2 : Row W (w.heap.size + 1) 131 none64 := by rw [hW]; exact hr2
          have rW3 : Row W (w.heap.size + 1 + 1) 131 zs := by rw [hW]; exact hr3
          have q7 : W.drew.cell? ⟨w.heap.size + 1 + 1, t - 7, none⟩ = some (.int .u32 (x7 : Int)) := by rw [hW]; exact m7
          have q16 : W.drew.cell? ⟨w.heap.size + 1 + 1, t - 16, none⟩ = some (.int .u32 (x16 : Int)) := by rw [hW]; exact m16
          have p7 : W.cell? ⟨w.heap.size + 1 + 1, t - 7, none⟩ = some (.int .u32 (x7 : Int)) := by rw [hW]; exact m7
          have p16 : W.cell? ⟨w.heap.size + 1 + 1, t - 16, none⟩ = some (.int .u32 (x16 : Int)) := by rw [hW]; exact m16
          have qt : W.drew.cell? ⟨w.heap.size + 1 + 1, t, none⟩ = some (.int .u32 (zs.getD t 0 : Nat)) := rW3.cell (by rw [hlen]; omega)
          have qf : W.drew.frozen? ⟨w.heap.size + 1 + 1, t, none⟩ = false := rW3.free t
          rw [← hW]
          have R := Lib.hid (And.intro bW (And.intro rW2 rW3))
          clear hW bW rW2 rW3 hbel hr2 hr3 m15 m2 m7 m16 hlen f1 f2 f3 f4 HR1 HR2 HR3 HR4
          go_still_tail 15, (by kernel_rfl)
          change wpList _ _ _ _ _ W.drew
          obtain ⟨bW, rW2, rW3⟩ := R.out
          have R2 : Below w.heap.size w (W.setCell ⟨w.heap.size + 1 + 1, t, none⟩ (.int .u32 (((a8 : Int) + (x7 : Int) + (a7 : Int) + (x16 : Int)) % 4294967296))).drew ∧ Row (W.setCell ⟨w.heap.size + 1 + 1, t, none⟩ (.int .u32 (((a8 : Int) + (x7 : Int) + (a7 : Int) + (x16 : Int)) % 4294967296))).drew (w.heap.size + 1) 131 none64 ∧
              Row (W.setCell ⟨w.heap.size + 1 + 1, t, none⟩ (.int .u32 (((a8 : Int) + (x7 : Int) + (a7 : Int) + (x16 : Int)) % 4294967296))).drew (w.heap.size + 1 + 1) 131 (wordsTo b (t + 1) ++ List.replicate (64 - (t + 1)) 0) := by
            rw [HG3.out]
            exact ⟨(bW.setCell (by simp only []; omega) _).drew, (rW2.other _ _ (by simp only []; omega) : Row (W.setCell _ _) _ _ _), by rw [← HN.out]; exact (rW3.set t d3 : Row (W.setCell _ _) _ _ _)⟩
          clear bW rW2 rW3 R
          go_wp2
          go_roundw
          case rel => (repeat apply Exists.intro); exact ⟨⟨t + 1, by omega, by omega, by go_num, R2⟩, rfl⟩
          case measure => simp [intOf]; omega
        · have ht64 : t = 64 := by omega
          subst ht64
          rw [show (64 - 64) = 0 from rfl, List.replicate_zero, List.append_nil] at hr3
          have hu := Tryd.underlying131
          have hi : (Tryd.prog.info? 131).map (·.size) = some (U (wordsTo b 64)).size := by rw [U_size, wordsTo_len]; kernel_rfl
          have ho : (U none64).size = (U (wordsTo b 64)).size := by rw [U_size, U_size, wordsTo_len]; rfl
          go_wp2_with (first
            | (refine wpList_load_row rfl 131 _ rfl (w.heap.size + 1 + 1) rfl 131 _ (0, 0) _ hr3 hu rfl hi ?_)
            | (refine wpList_store_row rfl 131 _ _ rfl (w.heap.size + 1) _ rfl rfl 131 _ hr2 hi ho (U_one _) ?_))
          refine bodyPost_ret (v := .agg (U (wordsTo b 64))) ?_ rfl ⟨rfl, below_setRow hbel (by omega) _⟩
          exact results_cell_row rfl _ _ (w.heap.size + 1) 131 _ (0, 0) _ rfl (hr2.laid _) hu rfl hi

end Go.Proofs.YtanpfodmmeagaaaDoor

namespace Go.Proofs.YtanpfodmmeagaaaDoor
open Go.RowKit

structure Laid (w : World) : Prop where
  roots : ∀ i, i < 64 → w.cell? ⟨0, i, none⟩ = some (.int .u32 (shaK.getD i 0 : Nat))
  first : ∀ i, i < 8 → w.cell? ⟨1, i, none⟩ = some (.int .u32 (shaH.list.getD i 0 : Nat))
theorem Laid.lt {w : World} (h : Laid w) : 0 < w.heap.size ∧ 1 < w.heap.size :=
  ⟨World.block_lt_of_cell? w _ (h.roots 0 (by decide)), World.block_lt_of_cell? w _ (h.first 0 (by decide))⟩
theorem Laid.to {w w' : World} (h : Laid w) (hb : Below w.heap.size w w') : Laid w' :=
  ⟨fun i hi => (hb.cell h.lt.1).trans (h.roots i hi), fun i hi => (hb.cell h.lt.2).trans (h.first i hi)⟩
/-- What is written elsewhere leaves them. -/
theorem Laid.off {F : Nat → Prop} {w w' : World} (h : Laid w) (hb : Off F w w') (hF : ∀ k, F k → 0 < k ∧ 1 < k) : Laid w' :=
  ⟨fun i hi => (World.cell?_of_block (hb.block _ h.lt.1 fun hf => Nat.lt_irrefl _ (hF _ hf).1)).trans (h.roots i hi), fun i hi => (World.cell?_of_block (hb.block _ h.lt.2 fun hf => Nat.lt_irrefl _ (hF _ hf).2)).trans (h.first i hi)⟩
theorem range_of_cells {w : World} {g : Nat} {l : List Nat} (hl : l.length = 8) (h : ∀ i, i < 8 → w.cell? ⟨g, i, none⟩ = some (.int .u32 (l.getD i 0 : Nat))) : w.rangeAt g 0 (l.map fun z : Nat => Value.int .u32 (z : Int)) := fun j v hv => by
  have hj : j < l.length := by
    rcases Nat.lt_or_ge j l.length with h | h
    · exact h
    · rw [List.getElem?_eq_none (by simpa using h)] at hv; cases hv
  rw [Nat.zero_add, h j (by omega), ← hv, List.getElem?_map, List.getElem?_eq_getElem hj]
  simp [List.getD_eq_getElem?_getD, List.getElem?_eq_getElem hj]
theorem Laid.firstRange {w : World} (h : Laid w) : w.rangeAt 1 0 (shaH.list.map fun z : Nat => Value.int .u32 (z : Int)) := range_of_cells rfl h.first

end Go.Proofs.YtanpfodmmeagaaaDoor

namespace Go.Proofs.YtanpfodmmeagaaaDoor
open Go.RowKit

def none8 : List Nat := List.replicate 8 0
/-- The first j words have what is added. -/
def sumTo (l : List Nat) (j : Nat) : List Nat := (List.range 8).map fun i => if i < j then add32 (shaH.list.getD i 0) (l.getD i 0) else shaH.list.getD i 0
theorem sumTo_len (l : List Nat) (j : Nat) : (sumTo l j).length = 8 := by simp [sumTo]
theorem sumTo_zero (l : List Nat) : sumTo l 0 = shaH.list := rfl
theorem sumTo_at (l : List Nat) (j i : Nat) (h : i < 8) : (sumTo l j).getD i 0 = if i < j then add32 (shaH.list.getD i 0) (l.getD i 0) else shaH.list.getD i 0 := by
  rw [List.getD_eq_getElem?_getD, List.getElem?_eq_getElem (by rw [sumTo_len]; exact h), Option.getD_some]
  simp [sumTo]
theorem sumTo_next (l : List Nat) (j : Nat) : (sumTo l j).set j (add32 (shaH.list.getD j 0) (l.getD j 0)) = sumTo l (j + 1) := by
  apply List.ext_getElem
  · simp [sumTo]
  · intro i h1 h2
    have hi : i < 8 := by rw [sumTo_len] at h2; exact h2
    rw [List.getElem_set]
    simp only [sumTo, List.getElem_map, List.getElem_range]
    by_cases e : j = i
    · subst e; simp
    · rw [if_neg e]
      by_cases hlt : i < j
      · rw [if_pos hlt, if_pos (by omega)]
      · rw [if_neg hlt, if_neg (by omega)]
/-- An array's value at an index. -/
theorem run_index_agg {P : Program} {t e : TypeId} {n : Nat} {i : TypeInfo} (hu : P.underlying t = some (.array n e)) (he : P.plainKey e = true) (hi : P.info? e = some i) (hs : i.size = 1) (w : World) (cs : Array Value) (j : Nat) (v : Value) (hj : j < n) (hc : cs[j]? = some v) :
    (Instr.index t (.agg cs) (.int .i64 (j : Int))).run P w = .ok v w := by
  have hp := run_part_plain (P := P) w he (xs := cs) (off := j * 1) (by rw [Nat.mul_one]; exact hc)
  simp [Instr.index, asIntOf, run_underlying hu, sizeOf, typeInfo, hi, hs, hj]
  simpa using hp

set_option maxHeartbeats 800000 in
/-- 'sums'. -/
theorem sums_any (g : Nat) (l : List Nat) (w : World) (hL : Laid w) (hl : l.length = 8) (h : ∀ i, i < 8 → w.cell? ⟨g, i, none⟩ = some (.int .u32 (l.getD i 0 : Nat))) :
    Calls Tryd.prog 82 #[.pointer (some ⟨g, 0, none⟩)] w fun e w' => e = .returned (.agg (U (sumTo l 8))) ∧ Below w.heap.size w w' := by
  have hg : g < w.heap.size := World.block_lt_of_cell? w _ (h 0 (by decide))
  have hz := (zero_of_info (P := Tryd.prog) (t := 120) (v := .agg (U none8)) (n := 8) (by kernel_rfl)).1
  have hu := Tryd.underlying120
  have HL := Lib.hid (fun w' (hb : Below w.heap.size w w') => (hL.to hb).firstRange)
  have HR := Lib.hid (fun w' (hb : Below w.heap.size w w') => range_of_cells (w := w') hl fun i hi => (hb.cell hg).trans (h i hi))
  have hi1 : (Tryd.prog.info? 120).map (·.size) = some (shaH.list.map fun z : Nat => Value.int .u32 (z : Int)).length := by kernel_rfl
  have hi2 : (Tryd.prog.info? 120).map (·.size) = some (l.map fun z : Nat => Value.int .u32 (z : Int)).length := by rw [List.length_map, hl]; kernel_rfl
  clear h
  go_enter Tryd.func82, Tryd.ntmps82
  go_wp2_with (first
    | (with_reducible (refine wpList_load_mid rfl 120 (.global _) rfl 1 0 rfl _ _ (HL.out _ ?hb) hu rfl hi1 ?_); (case hb => exact (Below.refl _ _).alloc (Nat.le_refl _) _))
    | (refine wpList_store_fresh rfl 120 _ _ rfl (w.heap.size + 1) (U shaH.list) rfl rfl 120 (U none8) (heap_alloc_new' _ _ _ (by simp)) hi1 rfl (U_one _) (((Below.refl w.heap.size w).alloc (Nat.le_refl _) _).alloc (by simp) _) (by omega) ?_; intro W hW hbW hkW hsW)
    | (with_reducible (refine wpList_load_mid rfl 120 _ rfl g 0 rfl _ _ (HR.out _ hbW) hu rfl hi2 ?_)))
  have rW3 : Row W (w.heap.size + 1) 120 shaH.list := hW
  have rW2 : Row W w.heap.size 120 none8 := by
    refine (hkW _ (by omega)).trans ?_
    exact (Row.new' w _ _ none8 rfl rfl).alloc _
  have hcx : ∀ j, j < 8 → (l.map fun z : Nat => Value.int .u32 (z : Int)).toArray[j]? = some (.int .u32 (l.getD j 0 : Nat)) := fun j hj => by
    have := U_at l j (by omega)
    exact this
  have hcs : (l.map fun z : Nat => Value.int .u32 (z : Int)).toArray.size = 8 := by simp [hl]
  obtain ⟨C, hC⟩ : ∃ C, C = (l.map fun z : Nat => Value.int .u32 (z : Int)).toArray := ⟨_, rfl⟩
  rw [← hC] at hcx hcs
  simp only [← hC]
  have HC := Lib.hid hcx
  obtain ⟨i0, hi0, hz0, hz1, hz2⟩ := info_parts Tryd.infoU32
  have HI := Lib.hid (fun (w : World) (j : Nat) (v : Value) (hj : j < 8) (hc : C[j]? = some v) => run_index_agg (P := Tryd.prog) (t := 120) hu (by kernel_rfl) hi0 hz1 w C j v hj hc)
  clear hC hcx hW hkW hsW hi2 HL HR
  go_loopw [11] (fun i wr => ∃ j : Nat, j ≤ 8 ∧ i = .int .i64 j ∧ Below w.heap.size w wr ∧ Row wr w.heap.size 120 none8 ∧ Row wr (w.heap.size + 1) 120 (sumTo l j)) (fun i _ => 8 - (intOf i).toNat)
  case atStart => exact ⟨0, by omega, rfl, hbW, rW2, by rw [sumTo_zero]; exact rW3⟩
  case round =>
    clear hbW rW2 rW3
    obtain ⟨j, hj, rfl, hbel, hr2, hr3⟩ := hrel
    by_cases hlt : j < 8
    · have hx := HI.out wr j _ hlt (HC.out j hlt)
      have hlj := hr3.lt
      have hc3 := hr3.cell (i := j) (by rw [sumTo_len]; exact hlt)
      have hf3 := hr3.free j
      rw [sumTo_at l j j hlt, if_neg (Nat.lt_irrefl _)] at hc3
      have HN := Lib.hid (sumTo_next l j)
      obtain ⟨y, hy⟩ : ∃ y, y = shaH.list.getD j 0 := ⟨_, rfl⟩
      obtain ⟨x, hxe⟩ : ∃ x, x = l.getD j 0 := ⟨_, rfl⟩
      rw [← hy] at hc3 HN
      rw [← hxe] at hx HN
      have e1 : ((y : Int) + (x : Int)) % 4294967296 = ((add32 y x : Nat) : Int) := by unfold add32; omega
      have HE := Lib.hid e1
      have R := Lib.hid (And.intro hbel (And.intro hr2 hr3))
      have hj8 : (j : Int) < 8 := by omega
      clear hy hxe hr2 hr3 hbel e1
      go_wp2
      obtain ⟨hbel, hr2, hr3⟩ := R.out
      have R2 : Below w.heap.size w (wr.setCell ⟨w.heap.size + 1, j, none⟩ (.int .u32 (((y : Int) + (x : Int)) % 4294967296))) ∧ Row (wr.setCell ⟨w.heap.size + 1, j, none⟩ (.int .u32 (((y : Int) + (x : Int)) % 4294967296))) w.heap.size 120 none8 ∧
          Row (wr.setCell ⟨w.heap.size + 1, j, none⟩ (.int .u32 (((y : Int) + (x : Int)) % 4294967296))) (w.heap.size + 1) 120 (sumTo l (j + 1)) := by
        rw [HE.out]
        exact ⟨hbel.setCell (by simp only []; omega) _, hr2.other _ _ (by simp only []; omega), by rw [← HN.out]; exact hr3.set j _⟩
      clear hbel hr2 hr3 R hx hc3 hf3
      go_roundw
      case rel => exact ⟨j + 1, by omega, by go_num, R2⟩
      case measure => simp [intOf]; omega
    · have hj9 : j = 8 := by omega
      subst hj9
      have hi : (Tryd.prog.info? 120).map (·.size) = some (U (sumTo l 8)).size := by rw [U_size, sumTo_len]; kernel_rfl
      have ho : (U none8).size = (U (sumTo l 8)).size := by rw [U_size, U_size, sumTo_len]; rfl
      go_wp2_with (first
        | (refine wpList_load_row rfl 120 _ rfl (w.heap.size + 1) rfl 120 _ (0, 0) _ hr3 hu rfl hi ?_)
        | (refine wpList_store_row rfl 120 _ _ rfl w.heap.size _ rfl rfl 120 _ hr2 hi ho (U_one _) ?_))
      refine bodyPost_ret (v := .agg (U (sumTo l 8))) ?_ rfl ⟨rfl, below_setRow hbel (Nat.le_refl _) _⟩
      exact results_cell_row rfl _ _ w.heap.size 120 _ (0, 0) _ rfl (hr2.laid _) hu rfl hi

end Go.Proofs.YtanpfodmmeagaaaDoor
