/-
  The landed line: numbers, of a line that is in range. Written by wip/gen/line_c3.py.
-/
import Derived.Test.YtbfchclfonicmaaLineC2
namespace Go.Proofs.Ytbfchclfonicmaa
open Go.RowKit

/-- The numbers ahead of the key, but for the mark. -/
def tailL (l : Ln) : List Int := [l.g, l.s, lastN l.last, l.r.k, l.r.a, l.r.b, l.r.c, l.r.d, (l.r.key.size : Nat)]
def numL (l : Ln) : List Int := 21324 :: tailL l
theorem tailL_at {l : Ln} (hE : encE l = 0) : ∀ i, i < 9 → 0 ≤ (tailL l).getD i 0 ∧ (tailL l).getD i 0 ≤ 1099511627776 := by
  obtain ⟨hr, hk⟩ := encE_zero.1 hE
  obtain ⟨q1, q2, q3, q4, q5, q6, q7⟩ := (rangeL_iff l).1 hr
  have hlast : 0 ≤ lastN l.last ∧ lastN l.last ≤ 1 := by unfold lastN; split <;> decide
  intro i hi
  match i, hi with
  | 0, _ => show 0 ≤ l.g ∧ l.g ≤ _; omega
  | 1, _ => show 0 ≤ l.s ∧ l.s ≤ _; omega
  | 2, _ => show 0 ≤ lastN l.last ∧ lastN l.last ≤ _; omega
  | 3, _ => show 0 ≤ l.r.k ∧ l.r.k ≤ _; omega
  | 4, _ => show 0 ≤ l.r.a ∧ l.r.a ≤ _; omega
  | 5, _ => show 0 ≤ l.r.b ∧ l.r.b ≤ _; omega
  | 6, _ => show 0 ≤ l.r.c ∧ l.r.c ≤ _; omega
  | 7, _ => show 0 ≤ l.r.d ∧ l.r.d ≤ _; omega
  | 8, _ => show 0 ≤ ((l.r.key.size : Nat) : Int) ∧ ((l.r.key.size : Nat) : Int) ≤ _; omega
theorem Try.infoU64L : (Try.prog.info? 54).map (fun i => (i.zero, i.size, i.bytes)) = some (some (.int .u64 0), 1, 8) := by kernel_rfl

set_option maxHeartbeats 1600000 in
set_option maxRecDepth 20000 in
/-- 'numbers'. -/
theorem numbers_any (l : Ln) (w : World) (hE : encE l = 0) :
    Calls Try.prog 20 #[.agg (lnV l)] w fun e w' => ∃ A c, e = .returned (.slice A 10 c) ∧ Ints w' w'.heap.size .u64 A (numL l) ∧ Below w.heap.size w w' := by
  obtain ⟨i0, hi8, hz0, hz1, hz2⟩ := info_parts Try.infoU64L
  have HFL := Lib.hid (fun W => flag_any l.last W)
  have HTB := Lib.hid (tailL_at hE)
  have HTT : Hid (ICs (tailL l) = #[.int .i64 l.g, .int .i64 l.s, .int .i64 (lastN l.last), .int .i64 l.r.k, .int .i64 l.r.a, .int .i64 l.r.b, .int .i64 l.r.c, .int .i64 l.r.d, .int .i64 (l.r.key.size : Nat)]) := rfl
  obtain ⟨T, hT⟩ : ∃ T, T = tailL l := ⟨_, rfl⟩
  have nT : T.length = 9 := by rw [hT]; rfl
  have HNL : Hid (numL l = 21324 :: T) := by rw [hT]; rfl
  rw [← hT] at HTB HTT
  obtain ⟨la, hla⟩ : ∃ x, x = lastN l.last := ⟨_, rfl⟩
  rw [← hla] at HFL HTT
  clear hE hT hla
  have hinf : (Try.prog.info? 23).map (·.size) = some (rcV l.r).size := Try.infoRec
  have hinf2 : (Try.prog.info? 23).map (·.size) = some (rcV l.r).toList.length := Try.infoRec
  have hone := rcV_one l.r
  have HRA : Hid ((w.alloc (.cells (lnV l) 25)).rangeAt w.heap.size 3 (rcV l.r).toList) := (ln_cells (heap_alloc_new w (.cells (lnV l) 25)) (Below.refl _ _)).2.2.2
  have HLN : Hid (∀ W W' : World, W.heap[w.heap.size]? = some (.cells (lnV l) 25 (0, 0)) → Below W.heap.size W W' → W'.cell? ⟨w.heap.size, 0, none⟩ = some (.int .i64 l.g) ∧ W'.cell? ⟨w.heap.size, 1, none⟩ = some (.int .i64 l.s) ∧ W'.cell? ⟨w.heap.size, 2, none⟩ = some (.bool l.last)) :=
    fun W W' h hb => ⟨(ln_cells h hb).1, (ln_cells h hb).2.1, (ln_cells h hb).2.2.1⟩
  have HRC : Hid (∀ W W' : World, W.heap[w.heap.size + 1]? = some (.cells (rcV l.r) 23 (0, 0)) → Below W.heap.size W W' → W'.cell? ⟨w.heap.size + 1, 0, none⟩ = some (.int .i64 l.r.k) ∧ W'.cell? ⟨w.heap.size + 1, 1, none⟩ = some (.int .i64 l.r.a) ∧ W'.cell? ⟨w.heap.size + 1, 2, none⟩ = some (.int .i64 l.r.b) ∧ W'.cell? ⟨w.heap.size + 1, 3, none⟩ = some (.int .i64 l.r.c) ∧ W'.cell? ⟨w.heap.size + 1, 4, none⟩ = some (.int .i64 l.r.d) ∧ W'.cell? ⟨w.heap.size + 1, 5, none⟩ = some (.string l.r.key)) :=
    fun W W' h hb => rc_cells h hb
  have HZ : Hid (((w.alloc (.cells (lnV l) 25)).alloc (.cells #[.int .i64 0, .int .i64 0, .int .i64 0, .int .i64 0, .int .i64 0, .string ⟨#[]⟩] 23)).heap[w.heap.size + 1]? = some (.cells #[.int .i64 0, .int .i64 0, .int .i64 0, .int .i64 0, .int .i64 0, .string ⟨#[]⟩] 23 (0, 0))) := by
    have := heap_alloc_new (w.alloc (.cells (lnV l) 25)) (.cells #[.int .i64 0, .int .i64 0, .int .i64 0, .int .i64 0, .int .i64 0, .string ⟨#[]⟩] 23)
    rwa [show (w.alloc (.cells (lnV l) 25)).heap.size = w.heap.size + 1 by simp] at this
  have HQ : Hid (∀ o, ((w.alloc (.cells (lnV l) 25)).alloc o).heap[w.heap.size]? = some (.cells (lnV l) 25 (0, 0))) := fun o => by
    rw [Below.heap_alloc _ _ _ (by simp)]; exact heap_alloc_new _ _
  have HB : Hid (∀ o o', Below w.heap.size w ((w.alloc o).alloc o')) := fun o o' => ((Below.refl _ _).alloc (Nat.le_refl _) _).alloc (by simp) _
  obtain ⟨L, hL⟩ : ∃ L, L = lnV l := ⟨_, rfl⟩
  simp only [← hL] at HRA HLN HZ HQ
  rw [← hL]
  obtain ⟨R, hR⟩ : ∃ L, L = rcV l.r := ⟨_, rfl⟩
  rw [← hR] at hinf hinf2 hone HRA
  simp only [← hR] at HRC
  have hRT : R.toList.toArray = R := Array.toArray_toList
  obtain ⟨C, hC⟩ : ∃ L, L = R.toList := ⟨_, rfl⟩
  rw [← hC] at hinf2 HRA hRT
  have hold : Hid (6 = R.size) := by rw [hR]; rfl
  clear hL hR hC
  go_enter Try.func20, Try.ntmps20
  go_wp2_with (first
    | (refine wpList_load_mid rfl 23 _ rfl w.heap.size 3 rfl C _ HRA.out Try.underlying23 rfl hinf2 ?_; rw [hRT])
    | (refine wpList_store_fresh rfl 23 _ _ rfl (w.heap.size + 1) R rfl rfl 23 _ HZ.out hinf hold.out hone (HB.out _ _) (Nat.le_succ _) ?_; intro W hW hbW hkW hsW
       have hqW := (hkW _ (Nat.ne_of_lt (Nat.lt_succ_self _))).trans (HQ.out _)
       obtain ⟨l0, l1, l2⟩ := HLN.out W W hqW (Below.refl _ _)
       obtain ⟨r0, r1, r2, r3, r4, r5⟩ := HRC.out W W hW (Below.refl _ _)
       have HW := Lib.hid hW
       have HQW := Lib.hid hqW
       clear hW hkW hsW hqW))

  have hba : Below W.heap.size W (W.alloc (.cells #[.int .u64 21324] 54)) := (Below.refl _ _).alloc (Nat.le_refl _) _
  have hbx := hba.drew
  have hbb := fun o : Obj => (hba.alloc hba.size o).drew
  have HKS : Hid (∀ V, Below W.heap.size W V → V.cell? ⟨w.heap.size, 0, none⟩ = some (.int .i64 l.g) ∧ V.cell? ⟨w.heap.size, 1, none⟩ = some (.int .i64 l.s) ∧ V.cell? ⟨w.heap.size, 2, none⟩ = some (.bool l.last) ∧ V.cell? ⟨w.heap.size + 1, 0, none⟩ = some (.int .i64 l.r.k) ∧ V.cell? ⟨w.heap.size + 1, 1, none⟩ = some (.int .i64 l.r.a) ∧ V.cell? ⟨w.heap.size + 1, 2, none⟩ = some (.int .i64 l.r.b) ∧ V.cell? ⟨w.heap.size + 1, 3, none⟩ = some (.int .i64 l.r.c) ∧ V.cell? ⟨w.heap.size + 1, 4, none⟩ = some (.int .i64 l.r.d) ∧ V.cell? ⟨w.heap.size + 1, 5, none⟩ = some (.string l.r.key)) := fun V hb => by
    obtain ⟨a0, a1, a2⟩ := HLN.out W _ HQW.out hb
    obtain ⟨s0, s1, s2, s3, s4, s5⟩ := HRC.out W _ HW.out hb
    exact ⟨a0, a1, a2, s0, s1, s2, s3, s4, s5⟩
  clear l0 l1 l2 r0 r1 r2 r3 r4 r5
  go_region_held3 (fun V => V.cell? ⟨w.heap.size, 0, none⟩ = some (.int .i64 l.g) ∧ V.cell? ⟨w.heap.size, 1, none⟩ = some (.int .i64 l.s) ∧ V.cell? ⟨w.heap.size, 2, none⟩ = some (.bool l.last) ∧ V.cell? ⟨w.heap.size + 1, 0, none⟩ = some (.int .i64 l.r.k) ∧ V.cell? ⟨w.heap.size + 1, 1, none⟩ = some (.int .i64 l.r.a) ∧ V.cell? ⟨w.heap.size + 1, 2, none⟩ = some (.int .i64 l.r.b) ∧ V.cell? ⟨w.heap.size + 1, 3, none⟩ = some (.int .i64 l.r.c) ∧ V.cell? ⟨w.heap.size + 1, 4, none⟩ = some (.int .i64 l.r.d) ∧ V.cell? ⟨w.heap.size + 1, 5, none⟩ = some (.string l.r.key))
    (first
      | exact HKS.out _ hba
      | exact HKS.out _ hbx
      | exact HKS.out _ (hbb _))
    (first
      | (go_at_call 32; with_reducible (refine Calls.mono (HFL.out _) ?_); rintro e wq ⟨rfl, rfl⟩)
      | fail)
  rw [← HTT.out]
  have HC : Hid (((W.alloc (.cells #[.int .u64 21324] 54)).alloc (.cells (ICs T) 3)).drew.ownsRow W.heap.size 54 1 (.slice (some ⟨W.heap.size, 0, none⟩) 1 1) 1 [.int .u64 21324] ∧ IRow 3 (W.heap.size + 1) T ((W.alloc (.cells #[.int .u64 21324] 54)).alloc (.cells (ICs T) 3)).drew ∧ Below W.heap.size W ((W.alloc (.cells #[.int .u64 21324] 54)).alloc (.cells (ICs T) 3)).drew) := by
    refine ⟨((World.ownsRow_lit (base := W.heap.size) (e := 54) (size := 1) W #[.int .u64 21324] 1 (Nat.le_refl _) (by decide) rfl).alloc _), ?_, hbb _⟩
    have h := IRow.new (W.alloc (.cells #[.int .u64 21324] 54)) 3 T
    rw [show (W.alloc (.cells #[.int .u64 21324] 54)).heap.size = W.heap.size + 1 by simp] at h
    exact h
  obtain ⟨V, hV⟩ : ∃ V, V = ((W.alloc (.cells #[.int .u64 21324] 54)).alloc (.cells (ICs T) 3)).drew := ⟨_, rfl⟩
  rw [← hV] at HC ⊢
  have HNK : Hid (∀ k, k < 9 → T.take (k + 1) = T.take k ++ [T.getD k 0]) := fun k hk => take_snoc T k (by omega)
  have HT9 : Hid (T.take 9 = T) := List.take_of_length_le (by omega)
  have HNT := Lib.hid nT
  have hbw := Lib.hid hbW
  clear hV HTT HKS hba hbb hbx hbW HLN HRC HRA HZ HQ HB HFL hinf hinf2 hone hRT hold HW HQW nT
  go_wp2
  go_loopw [4, 32] (fun v i wr => ∃ k : Nat, k ≤ 9 ∧ i = .int .i64 k ∧ (∃ A c, v = .slice A (1 + k) c) ∧ Hid (wr.ownsRow W.heap.size 54 1 v (1 + k) ((21324 :: T.take k).map (Value.int .u64)) ∧ v.ownBlock ≠ some (W.heap.size + 1) ∧ IRow 3 (W.heap.size + 1) T wr ∧ Below W.heap.size W wr)) (fun _ i _ => 9 - (intOf i).toNat)
  case atStart =>
    refine ⟨0, Nat.zero_le _, rfl, ⟨_, _, rfl⟩, HC.out.1, fun h => ?_, HC.out.2⟩
    have : W.heap.size = W.heap.size + 1 := by injection h
    omega
  case round =>
    obtain ⟨k, hk, rfl, ⟨A1, c1, rfl⟩, hS⟩ := hrel
    clear HC
    by_cases hlt : k < 9
    · obtain ⟨hown, hne, hrow, hbel⟩ := hS.out
      have hq0 := hrow.cell (i := k) (by have := HNT.out; omega)
      obtain ⟨x0, x1⟩ := HTB.out k hlt
      have HK1 := Lib.hid (HNK.out k hlt)
      have k1 : (k : Int) < 9 := by omega
      have k0 : (0 : Int) ≤ (k : Int) := by omega
      have hq1 := hrow.lt
      obtain ⟨x, hx⟩ : ∃ x, x = T.getD k 0 := ⟨_, rfl⟩
      rw [← hx] at hq0 x0 x1 HK1
      have hw : IntKind.u64.wrap x = x := IntWalk.u64_in _ (by omega)
      have hHR := Lib.hid (And.intro hne hrow)
      clear hx hS hne hrow
      go_wp2_with (at_builtin; refine wpList_append_own_at _ rfl _ _ 50 rfl W.heap.size 54 i0 (.int .u64 0) 1 8 Try.underlying50 hi8 hz0 hz1 hz2 rfl (by decide) _ _ _ rfl (hown.alloc _) ⟨wr.heap.size, 0, none⟩ 1 1 [_] rfl rfl (cell_one_new _ _ _) ?c2 ?c3 ?c4 ?c5 ?_)
      case c2 => intro u hu; simp at hu; subst hu; rfl
      case c3 => unfold maxLen; omega
      case c4 => omega
      case c5 => have := hbel.size; simp; omega
      intro v1 w1 hown1 hgrow _ hvb
      have R : Hid (w1.ownsRow W.heap.size 54 1 v1 (1 + (k + 1)) ((21324 :: T.take (k + 1)).map (Value.int .u64)) ∧ v1.ownBlock ≠ some (W.heap.size + 1) ∧ IRow 3 (W.heap.size + 1) T w1 ∧ Below W.heap.size W w1) := by
        obtain ⟨hne, hrow⟩ := hHR.out
        refine ⟨?_, ?_, ?_, (hbel.alloc hbel.size _).grown hgrow (by have := hbel.size; simp; omega) fun q hq => (hown.lt q hq).1⟩
        · have e : (21324 :: (T.take k ++ [x])).map (Value.int .u64) = Value.int .u64 21324 :: ((T.map (Value.int .u64)).take k ++ [Value.int .u64 x]) := by simp [List.map_take]
          rw [HK1.out, ← Nat.add_assoc, e]; exact hown1
        · rcases hvb with h | h
          · rw [h]; exact hne
          · rw [h]; intro e; injection e with e; simp at e; omega
        · show _ = _
          rw [hgrow.block _ (by simp; omega) (fun e => hne e.symm), Below.heap_alloc _ _ _ hq1]; exact hrow
      obtain ⟨A3, c3, rfl⟩ := own_slice R.out.1
      clear hown1 hgrow hown hbel hHR hvb hq0 hq1 hw
      go_wp2
      go_roundw
      case rel => first | exact ⟨k + 1, by omega, by go_num, ⟨A3, c3, rfl⟩, R⟩ | ((repeat apply Exists.intro); exact ⟨⟨k + 1, by omega, by go_num, ⟨A3, c3, rfl⟩, R⟩, rfl⟩)
      case measure => first | (simp [intOf]; done) | (simp [intOf]; omega)
    · have hk9 : k = 9 := by omega
      subst hk9
      have HR : Hid (Ints wr wr.heap.size .u64 A1 (numL l) ∧ Below w.heap.size w wr) := by
        obtain ⟨hown, _, _, hbel⟩ := hS.out
        rw [HT9.out] at hown
        refine ⟨?_, hbw.out.trans (hbel.mono hbw.out.size)⟩
        rw [HNL.out]
        exact Ints.of_own (n := 10) (c := c1) (by have e : (21324 :: T).length = 10 := by rw [List.length_cons, HNT.out]
                                                  rw [e]; exact hown)
      clear hS
      go_wp2
      go_ret
      exact ⟨A1, c1, rfl, HR.out.1, HR.out.2⟩

end Go.Proofs.Ytbfchclfonicmaa
