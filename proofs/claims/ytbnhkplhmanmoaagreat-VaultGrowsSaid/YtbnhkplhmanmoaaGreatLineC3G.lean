/-
  The landed line: numbers, of a line that is in range. Written by wip/gen/line_c3.py. A row of bytes that lies whole in a block of one's own: what it holds; make of 64; copy of bytes and of a text into it. Rows of numbers of 32 bits in memory: the cells of a block.
-/
import Derived.Test.YtbnhkplhmanmoaaGreatLineC2G
import Derived.Test.YtbnhkplhmanmoaaGreatWordsG
import Derived.Test.YtbnhkplhmanmoaaGreatChecked
import Derived.Lib.BufferWrite
import Derived.Deep.OwnRows
import Derived.Deep.WholeRow
import Derived.Deep.MidRow
import Derived.Laws.CopyOwn
namespace Go.Proofs.YtbnhkplhmanmoaaGreat
open Go.RowKit

/-- The numbers ahead of the key, but for the mark. -/
def tailL (l : Ln) : List Int := [l.g, l.s, lastN l.last, l.r.k, l.r.a, l.r.b, l.r.c, l.r.d, (l.r.key.size : Nat)]
def numL (l : Ln) : List Int := 21324 :: tailL l
theorem tailL_at {l : Ln} (hE : encE l = 0) : ∀ i, i < 9 → 0 ≤ (tailL l).getD i 0 ∧ (tailL l).getD i 0 ≤ 1099511627776 := by
  obtain ⟨hr, hk⟩ := encE_zero.1 hE
  obtain ⟨q1, q2, q3, q4, q5, q6, q7⟩ := (rangeL_iff l).1 hr
  have hlast : 0 ≤ lastN l.last ∧ lastN l.last ≤ 1 := by unfold lastN; split <;> decide
  intro i hi
  match i, hi with
  | 0, _ => show 0 ≤ l.g ∧ l.g ≤ _; omega
  | 1, _ => show 0 ≤ l.s ∧ l.s ≤ _; omega
  | 2, _ => show 0 ≤ lastN l.last ∧ lastN l.last ≤ _; omega
  | 3, _ => show 0 ≤ l.r.k ∧ l.r.k ≤ _; omega
  | 4, _ => show 0 ≤ l.r.a ∧ l.r.a ≤ _; omega
  | 5, _ => show 0 ≤ l.r.b ∧ l.r.b ≤ _; omega
  | 6, _ => show 0 ≤ l.r.c ∧ l.r.c ≤ _; omega
  | 7, _ => show 0 ≤ l.r.d ∧ l.r.d ≤ _; omega
  | 8, _ => show 0 ≤ ((l.r.key.size : Nat) : Int) ∧ ((l.r.key.size : Nat) : Int) ≤ _; omega
theorem Tryz.infoU64L : (Tryz.prog.info? 163).map (fun i => (i.zero, i.size, i.bytes)) = some (some (.int .u64 0), 1, 8) := by kernel_rfl

set_option maxHeartbeats 1600000 in
set_option maxRecDepth 20000 in
/-- 'numbers'. -/
theorem numbers_any (l : Ln) (w : World) (hE : encE l = 0) :
    Calls Tryz.prog 114 #[.agg (lnV l)] w fun e w' => ∃ A c, e = .returned (.slice A 10 c) ∧ Ints w' w'.heap.size .u64 A (numL l) ∧ Below w.heap.size w w' := by
  obtain ⟨i0, hi8, hz0, hz1, hz2⟩ := info_parts Tryz.infoU64L
  have HFL := Lib.hid (fun W => flag_any l.last W)
  have HTB := Lib.hid (tailL_at hE)
  have HTT : Hid (ICs (tailL l) = #[.int .i64 l.g, .int .i64 l.s, .int .i64 (lastN l.last), .int .i64 l.r.k, .int .i64 l.r.a, .int .i64 l.r.b, .int .i64 l.r.c, .int .i64 l.r.d, .int .i64 (l.r.key.size : Nat)]) := rfl
  obtain ⟨T, hT⟩ : ∃ T, T = tailL l := ⟨_, rfl⟩
  have nT : T.length = 9 := by rw [hT]; rfl
  have HNL : Hid (numL l = 21324 :: T) := by rw [hT]; rfl
  rw [← hT] at HTB HTT
  obtain ⟨la, hla⟩ : ∃ x, x = lastN l.last := ⟨_, rfl⟩
  rw [← hla] at HFL HTT
  clear hE hT hla
  have hinf : (Tryz.prog.info? 56).map (·.size) = some (rcV l.r).size := Tryz.infoRec
  have hinf2 : (Tryz.prog.info? 56).map (·.size) = some (rcV l.r).toList.length := Tryz.infoRec
  have hone := rcV_one l.r
  have HRA : Hid ((w.alloc (.cells (lnV l) 135)).rangeAt w.heap.size 3 (rcV l.r).toList) := (ln_cells (heap_alloc_new w (.cells (lnV l) 135)) (Below.refl _ _)).2.2.2
  have HLN : Hid (∀ W W' : World, W.heap[w.heap.size]? = some (.cells (lnV l) 135 (0, 0)) → Below W.heap.size W W' → W'.cell? ⟨w.heap.size, 0, none⟩ = some (.int .i64 l.g) ∧ W'.cell? ⟨w.heap.size, 1, none⟩ = some (.int .i64 l.s) ∧ W'.cell? ⟨w.heap.size, 2, none⟩ = some (.bool l.last)) :=
    fun W W' h hb => ⟨(ln_cells h hb).1, (ln_cells h hb).2.1, (ln_cells h hb).2.2.1⟩
  have HRC : Hid (∀ W W' : World, W.heap[w.heap.size + 1]? = some (.cells (rcV l.r) 56 (0, 0)) → Below W.heap.size W W' → W'.cell? ⟨w.heap.size + 1, 0, none⟩ = some (.int .i64 l.r.k) ∧ W'.cell? ⟨w.heap.size + 1, 1, none⟩ = some (.int .i64 l.r.a) ∧ W'.cell? ⟨w.heap.size + 1, 2, none⟩ = some (.int .i64 l.r.b) ∧ W'.cell? ⟨w.heap.size + 1, 3, none⟩ = some (.int .i64 l.r.c) ∧ W'.cell? ⟨w.heap.size + 1, 4, none⟩ = some (.int .i64 l.r.d) ∧ W'.cell? ⟨w.heap.size + 1, 5, none⟩ = some (.string l.r.key)) :=
    fun W W' h hb => rc_cells h hb
  have HZ : Hid (((w.alloc (.cells (lnV l) 135)).alloc (.cells #[.int .i64 0, .int .i64 0, .int .i64 0, .int .i64 0, .int .i64 0, .string ⟨#[]⟩] 56)).heap[w.heap.size + 1]? = some (.cells #[.int .i64 0, .int .i64 0, .int .i64 0, .int .i64 0, .int .i64 0, .string ⟨#[]⟩] 56 (0, 0))) := by
    have := heap_alloc_new (w.alloc (.cells (lnV l) 135)) (.cells #[.int .i64 0, .int .i64 0, .int .i64 0, .int .i64 0, .int .i64 0, .string ⟨#[]⟩] 56)
    rwa [show (w.alloc (.cells (lnV l) 135)).heap.size = w.heap.size + 1 by simp] at this
  have HQ : Hid (∀ o, ((w.alloc (.cells (lnV l) 135)).alloc o).heap[w.heap.size]? = some (.cells (lnV l) 135 (0, 0))) := fun o => by
    rw [Below.heap_alloc _ _ _ (by simp)]; exact heap_alloc_new _ _
  have HB : Hid (∀ o o', Below w.heap.size w ((w.alloc o).alloc o')) := fun o o' => ((Below.refl _ _).alloc (Nat.le_refl _) _).alloc (by simp) _
  obtain ⟨L, hL⟩ : ∃ L, L = lnV l := ⟨_, rfl⟩
  simp only [← hL] at HRA HLN HZ HQ
  rw [← hL]
  obtain ⟨R, hR⟩ : ∃ L, L = rcV l.r := ⟨_, rfl⟩
  rw [← hR] at hinf hinf2 hone HRA
  simp only [← hR] at HRC
  have hRT : R.toList.toArray = R := Array.toArray_toList
  obtain ⟨C, hC⟩ : ∃ L, L = R.toList := ⟨_, rfl⟩
  rw [← hC] at hinf2 HRA hRT
  have hold : Hid (6 = R.size) := by rw [hR]; rfl
  clear hL hR hC
  go_enter Tryz.func114, Tryz.ntmps114
  go_wp2_with (first
    | (refine wpList_load_mid rfl 56 _ rfl w.heap.size 3 rfl C _ HRA.out Tryz.underlying56 rfl hinf2 ?_; rw [hRT])
    | (refine wpList_store_fresh rfl 56 _ _ rfl (w.heap.size + 1) R rfl rfl 56 _ HZ.out hinf hold.out hone (HB.out _ _) (Nat.le_succ _) ?_; intro W hW hbW hkW hsW
       have hqW := (hkW _ (Nat.ne_of_lt (Nat.lt_succ_self _))).trans (HQ.out _)
       obtain ⟨l0, l1, l2⟩ := HLN.out W W hqW (Below.refl _ _)
       obtain ⟨r0, r1, r2, r3, r4, r5⟩ := HRC.out W W hW (Below.refl _ _)
       have HW := Lib.hid hW
       have HQW := Lib.hid hqW
       clear hW hkW hsW hqW))

  have hba : Below W.heap.size W (W.alloc (.cells #[.int .u64 21324] 163)) := (Below.refl _ _).alloc (Nat.le_refl _) _
  have hbx := hba.drew
  have hbb := fun o : Obj => (hba.alloc hba.size o).drew
  have HKS : Hid (∀ V, Below W.heap.size W V → V.cell? ⟨w.heap.size, 0, none⟩ = some (.int .i64 l.g) ∧ V.cell? ⟨w.heap.size, 1, none⟩ = some (.int .i64 l.s) ∧ V.cell? ⟨w.heap.size, 2, none⟩ = some (.bool l.last) ∧ V.cell? ⟨w.heap.size + 1, 0, none⟩ = some (.int .i64 l.r.k) ∧ V.cell? ⟨w.heap.size + 1, 1, none⟩ = some (.int .i64 l.r.a) ∧ V.cell? ⟨w.heap.size + 1, 2, none⟩ = some (.int .i64 l.r.b) ∧ V.cell? ⟨w.heap.size + 1, 3, none⟩ = some (.int .i64 l.r.c) ∧ V.cell? ⟨w.heap.size + 1, 4, none⟩ = some (.int .i64 l.r.d) ∧ V.cell? ⟨w.heap.size + 1, 5, none⟩ = some (.string l.r.key)) := fun V hb => by
    obtain ⟨a0, a1, a2⟩ := HLN.out W _ HQW.out hb
    obtain ⟨s0, s1, s2, s3, s4, s5⟩ := HRC.out W _ HW.out hb
    exact ⟨a0, a1, a2, s0, s1, s2, s3, s4, s5⟩
  clear l0 l1 l2 r0 r1 r2 r3 r4 r5
  go_region_held3 (fun V => V.cell? ⟨w.heap.size, 0, none⟩ = some (.int .i64 l.g) ∧ V.cell? ⟨w.heap.size, 1, none⟩ = some (.int .i64 l.s) ∧ V.cell? ⟨w.heap.size, 2, none⟩ = some (.bool l.last) ∧ V.cell? ⟨w.heap.size + 1, 0, none⟩ = some (.int .i64 l.r.k) ∧ V.cell? ⟨w.heap.size + 1, 1, none⟩ = some (.int .i64 l.r.a) ∧ V.cell? ⟨w.heap.size + 1, 2, none⟩ = some (.int .i64 l.r.b) ∧ V.cell? ⟨w.heap.size + 1, 3, none⟩ = some (.int .i64 l.r.c) ∧ V.cell? ⟨w.heap.size + 1, 4, none⟩ = some (.int .i64 l.r.d) ∧ V.cell? ⟨w.heap.size + 1, 5, none⟩ = some (.string l.r.key))
    (first
      | exact HKS.out _ hba
      | exact HKS.out _ hbx
      | exact HKS.out _ (hbb _))
    (first
      | (go_at_call 143; with_reducible (refine Calls.mono (HFL.out _) ?_); rintro e wq ⟨rfl, rfl⟩)
      | fail)
  rw [← HTT.out]
  have HC : Hid (((W.alloc (.cells #[.int .u64 21324] 163)).alloc (.cells (ICs T) 3)).drew.ownsRow W.heap.size 163 1 (.slice (some ⟨W.heap.size, 0, none⟩) 1 1) 1 [.int .u64 21324] ∧ IRow 3 (W.heap.size + 1) T ((W.alloc (.cells #[.int .u64 21324] 163)).alloc (.cells (ICs T) 3)).drew ∧ Below W.heap.size W ((W.alloc (.cells #[.int .u64 21324] 163)).alloc (.cells (ICs T) 3)).drew) := by
    refine ⟨((World.ownsRow_lit (base := W.heap.size) (e := 163) (size := 1) W #[.int .u64 21324] 1 (Nat.le_refl _) (by decide) rfl).alloc _), ?_, hbb _⟩
    have h := IRow.new (W.alloc (.cells #[.int .u64 21324] 163)) 3 T
    rw [show (W.alloc (.cells #[.int .u64 21324] 163)).heap.size = W.heap.size + 1 by simp] at h
    exact h
  obtain ⟨V, hV⟩ : ∃ V, V = ((W.alloc (.cells #[.int .u64 21324] 163)).alloc (.cells (ICs T) 3)).drew := ⟨_, rfl⟩
  rw [← hV] at HC ⊢
  have HNK : Hid (∀ k, k < 9 → T.take (k + 1) = T.take k ++ [T.getD k 0]) := fun k hk => take_snoc T k (by omega)
  have HT9 : Hid (T.take 9 = T) := List.take_of_length_le (by omega)
  have HNT := Lib.hid nT
  have hbw := Lib.hid hbW
  clear hV HTT HKS hba hbb hbx hbW HLN HRC HRA HZ HQ HB HFL hinf hinf2 hone hRT hold HW HQW nT
  go_wp2
  go_loopw [4, 32] (fun v i wr => ∃ k : Nat, k ≤ 9 ∧ i = .int .i64 k ∧ (∃ A c, v = .slice A (1 + k) c) ∧ Hid (wr.ownsRow W.heap.size 163 1 v (1 + k) ((21324 :: T.take k).map (Value.int .u64)) ∧ v.ownBlock ≠ some (W.heap.size + 1) ∧ IRow 3 (W.heap.size + 1) T wr ∧ Below W.heap.size W wr)) (fun _ i _ => 9 - (intOf i).toNat)
  case atStart =>
    refine ⟨0, Nat.zero_le _, rfl, ⟨_, _, rfl⟩, HC.out.1, fun h => ?_, HC.out.2⟩
    have : W.heap.size = W.heap.size + 1 := by injection h
    omega
  case round =>
    obtain ⟨k, hk, rfl, ⟨A1, c1, rfl⟩, hS⟩ := hrel
    clear HC
    by_cases hlt : k < 9
    · obtain ⟨hown, hne, hrow, hbel⟩ := hS.out
      have hq0 := hrow.cell (i := k) (by have := HNT.out; omega)
      obtain ⟨x0, x1⟩ := HTB.out k hlt
      have HK1 := Lib.hid (HNK.out k hlt)
      have k1 : (k : Int) < 9 := by omega
      have k0 : (0 : Int) ≤ (k : Int) := by omega
      have hq1 := hrow.lt
      obtain ⟨x, hx⟩ : ∃ x, x = T.getD k 0 := ⟨_, rfl⟩
      rw [← hx] at hq0 x0 x1 HK1
      have hw : IntKind.u64.wrap x = x := IntWalk.u64_in _ (by omega)
      have hHR := Lib.hid (And.intro hne hrow)
      clear hx hS hne hrow
      go_wp2_with (at_builtin; refine wpList_append_own_at _ rfl _ _ 159 rfl W.heap.size 163 i0 (.int .u64 0) 1 8 Tryz.underlying159 hi8 hz0 hz1 hz2 rfl (by decide) _ _ _ rfl (hown.alloc _) ⟨wr.heap.size, 0, none⟩ 1 1 [_] rfl rfl (cell_one_new _ _ _) ?c2 ?c3 ?c4 ?c5 ?_)
      case c2 => intro u hu; simp at hu; subst hu; rfl
      case c3 => unfold maxLen; omega
      case c4 => omega
      case c5 => have := hbel.size; simp; omega
      intro v1 w1 hown1 hgrow _ hvb
      have R : Hid (w1.ownsRow W.heap.size 163 1 v1 (1 + (k + 1)) ((21324 :: T.take (k + 1)).map (Value.int .u64)) ∧ v1.ownBlock ≠ some (W.heap.size + 1) ∧ IRow 3 (W.heap.size + 1) T w1 ∧ Below W.heap.size W w1) := by
        obtain ⟨hne, hrow⟩ := hHR.out
        refine ⟨?_, ?_, ?_, (hbel.alloc hbel.size _).grown hgrow (by have := hbel.size; simp; omega) fun q hq => (hown.lt q hq).1⟩
        · have e : (21324 :: (T.take k ++ [x])).map (Value.int .u64) = Value.int .u64 21324 :: ((T.map (Value.int .u64)).take k ++ [Value.int .u64 x]) := by simp [List.map_take]
          rw [HK1.out, ← Nat.add_assoc, e]; exact hown1
        · rcases hvb with h | h
          · rw [h]; exact hne
          · rw [h]; intro e; injection e with e; simp at e; omega
        · show _ = _
          rw [hgrow.block _ (by simp; omega) (fun e => hne e.symm), Below.heap_alloc _ _ _ hq1]; exact hrow
      obtain ⟨A3, c3, rfl⟩ := own_slice R.out.1
      clear hown1 hgrow hown hbel hHR hvb hq0 hq1 hw
      go_wp2
      go_roundw
      case rel => first | exact ⟨k + 1, by omega, by go_num, ⟨A3, c3, rfl⟩, R⟩ | ((repeat apply Exists.intro); exact ⟨⟨k + 1, by omega, by go_num, ⟨A3, c3, rfl⟩, R⟩, rfl⟩)
      case measure => first | (simp [intOf]; done) | (simp [intOf]; omega)
    · have hk9 : k = 9 := by omega
      subst hk9
      have HR : Hid (Ints wr wr.heap.size .u64 A1 (numL l) ∧ Below w.heap.size w wr) := by
        obtain ⟨hown, _, _, hbel⟩ := hS.out
        rw [HT9.out] at hown
        refine ⟨?_, hbw.out.trans (hbel.mono hbw.out.size)⟩
        rw [HNL.out]
        exact Ints.of_own (n := 10) (c := c1) (by have e : (21324 :: T).length = 10 := by rw [List.length_cons, HNT.out]
                                                  rw [e]; exact hown)
      clear hS
      go_wp2
      go_ret
      exact ⟨A1, c1, rfl, HR.out.1, HR.out.2⟩

end Go.Proofs.YtbnhkplhmanmoaaGreat

namespace Go.Proofs.YtbnhkplhmanmoaaGreat
open Go.RowKit

def UB (l : List Int) : Array Value := (l.map (Value.int .u8)).toArray
theorem UB_at {l : List Int} {i : Nat} (h : i < l.length) : (UB l)[i]? = some (.int .u8 (l.getD i 0)) := by
  simp [UB, List.getD_eq_getElem?_getD, h]
/-- The bytes l, whole, in block g. -/
def BtRow (t : TypeId) (g : Nat) (l : List Int) (w : World) : Prop := w.heap[g]? = some (.cells (UB l) t (0, 0))
section
variable {t : TypeId} {g : Nat} {l : List Int} {w w' : World}
theorem BtRow.cell (h : BtRow t g l w) {i : Nat} (hi : i < l.length) : w.cell? ⟨g, i, none⟩ = some (.int .u8 (l.getD i 0)) := by
  rw [cell_of_row _ _ _ _ _ _ h, UB_at hi]
theorem BtRow.thaw (h : BtRow t g l w) (i : Nat) : w.frozen? ⟨g, i, none⟩ = false := frozen_of_row _ _ _ _ _ h
theorem BtRow.lt (h : BtRow t g l w) : g < w.heap.size := (Array.getElem?_eq_some_iff.1 h).1
theorem BtRow.ints (h : BtRow t g l w) : Ints w w.heap.size .u8 (some ⟨g, 0, none⟩) l := fun i hi =>
  ⟨g, 0, rfl, h.lt, by rw [Nat.zero_add]; exact h.cell hi⟩
theorem BtRow.below {B : Nat} (h : BtRow t g l w) (hb : Below B w w') (hg : g < B) : BtRow t g l w' := by
  show _ = _
  rw [hb.block g hg]; exact h
theorem BtRow.new (w : World) (t : TypeId) (l : List Int) : BtRow t w.heap.size l (w.alloc (.cells (UB l) t)) := heap_alloc_new w (.cells (UB l) t)
theorem BtRow.set (h : BtRow t g l w) (i : Nat) (x : Int) : BtRow t g (l.set i x) (w.setCell ⟨g, i, none⟩ (.int .u8 x)) := by
  show _ = _
  have e : (w.setCell ⟨g, i, none⟩ (.int .u8 x)).heap[g]? = some (.cells ((UB l).setIfInBounds i (.int .u8 x)) t (0, 0)) := by
    have h' : w.heap[g]? = some (.cells (UB l) t (0, 0)) := h
    simp [World.setCell, Array.getElem?_modify, h']
  rw [e]
  unfold UB
  rw [List.setIfInBounds_toArray, List.map_set]
end
/-- Bytes laid over others, from a place on. -/
def overI (cur : List Int) (off : Nat) (l : List Int) : List Int := cur.take off ++ (l ++ cur.drop (off + l.length))
theorem over_splice (cur l : List Int) (off : Nat) : (Go.splice (cur.map (Value.int .u8)) off (l.map (Value.int .u8))).toArray = UB (overI cur off l) := by
  unfold Go.splice UB overI
  simp only [List.map_append, List.map_take, List.map_drop, List.length_map]
theorem Tryz.infoU8B : (Tryz.prog.info? 5).map (fun i => (i.zero, i.size, i.bytes)) = some (some (.int .u8 0), 1, 1) := by kernel_rfl
/-- 'make([]byte, n)'. -/
theorem makeBytes (n : Nat) (hn : n ≤ 100000) (w : World) : (Instr.makeSlice 54 (.int .i64 (n : Int)) (.int .i64 (n : Int))).run Tryz.prog w = .ok (.slice (some ⟨w.heap.size, 0, none⟩) n n) (w.alloc (.cells (UB (List.replicate n 0)) 5)) := by
  have h := run_make_row' (P := Tryz.prog) 54 5 (.int .u8 0) 1 Tryz.underlying54 Tryz.infoU8B rfl .i64 .i64 n (by omega) (by omega) w
  rw [show madeCells #[Value.int .u8 0] n = UB (List.replicate n 0) from Array.toList_inj.1 (by rw [toList_madeCells_one]; simp [UB])] at h
  exact h
theorem src_of_ints {w : World} {B : Nat} {A : Option Addr} {l : List Int} (h : Ints w B .u8 A l) (h0 : 0 < l.length) : ∃ ad, A = some ad ∧ ∀ j v, (l.map (Value.int .u8))[j]? = some v → w.cell? (ad.add j) = some v := by
  obtain ⟨b, off, rfl, _, hc⟩ := h.at_ h0
  refine ⟨_, rfl, fun j v hv => ?_⟩
  have hj : j < l.length := by
    rcases Nat.lt_or_ge j l.length with q | q
    · exact q
    · rw [List.getElem?_eq_none (by rw [List.length_map]; exact q)] at hv; cases hv
  have hadd : (⟨b, off, none⟩ : Addr).add j = ⟨b, off + j, none⟩ := by unfold Addr.add; split <;> simp_all
  rw [hadd, hc j hj, ← hv, List.getElem?_map, List.getElem?_eq_getElem hj]
  simp [List.getD_eq_getElem?_getD, hj]
/-- 'copy(out[off:], b)', all of b. -/
theorem wpList_copy_ints {w : World} {ops : Array Oper} {rest : List Oper} {o : Oper} {a : Act} {Q : Exit → Act → World → Prop} (hgd : o.guard = none) (d s : Operand)
    (ho : o.op = .call { callee := .builtin .copy, args := #[d, s], argTypes := #[54, 54] }) (g off : Nat) (dn dc : Nat) (A : Option Addr) (n c : Nat) (hd : a.eval d = .slice (some ⟨g, off, none⟩) dn dc) (hs : a.eval s = .slice A n c)
    (l cur new : List Int) (hn : l.length = n) (hle : n ≤ dn) (t : TypeId) (hg : BtRow t g cur w) (B1 : Nat) (hI : Ints w B1 .u8 A l) (hfit : off + n ≤ cur.length) (hnew : overI cur off l = new) (B : Nat) (w0 : World) (hb : Below B w0 w) (hBg : B ≤ g)
    (h : ∀ w', BtRow t g new w' → Below B w0 w' → wpList Tryz.prog ops Q rest (a.put o.dst (goInt n)) w') : wpList Tryz.prog ops Q (o :: rest) a w := by
  subst hn hnew
  refine wpList_copy_splice hgd d s 54 54 ho 5 Tryz.underlying54 (by kernel_rfl) _ _ dn dc l.length c hd hs g off (cur.map (Value.int .u8)) t hg (l.map (Value.int .u8)) ?_ (fun h0 => ?_) ?_ ?_ B w0 hb hBg fun w' q1 q2 => ?_
  · rw [List.length_map]; exact (Nat.min_eq_left hle).symm
  · exact ⟨rfl, src_of_ints hI (by simpa using h0)⟩
  · rw [List.length_map, List.length_map]; exact hfit
  · intro v hv; obtain ⟨z, _, rfl⟩ := List.mem_map.1 hv; rfl
  · have q3 := q1.out
    rw [over_splice] at q3
    have e := h w' q3 q2
    rw [List.length_map]
    exact e
/-- A text's bytes, as integers. -/
def strI (s : ByteArray) : List Int := s.data.toList.map fun b => (b.toNat : Int)
theorem strI_len (s : ByteArray) : (strI s).length = s.size := by unfold strI; rw [List.length_map]; rfl
/-- 'copy(out[off:], s)', all of a text, as one step of a region that draws. -/
theorem step_copy_text {ops : Array Oper} {o : Oper} {a : Act} {w : World} {K : Act → World → Prop} {Q : Exit → Act → World → Prop} {E : Prop} (hgd : o.guard = none) (d s : Operand)
    (ho : o.op = .call { callee := .builtin .copy, args := #[d, s], argTypes := #[54, 9] }) (g off : Nat) (dn dc : Nat) (x : ByteArray) (hd : a.eval d = .slice (some ⟨g, off, none⟩) dn dc) (hs : a.eval s = .string x)
    (cur new : List Int) (hle : x.size ≤ dn) (t : TypeId) (hg : BtRow t g cur w) (hfit : off + x.size ≤ cur.length) (hnew : overI cur off (strI x) = new) (B : Nat) (w0 : World) (hb : Below B w0 w) (hBg : B ≤ g)
    (h : ∀ w', Hid (BtRow t g new w') → Below B w0 w' → K (a.put o.dst (goInt x.size)) w') :
    if Region.wanted o (yielded ops a.tmps) = true then Oper.wp Tryz.prog o a w K Q else E := by
  have hw : Region.wanted o (yielded ops a.tmps) = true := by simp [Region.wanted, hgd]
  rw [if_pos hw]
  subst hnew
  have hcur : (UB cur).size = cur.length := by simp [UB]
  have hrun := Lib.run_copy_row_string (P := Tryz.prog) w 54 9 o.type 5 g off dn dc x (UB cur) t Tryz.underlying54 (by kernel_rfl) hg hle (by rw [hcur]; exact hfit)
  unfold Oper.wp
  simp [execOp, ho, resolve, invoke, builtin, hd, hs, hrun, Result.andThen]
  refine h _ ?_ (below_setRow hb hBg _)
  have e := setRow_heap w g (UB cur) ((UB cur).toList.take off ++ Lib.byteCells x.data.toList ++ (UB cur).toList.drop (off + x.size)).toArray t (0, 0) hg
  have e2 : ((UB cur).toList.take off ++ Lib.byteCells x.data.toList ++ (UB cur).toList.drop (off + x.size)).toArray = UB (overI cur off (strI x)) := by
    unfold UB overI
    have e3 : Lib.byteCells x.data.toList = (strI x).map (Value.int .u8) := by unfold Lib.byteCells strI; rw [List.map_map]; rfl
    rw [e3, strI_len]
    simp
  show _ = _
  rw [← e2]
  simpa using e

end Go.Proofs.YtbnhkplhmanmoaaGreat

namespace Go.Proofs.YtbnhkplhmanmoaaGreat
open Go.RowKit

/-- A row of registers. -/
def U (zs : List Nat) : Array Value := (zs.map fun z : Nat => Value.int .u32 (z : Int)).toArray
def Row (w : World) (g : Nat) (t : TypeId) (zs : List Nat) : Prop := w.heap[g]? = some (.cells (U zs) t (0, 0))
theorem U_size (zs : List Nat) : (U zs).size = zs.length := by simp [U]
theorem U_one (zs : List Nat) : (U zs).all (·.oneCell') = true := by
  rw [Array.all_eq_true_iff_forall_mem]
  intro v hv
  simp only [U, List.mem_toArray, List.mem_map] at hv
  obtain ⟨z, _, rfl⟩ := hv
  rfl
theorem U_at (zs : List Nat) (i : Nat) (hi : i < zs.length) : (U zs)[i]? = some (.int .u32 (zs.getD i 0 : Nat)) := by
  simp [U, List.getElem?_eq_getElem hi, List.getD_eq_getElem?_getD]
theorem U_set (zs : List Nat) (i z : Nat) : (U zs).setIfInBounds i (.int .u32 (z : Int)) = U (zs.set i z) := by
  simp [U, List.map_set]
section
variable {w w' : World} {g : Nat} {t : TypeId} {zs : List Nat}
theorem Row.cell (h : Row w g t zs) {i : Nat} (hi : i < zs.length) : w.cell? ⟨g, i, none⟩ = some (.int .u32 (zs.getD i 0 : Nat)) := by
  rw [cell_of_row w g i _ t _ h, U_at zs i hi]
theorem Row.below {B : Nat} (h : Row w g t zs) (hb : Below B w w') (hg : g < B) : Row w' g t zs := (hb.block g hg).trans h
theorem Row.lt (h : Row w g t zs) : g < w.heap.size := by
  by_cases hlt : g < w.heap.size
  · exact hlt
  · have hn : w.heap[g]? = none := by simp; omega
    rw [Row, hn] at h
    cases h
theorem Row.new (w : World) (t : TypeId) (zs : List Nat) : Row (w.alloc (.cells (U zs) t)) w.heap.size t zs := heap_alloc_new _ _
theorem Row.alloc (h : Row w g t zs) (o : Obj) : Row (w.alloc o) g t zs := (Below.heap_alloc w o g h.lt).trans h
theorem Row.set (h : Row w g t zs) (i z : Nat) : Row (w.setCell ⟨g, i, none⟩ (.int .u32 (z : Int))) g t (zs.set i z) := by
  rw [Row, heap_setCell_same w g i _ t _ h, U_set]
theorem Row.other (h : Row w g t zs) (a : Addr) (v : Value) (ha : g ≠ a.block) : Row (w.setCell a v) g t zs := (heap_setCell_other w a g v ha).trans h
theorem Row.laid (h : Row w g t zs) (ys : List Nat) : Row (w.setRow g (U ys)) g t ys := setRow_heap w g _ _ t _ h
theorem Row.beside (h : Row w g t zs) (k : Nat) (cs : Array Value) (hk : g ≠ k) : Row (w.setRow k cs) g t zs := (setRow_other w k g cs hk).trans h
theorem Row.range (h : Row w g t zs) : w.rangeAt g 0 (zs.map fun z : Nat => Value.int .u32 (z : Int)) := fun j v hv => by
  rw [Nat.zero_add, cell_of_row w g j _ t _ h]
  simpa [U] using hv
theorem Row.free (h : Row w g t zs) (j : Nat) : w.frozen? ⟨g, j, none⟩ = false := frozen_of_row w g j _ t h
end

theorem Row.new' (w : World) (t : TypeId) (g : Nat) (zs : List Nat) {cs : Array Value} (hg : g = w.heap.size) (hc : cs = U zs) : Row (w.alloc (.cells cs t)) g t zs := by
  subst hg hc
  exact Row.new w t zs

end Go.Proofs.YtbnhkplhmanmoaaGreat
