/-
  The landed header: Newest: what is there while its two rows grow; where it refuses.
-/
import Derived.Test.YtbmgiekiildaaaaHdC6G
import Derived.Test.YtbmgiekiildaaaaHdC4G
import Derived.Test.YtbmgiekiildaaaaHdC8G
import Derived.Test.YtbmgiekiildaaaaHdLawsG
import Derived.Test.YtbmgiekiildaaaaTableC7G
import Derived.OwnWalk
namespace Go.Proofs.Ytbmgiekiildaaaa
open Go.RowKit

theorem hown_below {wr w' : World} {base e size n : Nat} {v : Value} {xs : List Value} (h : wr.ownsRow base e size v n xs) (hb : Below wr.heap.size wr w') : w'.ownsRow base e size v n xs := by
  refine ⟨h.1, ?_⟩
  rcases h.2 with hn | ⟨g, cap, cur, hv, hbg, hg, rest⟩
  · exact .inl hn
  · exact .inr ⟨g, cap, cur, hv, hbg, (hb.block g (Array.getElem?_eq_some_iff.1 hg).1).trans hg, rest⟩
/-- The two rows, of heads and of numbers, that grow side by side. -/
structure NewS (B : Nat) (W wr : World) (v4 v5 : Value) (cs : List Rc) (ls : List Int) : Prop where
  cnt : wr.ownsRow B 23 6 v4 cs.length (flat hdC cs)
  lst : wr.ownsRow B 3 1 v5 ls.length (ls.map (Value.int .i64))
  apart : Apart v4 v5
  below : Below B W wr
  size : B ≤ wr.heap.size
section
variable {B : Nat} {W wr w' : World} {v4 v5 v4' v5' : Value} {cs : List Rc} {ls : List Int}
theorem NewS.later (h : NewS B W wr v4 v5 cs ls) (hb : Below wr.heap.size wr w') : NewS B W w' v4 v5 cs ls :=
  ⟨hown_below h.cnt hb, hown_below h.lst hb, h.apart, h.below.trans (hb.mono h.size), Nat.le_trans h.size hb.size⟩
theorem NewS.addL (h : NewS B W wr v4 v5 cs ls) {x : Int} (hown : w'.ownsRow B 3 1 v5' (ls.length + 1) (ls.map (Value.int .i64) ++ [Value.int .i64 x])) (hg : wr.grownBy w' v5.ownBlock) (hv : v5'.ownBlock = v5.ownBlock ∨ v5'.ownBlock = some wr.heap.size) :
    NewS B W w' v4 v5' cs (ls ++ [x]) := by
  refine ⟨own_kept h.cnt hg fun q hq hc => h.apart q hc hq, by rw [List.length_append, List.map_append]; exact hown, (Apart.grown h.apart.symm (fun q hq => (h.cnt.lt q hq).2) hv).symm, h.below.grown hg h.size fun q hq => (h.lst.lt q hq).1, Nat.le_trans h.size hg.size⟩
theorem NewS.addC (h : NewS B W wr v4 v5 cs ls) {x : Rc} (hown : w'.ownsRow B 23 6 v4' (cs.length + 1) (flat hdC cs ++ hdC x)) (hg : wr.grownBy w' v4.ownBlock) (hv : v4'.ownBlock = v4.ownBlock ∨ v4'.ownBlock = some wr.heap.size) :
    NewS B W w' v4' v5 (cs ++ [x]) ls := by
  refine ⟨by rw [List.length_append, flat_snoc]; exact hown, own_kept h.lst hg fun q hq hc => h.apart.symm q hc hq, Apart.grown h.apart (fun q hq => (h.lst.lt q hq).2) hv, h.below.grown hg h.size fun q hq => (h.cnt.lt q hq).1, Nat.le_trans h.size hg.size⟩
end
/-- A volume of a row, whole. -/
def hvC (v : Vol) : List Value := (volV v).toList
theorem vols_mid {w : World} {B : Nat} {A : Option Addr} {vs : List Vol} (h : VolsAt w B A vs) {k : Nat} (hk : k < vs.length) : ∃ b off, A = some ⟨b, off, none⟩ ∧ b < B ∧ w.rangeAt b (off + k * 4) (hvC (vs.getD k ⟨0, 0, 0, 0⟩)) := by
  obtain ⟨b, off, e, hl, c0, c1, c2, c3⟩ := h k hk
  refine ⟨b, off, e, hl, fun j v hj => ?_⟩
  have hg : vs.getD k ⟨0, 0, 0, 0⟩ = vs[k] := by rw [List.getD_eq_getElem?_getD, List.getElem?_eq_getElem hk]; rfl
  rw [hg] at hj
  match j, hj with
  | 0, hj => rw [← hj]; exact c0
  | 1, hj => rw [← hj]; exact c1
  | 2, hj => rw [← hj]; exact c2
  | 3, hj => rw [← hj]; exact c3
  | j + 4, hj => simp [hvC, volV] at hj
theorem Try.infoVolH : (Try.prog.info? 46).map (·.size) = some 4 := by kernel_rfl
theorem Try.infoTabH : (Try.prog.info? 38).map (·.size) = some 3 := by kernel_rfl
theorem Try.infoIntH : (Try.prog.info? 3).map (fun i => (i.zero, i.size, i.bytes)) = some (some (.int .i64 0), 1, 8) := by kernel_rfl
theorem htab_box (w : World) (V : TabW) (t : Tab) (T : TypeId) : ((w.alloc (.cells (tabV V t) T)).cell? ⟨w.heap.size, 1, none⟩ = some (.slice V.A2 t.vs.length V.c2) ∧ (w.alloc (.cells (tabV V t) T)).cell? ⟨w.heap.size, 2, none⟩ = some (.slice V.A3 t.os.length V.c3)) ∧ (w.alloc (.cells (tabV V t) T)).heap[w.heap.size]? = some (.cells (tabV V t) T (0, 0)) ∧ Below w.heap.size w (w.alloc (.cells (tabV V t) T)) := by
  have h := heap_alloc_new w (.cells (tabV V t) T)
  exact ⟨⟨by rw [cell_of_row _ _ _ _ _ _ h]; rfl, by rw [cell_of_row _ _ _ _ _ _ h]; rfl⟩, h, (Below.refl _ _).alloc (Nat.le_refl _) _⟩

set_option maxHeartbeats 1600000 in
set_option maxRecDepth 20000 in
/-- 'Newest', where it refuses. -/
theorem hNewest_no (V : TabW) (t : Tab) (A : Option Addr) (c : Nat) (n : Nat) (w : World) (h : TabAt w w.heap.size V t) (ho : t.ok) (hbad : ¬ t.sound ∨ n ≠ t.os.length) :
    Calls Try.prog 14 #[.agg (tabV V t), .slice A n c] w fun e w' => e = .returned (.tuple #[.slice none 0 0, .slice none 0 0, .int .i64 2]) ∧ Below w.heap.size w w' := by
  obtain ⟨⟨F1, F2⟩, hrow, hb0⟩ := htab_box w V t 38
  have HCK : Hid (∀ S : Bool, (S = true ↔ t.sound) → Calls Try.prog 26 #[.agg (tabV V t)] (w.alloc (.cells (tabV V t) 38)) fun e w' => e = .returned (.int .i64 (if S then 0 else 2)) ∧ Below (w.alloc (.cells (tabV V t) 38)).heap.size (w.alloc (.cells (tabV V t) 38)) w') := fun S hS => check_any V t _ ((h.below hb0).more hb0.size) ho S hS
  have hinf : (Try.prog.info? 38).map (·.size) = some (tabV V t).size := Try.infoTabH
  have HR := Lib.hid hrow
  have HB := Lib.hid hb0
  have HSZ : Hid (w.heap.size < (w.alloc (.cells (tabV V t) 38)).heap.size) := by unfold Hid; simp
  obtain ⟨X, hX⟩ : ∃ X, X = w.alloc (.cells (tabV V t) 38) := ⟨_, rfl⟩
  by_cases hs : t.sound
  · have HC := Lib.hid (HCK.out true ⟨fun _ => hs, fun _ => rfl⟩)
    rw [if_pos rfl] at HC
    rw [← hX] at HC HR HB HSZ
    have HXX := Lib.hid hX
    have hne : n ≠ t.os.length := by rcases hbad with q | q; exact absurd hs q; exact q
    have e1 : ((n : Int) != (t.os.length : Int)) = true := by rw [bne_iff_ne]; omega
    obtain ⟨P, hP⟩ : ∃ P, P = tabV V t := ⟨_, rfl⟩
    have HF2 : Hid (∀ W : World, W.heap[w.heap.size]? = some (.cells P 38 (0, 0)) → W.cell? ⟨w.heap.size, 2, none⟩ = some (.slice V.A3 t.os.length V.c3)) := fun W q => by rw [hP] at q; rw [cell_of_row _ _ _ _ _ _ q]; rfl
    simp only [← hP] at HC HR hinf HXX
    rw [← hP]
    clear HCK F1 F2 hrow hb0 h ho hbad hs hne hX hP
    go_enter Try.func14, Try.ntmps14
    go_wp2_with (first
      | (rw [← HXX.out]; refine wpList_load_row rfl 38 _ rfl w.heap.size rfl 38 _ (0, 0) _ HR.out Try.underlying38 rfl hinf ?_)
      | (go_at_call 26; with_reducible (refine Calls.mono HC.out ?_); rintro e w1 ⟨rfl, hb1⟩; have hr1 := (hb1.block _ HSZ.out).trans HR.out; have f2 := HF2.out w1 hr1; clear hr1))
    go_ret3
    exact ⟨rfl, HB.out.trans (hb1.mono HB.out.size)⟩
  · have HC := Lib.hid (HCK.out false ⟨fun q => absurd q (by decide), fun q => absurd q hs⟩)
    rw [if_neg (by decide)] at HC
    rw [← hX] at HC HR HB
    have HXX := Lib.hid hX
    obtain ⟨P, hP⟩ : ∃ P, P = tabV V t := ⟨_, rfl⟩
    simp only [← hP] at HC HR hinf HXX
    rw [← hP]
    clear HCK F1 F2 hrow hb0 h ho hbad hs hX hP
    go_enter Try.func14, Try.ntmps14
    go_wp2_with (first
      | (rw [← HXX.out]; refine wpList_load_row rfl 38 _ rfl w.heap.size rfl 38 _ (0, 0) _ HR.out Try.underlying38 rfl hinf ?_)
      | (go_at_call 26; with_reducible (refine Calls.mono HC.out ?_); rintro e w1 ⟨rfl, hb1⟩))
    go_ret3
    exact ⟨rfl, HB.out.trans (hb1.mono HB.out.size)⟩

end Go.Proofs.Ytbmgiekiildaaaa
