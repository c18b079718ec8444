/-
  The law's own 'awake', from what is asked of the layer disk; DiskNone.
-/
import Derived.Test.YtnbgnllkikajpaaDiskAsk
import Derived.Test.YtnbgnllkikajpaaChecked
import Derived.Tactics
import Derived.Tactics2
import Derived.LoopTactic
import Derived.OpenShut
import Derived.WalkLawsBesides
import Derived.BigQuiet
import Derived.Deep.RegionWith
import Derived.Deep.OwnRows
namespace Go.Proofs.Ytnbgnllkikajpaa
open Go.RowKit

section
variable {w0 : World} {Rep : World → Nat → (Nat → Prop) → Dk → Prop}

theorem Try.infoU8s : (Try.prog.info? 5).map (fun i => (i.zero, i.size, i.bytes)) = some (some (.int .u8 0), 1, 1) := by kernel_rfl
/-- Bytes, as cells. -/
def CB (l : List Nat) : Array Value := (l.map fun n : Nat => Value.int .u8 (n : Int)).toArray
theorem CB_at {l : List Nat} {i : Nat} (h : i < l.length) : (CB l)[i]? = some (.int .u8 (l.getD i 0 : Nat)) := by
  simp [CB, List.getD_eq_getElem?_getD, h]
theorem CB_set (l : List Nat) (i x : Nat) : (CB l).setIfInBounds i (.int .u8 (x : Nat)) = CB (l.set i x) := by
  unfold CB
  rw [List.setIfInBounds_toArray, List.map_set]
/-- Bytes that lie whole in a block of their own. -/
def RwB (g : Nat) (l : List Nat) (w : World) : Prop := w.heap[g]? = some (.cells (CB l) 5 (0, 0))
section
variable {g : Nat} {l : List Nat} {w : World}
theorem RwB.cell (h : RwB g l w) {i : Nat} (hi : i < l.length) : w.cell? ⟨g, i, none⟩ = some (.int .u8 (l.getD i 0 : Nat)) := by
  rw [cell_of_row _ _ _ _ _ _ h, CB_at hi]
theorem RwB.thaw (h : RwB g l w) (i : Nat) : w.frozen? ⟨g, i, none⟩ = false := frozen_of_row _ _ _ _ _ h
theorem RwB.lt (h : RwB g l w) : g < w.heap.size := (Array.getElem?_eq_some_iff.1 h).1
theorem RwB.ints (h : RwB g l w) : Ints w w.heap.size .u8 (some ⟨g, 0, none⟩) (up l) := fun i hi => ⟨g, 0, rfl, h.lt, by rw [Nat.zero_add, h.cell (by rwa [up_len] at hi), up_getD]⟩
theorem RwB.set (h : RwB g l w) (i x : Nat) : RwB g (l.set i x) (w.setCell ⟨g, i, none⟩ (.int .u8 (x : Nat))) := by
  show _ = _
  rw [setc_same _ _ _ _ _ _ h, CB_set]
theorem RwB.below {B : Nat} {w' : World} (h : RwB g l w) (hb : Below B w w') (hg : g < B) : RwB g l w' := by
  show _ = _
  rw [hb.block g hg]; exact h
theorem RwB.new (w : World) (l : List Nat) : RwB w.heap.size l (w.alloc (.cells (CB l) 5)) := heap_alloc_new w _
end
theorem make64 (w : World) : (Instr.makeSlice 30 (.int .i64 64) (.int .i64 64)).run Try.prog w = .ok (.slice (some ⟨w.heap.size, 0, none⟩) 64 64) (w.alloc (.cells (CB zeroSec) 5)) := by
  have h := run_make_row' (P := Try.prog) 30 5 (.int .u8 0) 1 Try.underlying30 Try.infoU8s rfl .i64 .i64 64 (by omega) (by omega) w
  rw [show madeCells #[Value.int .u8 0] 64 = CB zeroSec from Array.toList_inj.1 (by rw [toList_madeCells_one]; simp [CB, zeroSec])] at h
  exact h

def wakeD : List Nat := zeroSec.set 0 7
theorem wakeD_sec : Sec wakeD := by unfold Sec wakeD zeroSec; decide +kernel
theorem wake_write : writeE (newD 2) 1 wakeD = 0 ∧ readE (writeS (newD 2) 1 wakeD) 1 = 0 ∧ nowD (writeS (newD 2) 1 wakeD) 1 = wakeD ∧ lastE (writeS (newD 2) 1 wakeD) 1 = 0 ∧ (writeS (newD 2) 1 wakeD).last.getD 1 [] = zeroSec ∧ (writeS (newD 2) 1 wakeD).pend.length = 1 := by decide +kernel

set_option maxHeartbeats 1600000 in
set_option maxRecDepth 20000 in
theorem diskAwake (HS : DiskSpec w0 Rep) (w : World) (hw : Below w0.heap.size w0 w) : Calls Try.prog 10 #[] w fun e w' => e = .returned (.bool true) ∧ Below w.heap.size w w' := by
  have hf : ∀ {F : Nat → Prop}, (∀ b, F b → w.heap.size ≤ b) → ∀ b, F b → w0.heap.size ≤ b := fun hF b hb => Nat.le_trans hw.size (hF b hb)
  have H1 : Hid (Calls Try.prog 9 #[.int .i64 2] w fun e w' => ∃ (p : Nat) (F : Nat → Prop), e = .returned (.tuple #[.pointer (some ⟨p, 0, none⟩), .int .i64 0]) ∧ Rep w' p F (newD 2) ∧ (∀ b, F b → w.heap.size ≤ b) ∧ Below w.heap.size w w') := HS.new 2 w hw (by decide) (by decide)
  have H2 : Hid (∀ (p : Nat) (F : Nat → Prop) (g : Nat) (W W' : World), Below w.heap.size w W → Rep W p F (newD 2) → (∀ b, F b → w.heap.size ≤ b) → g = W.heap.size → W' = W.alloc (.cells ((CB zeroSec).setIfInBounds 0 (.int .u8 7)) 5) → Calls Try.prog 12 #[.pointer (some ⟨p, 0, none⟩), .int .i64 1, .slice (some ⟨g, 0, none⟩) 64 64] W' fun e w' => ∃ F', e = .returned (.int .i64 0) ∧ Rep w' p F' (writeS (newD 2) 1 wakeD) ∧ (∀ b, F' b → w.heap.size ≤ b) ∧ Below w.heap.size w w') := fun p F g W W' hb hr hF hg hW => by
    subst hg
    have h1 : RwB W.heap.size wakeD W' := by rw [hW]; exact (congrArg (fun z => RwB W.heap.size wakeD (W.alloc (.cells z 5))) (CB_set zeroSec 0 7)).mpr (RwB.new W wakeD)
    have hb1 : Below W.heap.size W W' := by rw [hW]; exact (Below.refl _ _).alloc (Nat.le_refl _) _
    have hb2 := chain hb hb1
    have h := HS.write 1 (some ⟨W.heap.size, 0, none⟩) 64 wakeD p F (newD 2) W' (hw.trans (hb2.mono hw.size)) (by unfold I64c; omega) h1.ints wakeD_sec.2 (by decide) (by decide) (fun _ b o e hF' => by
      have := HS.lt W p F _ hr b hF'
      injection e with e
      injection e with e1 _
      omega) (by decide) (HS.later hr hb1) (hf hF)
    rw [wake_write.1] at h
    exact h.mono fun e w' ⟨F', q1, q2, q3, q4⟩ => ⟨F', q1, q2, fun b q => (q3 b q).elim (hF b) (fun q => Nat.le_trans hb2.size q), q4.below hF hb2 hb2.size⟩
  have H3 : Hid (∀ (p : Nat) (F : Nat → Prop) (W : World), Below w.heap.size w W → Rep W p F (writeS (newD 2) 1 wakeD) → (∀ b, F b → w.heap.size ≤ b) → Calls Try.prog 14 #[.pointer (some ⟨p, 0, none⟩), .int .i64 1] W fun e w' => ∃ g o c, e = .returned (.tuple #[.slice (some ⟨g, o, none⟩) 64 c, .int .i64 0]) ∧ w'.cell? ⟨g, o, none⟩ = some (.int .u8 7) ∧ g < w'.heap.size ∧ Rep w' p F (writeS (newD 2) 1 wakeD) ∧ Below W.heap.size W w' ∧ Below w.heap.size w w') := fun p F W hb hr hF => by
    have h := HS.read 1 p F _ W (hw.trans (hb.mono hw.size)) hr (hf hF) wake_write.2.1
    rw [wake_write.2.2.1] at h
    refine h.mono fun e w' ⟨A, c, q1, _, ⟨g, o, hA, _, q3, q4⟩, q5⟩ => ?_
    subst hA
    exact ⟨g, o, c, q1, (q4 0 (by decide)).1, q3, HS.later hr q5, q5, chain hb q5⟩
  have H4 : Hid (∀ (p : Nat) (F : Nat → Prop) (W : World), Below w.heap.size w W → Rep W p F (writeS (newD 2) 1 wakeD) → (∀ b, F b → w.heap.size ≤ b) → Calls Try.prog 21 #[.pointer (some ⟨p, 0, none⟩), .int .i64 1] W fun e w' => ∃ g o c, e = .returned (.tuple #[.slice (some ⟨g, o, none⟩) 64 c, .int .i64 0]) ∧ w'.cell? ⟨g, o, none⟩ = some (.int .u8 0) ∧ Rep w' p F (writeS (newD 2) 1 wakeD) ∧ Below W.heap.size W w' ∧ Below w.heap.size w w') := fun p F W hb hr hF => by
    have h := HS.last 1 p F _ W (hw.trans (hb.mono hw.size)) hr (hf hF) wake_write.2.2.2.1
    rw [wake_write.2.2.2.2.1] at h
    refine h.mono fun e w' ⟨A, c, q1, _, ⟨g, o, hA, _, _, q4⟩, q5⟩ => ?_
    subst hA
    exact ⟨g, o, c, q1, (q4 0 (by decide)).1, HS.later hr q5, q5, chain hb q5⟩
  have H5 : Hid (∀ (p : Nat) (F : Nat → Prop) (W : World), Below w.heap.size w W → Rep W p F (writeS (newD 2) 1 wakeD) → (∀ b, F b → w.heap.size ≤ b) → Calls Try.prog 22 #[.pointer (some ⟨p, 0, none⟩)] W fun e w' => e = .returned (.int .i64 1) ∧ Below w.heap.size w w') := fun p F W hb hr hF => by
    have h := HS.pending p F _ W (hw.trans (hb.mono hw.size)) hr (hf hF)
    rw [wake_write.2.2.2.2.2] at h
    exact h.mono fun e w' ⟨q1, q2⟩ => ⟨q1, chain hb q2⟩
  have hmk := make64
  obtain ⟨Z, hZ⟩ : ∃ Z, Z = CB zeroSec := ⟨_, rfl⟩
  rw [← hZ] at hmk H2
  have hz0 : ∀ W : World, (W.alloc (.cells Z 5)).cell? ⟨W.heap.size, 0, none⟩ = some (.int .u8 0) := fun W => by
    rw [hZ]; exact (RwB.new W zeroSec).cell (i := 0) (by decide)
  have hz1 : ∀ W : World, (W.alloc (.cells Z 5)).frozen? ⟨W.heap.size, 0, none⟩ = false := fun W => by
    rw [hZ]; exact (RwB.new W zeroSec).thaw 0
  clear HS hw hf hZ
  go_enter Try.func10, Try.ntmps10
  go_wp2_with (first
    | (go_at_call 9; with_reducible (refine Calls.mono H1.out ?_); rintro e w1 ⟨p, F, rfl, hr1, hF1, hb1⟩; have y0 := hz0 w1; have y1 := hz1 w1)
    | (go_at_call 12; with_reducible (refine Calls.mono (H2.out _ _ _ _ _ hb1 hr1 hF1 rfl rfl) ?_); rintro e w2 ⟨F2, rfl, hr2, hF2, hb2⟩; clear y0 y1 hb1)
    | (go_at_call 14; with_reducible (refine Calls.mono (H3.out _ _ _ hb2 hr2 hF2) ?_); rintro e w3 ⟨g3, o3, c3, rfl, hc3, hl3, hr3, _, hb3⟩)
    | (go_at_call 21; with_reducible (refine Calls.mono (H4.out _ _ _ hb3 hr3 hF2) ?_); rintro e w4 ⟨g4, o4, c4, rfl, hc4, hr4, hx4, hb4⟩; have hc5 := (hx4.cell (p := ⟨g3, o3, none⟩) hl3).trans hc3; clear hx4)
    | (go_at_call 22; with_reducible (refine Calls.mono (H5.out _ _ _ hb4 hr4 hF2) ?_); rintro e w5 ⟨rfl, hb5⟩))
  go_ret
  exact ⟨rfl, hb5⟩

set_option maxHeartbeats 1600000 in
set_option maxRecDepth 20000 in
/-- DiskNone. -/
theorem diskNone_go (n : Int) (A B : Option Addr) (l c k c2 : Nat) (w : World) (HS : DiskSpec w Rep) :
    Calls Try.prog 6 #[.int .i64 n, .slice A l c, .slice B k c2] w fun e w' => e = .returned (.bool true) ∧ Below w.heap.size w w' := by
  have HA := Lib.hid (fun (W : World) (hb : Below w.heap.size w W) => diskAwake HS W hb)
  have H1 := Lib.hid (fun (W : World) (hb : Below w.heap.size w W) => HS.nlimit n W hb)
  have H2 := Lib.hid (fun (W : World) (hb : Below w.heap.size w W) => HS.ncrash B k c2 W hb)
  have H3 := Lib.hid (fun (W : World) (hb : Below w.heap.size w W) => HS.nread n W hb)
  have H4 := Lib.hid (fun (W : World) (hb : Below w.heap.size w W) => HS.nlast n W hb)
  have H5 := Lib.hid (fun (W : World) (hb : Below w.heap.size w W) => HS.nwrite n A l c W hb)
  have H6 := Lib.hid (fun (W : World) (hb : Below w.heap.size w W) => HS.nflush W hb)
  have H7 := Lib.hid (fun (W : World) (hb : Below w.heap.size w W) => HS.npending W hb)
  have b0 : Below w.heap.size w w := Below.refl _ _
  clear HS
  go_enter Try.func6, Try.ntmps6
  go_wp2_with (first
    | (go_at_call 18; with_reducible (refine Calls.mono (H1.out _ b0) ?_); rintro e w1 ⟨rfl, q1⟩; have b1 := chain b0 q1)
    | (go_at_call 19; with_reducible (refine Calls.mono (H2.out _ b1) ?_); rintro e w2 ⟨rfl, q2⟩; have b2 := chain b1 q2)
    | (go_at_call 14; with_reducible (refine Calls.mono (H3.out _ b2) ?_); rintro e w3 ⟨A3, c3, rfl, q3⟩; have b3 := chain b2 q3)
    | (go_at_call 21; with_reducible (refine Calls.mono (H4.out _ b3) ?_); rintro e w4 ⟨A4, c4, rfl, q4⟩; have b4 := chain b3 q4)
    | (go_at_call 10; with_reducible (refine Calls.mono (HA.out _ b4) ?_); rintro e w5 ⟨rfl, q5⟩; have b5 := chain b4 q5)
    | (go_at_call 12; with_reducible (refine Calls.mono (H5.out _ b5) ?_); rintro e w6 ⟨rfl, q6⟩; have b6 := chain b5 q6)
    | (go_at_call 16; with_reducible (refine Calls.mono (H6.out _ b6) ?_); rintro e w7 ⟨rfl, q7⟩; have b7 := chain b6 q7)
    | (go_at_call 22; with_reducible (refine Calls.mono (H7.out _ b7) ?_); rintro e w8 ⟨rfl, q8⟩; have b8 := chain b7 q8))
  go_ret
  exact ⟨rfl, b8⟩
end

end Go.Proofs.Ytnbgnllkikajpaa
