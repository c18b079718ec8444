/-
  The document's own Decode (stowageref15).
-/
import Derived.Test.YtbfchclfonicmaaLineRef3
import Derived.Deep.RegionHeld3
import Derived.Deep.DeepCutAuto
import Derived.Deep.TreeCalls
namespace Go.Proofs.Ytbfchclfonicmaa
open Go.RowKit

def zeroV : Array Value := #[.int .i64 0, .int .i64 0, .bool false, .int .i64 0, .int .i64 0, .int .i64 0, .int .i64 0, .int .i64 0, .string ⟨#[]⟩]
theorem Ints.subAt {w : World} {B b o : Nat} {zs : List Int} (h : Ints w B .u8 (some ⟨b, o, none⟩) zs) {i j : Nat} (hij : i < j) (hj : j ≤ zs.length) : Ints w B .u8 (some ⟨b, o + i, none⟩) (sub zs i j) := fun k hk => by
  have hl : (sub zs i j).length = j - i := by unfold sub; rw [List.length_take, List.length_drop]; omega
  rw [hl] at hk
  obtain ⟨b', o', e, hb, hc⟩ := h (i + k) (by omega)
  injection e with e
  injection e with e1 e2
  subst e1 e2
  refine ⟨b, o + i, rfl, hb, ?_⟩
  rw [Nat.add_assoc, hc]
  unfold sub
  simp [List.getD, List.getElem?_drop, hk]
theorem sub_len {zs : List Int} {i j : Nat} (hij : i ≤ j) (hj : j ≤ zs.length) : (sub zs i j).length = j - i := by unfold sub; rw [List.length_take, List.length_drop]; omega
theorem sub_mem {zs : List Int} (hz : ∀ z ∈ zs, 0 ≤ z ∧ z ≤ 255) (i j : Nat) : ∀ z ∈ sub zs i j, 0 ≤ z ∧ z ≤ 255 := fun z h => hz z (List.mem_of_mem_drop (List.mem_of_mem_take h))

theorem results_row_tmpL {P : Program} {fn : Func} {p u : Tmp} {ty : TypeId} (h : fn.results = #[.cell p ty, .tmp u]) (tmps : Array Value) (w : World) (g : Nat) (t : TypeId) (cs : Array Value) (fr : Nat × Nat) (d : TypeDesc)
    (hp : tmps.getD p undef = .pointer (some ⟨g, 0, none⟩)) (hg : w.heap[g]? = some (.cells cs t fr))
    (hu : P.underlying ty = some d) (hd : (match d with | .struct _ | .array _ _ => true | _ => false) = true) (hi : (P.info? ty).map (·.size) = some cs.size) :
    (results fn tmps).run P w = .ok (.tuple #[.agg cs, tmps.getD u undef]) w := by
  have hp' : tmps[p]?.getD undef = .pointer (some ⟨g, 0, none⟩) := by simpa using hp
  simp [results, h, hp', asAddr, run_loadVar_row w g t ty cs fr d hg hu hd hi]
theorem Try.infoLine : (Try.prog.info? 25).map (·.size) = some 9 := by kernel_rfl
theorem lnV_one (l : Ln) : (lnV l).all (·.oneCell') = true := by simp [lnV, Value.oneCell']
theorem lnV_zero : lnV zeroL = zeroV := rfl

set_option maxHeartbeats 800000 in
/-- A text of another length. -/
theorem refDec_len (A : Option Addr) (N c : Nat) (w : World) (hl : N ≠ 64) :
    Calls Try.prog 14 #[.slice A N c] w fun e w' => e = .returned (.tuple #[.agg zeroV, .int .i64 2]) ∧ Below w.heap.size w w' := by
  have k1 : ((N : Int) != 64) = true := by rw [bne_iff_ne]; omega
  have k2 : ((N : Int) == 64) = false := by rw [beq_eq_false_iff_ne]; omega
  have HZ := Lib.hid (fun o => heap_alloc_new w (.cells o 25))
  have hb : Below w.heap.size w (w.alloc (.cells #[.int .i64 0, .int .i64 0, .bool false, .int .i64 0, .int .i64 0, .int .i64 0, .int .i64 0, .int .i64 0, .string ⟨#[]⟩] 25)) := (Below.refl _ _).alloc (Nat.le_refl _) _
  have HB := Lib.hid hb
  have hinf : (Try.prog.info? 25).map (·.size) = some zeroV.size := Try.infoLine
  have hone : zeroV.all (·.oneCell') = true := lnV_one zeroL
  have hold : Hid (9 = zeroV.size) := rfl
  have HZV : Hid (zeroV = #[.int .i64 0, .int .i64 0, .bool false, .int .i64 0, .int .i64 0, .int .i64 0, .int .i64 0, .int .i64 0, .string ⟨#[]⟩]) := rfl
  clear hb hl
  go_enter Try.func14, Try.ntmps14
  go_wp2_with (refine wpList_store_fresh rfl 25 _ _ rfl w.heap.size zeroV rfl rfl 25 _ (HZ.out _) hinf hold.out hone HB.out (Nat.le_refl _) ?_; intro W hW hbW hkW hsW; clear hkW hsW)
  exact bodyPost_ret (results_row_tmpL rfl _ _ w.heap.size _ _ _ _ rfl hW Try.underlying25 rfl hinf) rfl ⟨rfl, hbW⟩

end Go.Proofs.Ytbfchclfonicmaa
