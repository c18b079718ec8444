/-
  A row of bytes that lies whole in a block of one's own: what it holds; make of 64; copy of bytes and of a text into it.
-/
import Derived.Test.YtbmgiekiildaaaaArrs
import Derived.Test.YtbmgiekiildaaaaChecked
import Derived.Lib.BufferWrite
import Derived.Deep.OwnRows
namespace Go.Proofs.Ytbmgiekiildaaaa
open Go.RowKit

def UB (l : List Int) : Array Value := (l.map (Value.int .u8)).toArray
theorem UB_at {l : List Int} {i : Nat} (h : i < l.length) : (UB l)[i]? = some (.int .u8 (l.getD i 0)) := by
  simp [UB, List.getD_eq_getElem?_getD, h]
/-- The bytes l, whole, in block g. -/
def BtRow (t : TypeId) (g : Nat) (l : List Int) (w : World) : Prop := w.heap[g]? = some (.cells (UB l) t (0, 0))
section
variable {t : TypeId} {g : Nat} {l : List Int} {w w' : World}
theorem BtRow.cell (h : BtRow t g l w) {i : Nat} (hi : i < l.length) : w.cell? ⟨g, i, none⟩ = some (.int .u8 (l.getD i 0)) := by
  rw [cell_of_row _ _ _ _ _ _ h, UB_at hi]
theorem BtRow.thaw (h : BtRow t g l w) (i : Nat) : w.frozen? ⟨g, i, none⟩ = false := frozen_of_row _ _ _ _ _ h
theorem BtRow.lt (h : BtRow t g l w) : g < w.heap.size := (Array.getElem?_eq_some_iff.1 h).1
theorem BtRow.ints (h : BtRow t g l w) : Ints w w.heap.size .u8 (some ⟨g, 0, none⟩) l := fun i hi =>
  ⟨g, 0, rfl, h.lt, by rw [Nat.zero_add]; exact h.cell hi⟩
theorem BtRow.below {B : Nat} (h : BtRow t g l w) (hb : Below B w w') (hg : g < B) : BtRow t g l w' := by
  show _ = _
  rw [hb.block g hg]; exact h
theorem BtRow.new (w : World) (t : TypeId) (l : List Int) : BtRow t w.heap.size l (w.alloc (.cells (UB l) t)) := heap_alloc_new w (.cells (UB l) t)
theorem BtRow.set (h : BtRow t g l w) (i : Nat) (x : Int) : BtRow t g (l.set i x) (w.setCell ⟨g, i, none⟩ (.int .u8 x)) := by
  show _ = _
  have e : (w.setCell ⟨g, i, none⟩ (.int .u8 x)).heap[g]? = some (.cells ((UB l).setIfInBounds i (.int .u8 x)) t (0, 0)) := by
    have h' : w.heap[g]? = some (.cells (UB l) t (0, 0)) := h
    simp [World.setCell, Array.getElem?_modify, h']
  rw [e]
  unfold UB
  rw [List.setIfInBounds_toArray, List.map_set]
end
/-- Bytes laid over others, from a place on. -/
def overI (cur : List Int) (off : Nat) (l : List Int) : List Int := cur.take off ++ (l ++ cur.drop (off + l.length))
theorem over_splice (cur l : List Int) (off : Nat) : (Go.splice (cur.map (Value.int .u8)) off (l.map (Value.int .u8))).toArray = UB (overI cur off l) := by
  unfold Go.splice UB overI
  simp only [List.map_append, List.map_take, List.map_drop, List.length_map]
theorem Try.infoU8B : (Try.prog.info? 5).map (fun i => (i.zero, i.size, i.bytes)) = some (some (.int .u8 0), 1, 1) := by kernel_rfl
/-- 'make([]byte, n)'. -/
theorem makeBytes (n : Nat) (hn : n ≤ 100000) (w : World) : (Instr.makeSlice 24 (.int .i64 (n : Int)) (.int .i64 (n : Int))).run Try.prog w = .ok (.slice (some ⟨w.heap.size, 0, none⟩) n n) (w.alloc (.cells (UB (List.replicate n 0)) 5)) := by
  have h := run_make_row' (P := Try.prog) 24 5 (.int .u8 0) 1 Try.underlying24 Try.infoU8B rfl .i64 .i64 n (by omega) (by omega) w
  rw [show madeCells #[Value.int .u8 0] n = UB (List.replicate n 0) from Array.toList_inj.1 (by rw [toList_madeCells_one]; simp [UB])] at h
  exact h
theorem src_of_ints {w : World} {B : Nat} {A : Option Addr} {l : List Int} (h : Ints w B .u8 A l) (h0 : 0 < l.length) : ∃ ad, A = some ad ∧ ∀ j v, (l.map (Value.int .u8))[j]? = some v → w.cell? (ad.add j) = some v := by
  obtain ⟨b, off, rfl, _, hc⟩ := h.at_ h0
  refine ⟨_, rfl, fun j v hv => ?_⟩
  have hj : j < l.length := by
    rcases Nat.lt_or_ge j l.length with q | q
    · exact q
    · rw [List.getElem?_eq_none (by rw [List.length_map]; exact q)] at hv; cases hv
  have hadd : (⟨b, off, none⟩ : Addr).add j = ⟨b, off + j, none⟩ := by unfold Addr.add; split <;> simp_all
  rw [hadd, hc j hj, ← hv, List.getElem?_map, List.getElem?_eq_getElem hj]
  simp [List.getD_eq_getElem?_getD, hj]
/-- 'copy(out[off:], b)', all of b. -/
theorem wpList_copy_ints {w : World} {ops : Array Oper} {rest : List Oper} {o : Oper} {a : Act} {Q : Exit → Act → World → Prop} (hgd : o.guard = none) (d s : Operand)
    (ho : o.op = .call { callee := .builtin .copy, args := #[d, s], argTypes := #[24, 24] }) (g off : Nat) (dn dc : Nat) (A : Option Addr) (n c : Nat) (hd : a.eval d = .slice (some ⟨g, off, none⟩) dn dc) (hs : a.eval s = .slice A n c)
    (l cur new : List Int) (hn : l.length = n) (hle : n ≤ dn) (t : TypeId) (hg : BtRow t g cur w) (B1 : Nat) (hI : Ints w B1 .u8 A l) (hfit : off + n ≤ cur.length) (hnew : overI cur off l = new) (B : Nat) (w0 : World) (hb : Below B w0 w) (hBg : B ≤ g)
    (h : ∀ w', BtRow t g new w' → Below B w0 w' → wpList Try.prog ops Q rest (a.put o.dst (goInt n)) w') : wpList Try.prog ops Q (o :: rest) a w := by
  subst hn hnew
  refine wpList_copy_splice hgd d s 24 24 ho 5 Try.underlying24 (by kernel_rfl) _ _ dn dc l.length c hd hs g off (cur.map (Value.int .u8)) t hg (l.map (Value.int .u8)) ?_ (fun h0 => ?_) ?_ ?_ B w0 hb hBg fun w' q1 q2 => ?_
  · rw [List.length_map]; exact (Nat.min_eq_left hle).symm
  · exact ⟨rfl, src_of_ints hI (by simpa using h0)⟩
  · rw [List.length_map, List.length_map]; exact hfit
  · intro v hv; obtain ⟨z, _, rfl⟩ := List.mem_map.1 hv; rfl
  · have q3 := q1.out
    rw [over_splice] at q3
    have e := h w' q3 q2
    rw [List.length_map]
    exact e
/-- A text's bytes, as integers. -/
def strI (s : ByteArray) : List Int := s.data.toList.map fun b => (b.toNat : Int)
theorem strI_len (s : ByteArray) : (strI s).length = s.size := by unfold strI; rw [List.length_map]; rfl
/-- 'copy(out[off:], s)', all of a text, as one step of a region that draws. -/
theorem step_copy_text {ops : Array Oper} {o : Oper} {a : Act} {w : World} {K : Act → World → Prop} {Q : Exit → Act → World → Prop} {E : Prop} (hgd : o.guard = none) (d s : Operand)
    (ho : o.op = .call { callee := .builtin .copy, args := #[d, s], argTypes := #[24, 9] }) (g off : Nat) (dn dc : Nat) (x : ByteArray) (hd : a.eval d = .slice (some ⟨g, off, none⟩) dn dc) (hs : a.eval s = .string x)
    (cur new : List Int) (hle : x.size ≤ dn) (t : TypeId) (hg : BtRow t g cur w) (hfit : off + x.size ≤ cur.length) (hnew : overI cur off (strI x) = new) (B : Nat) (w0 : World) (hb : Below B w0 w) (hBg : B ≤ g)
    (h : ∀ w', Hid (BtRow t g new w') → Below B w0 w' → K (a.put o.dst (goInt x.size)) w') :
    if Region.wanted o (yielded ops a.tmps) = true then Oper.wp Try.prog o a w K Q else E := by
  have hw : Region.wanted o (yielded ops a.tmps) = true := by simp [Region.wanted, hgd]
  rw [if_pos hw]
  subst hnew
  have hcur : (UB cur).size = cur.length := by simp [UB]
  have hrun := Lib.run_copy_row_string (P := Try.prog) w 24 9 o.type 5 g off dn dc x (UB cur) t Try.underlying24 (by kernel_rfl) hg hle (by rw [hcur]; exact hfit)
  unfold Oper.wp
  simp [execOp, ho, resolve, invoke, builtin, hd, hs, hrun, Result.andThen]
  refine h _ ?_ (below_setRow hb hBg _)
  have e := setRow_heap w g (UB cur) ((UB cur).toList.take off ++ Lib.byteCells x.data.toList ++ (UB cur).toList.drop (off + x.size)).toArray t (0, 0) hg
  have e2 : ((UB cur).toList.take off ++ Lib.byteCells x.data.toList ++ (UB cur).toList.drop (off + x.size)).toArray = UB (overI cur off (strI x)) := by
    unfold UB overI
    have e3 : Lib.byteCells x.data.toList = (strI x).map (Value.int .u8) := by unfold Lib.byteCells strI; rw [List.map_map]; rfl
    rw [e3, strI_len]
    simp
  show _ = _
  rw [← e2]
  simpa using e

end Go.Proofs.Ytbmgiekiildaaaa
