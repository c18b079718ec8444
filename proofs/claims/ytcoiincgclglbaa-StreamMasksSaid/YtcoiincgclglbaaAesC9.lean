/-
  The program's cipher as it lies in memory: its images and all its round keys.
-/
import Derived.Test.YtcoiincgclglbaaAesC0
import Derived.Deep.RegionHeld3
namespace Go.Proofs.Ytcoiincgclglbaa
open Go.RowKit

/-- The cells of a cipher that has its first n round keys. -/
def ciph (key : List Nat) (n : Nat) : List Nat := (sbox ++ ibox) ++ prog 176 (fun i => (kbN key).getD i 0) (fun _ => 0) (16 * n)
theorem box_len : (sbox ++ ibox).length = 512 := by decide +kernel
theorem ciph_len (key : List Nat) (n : Nat) : (ciph key n).length = 688 := by rw [ciph, List.length_append, prog_len, box_len]
theorem kbN_len (key : List Nat) : (kbN key).length = 176 := kbTo_len key 176
theorem ciph_all (key : List Nat) : ciph key 11 = (sbox ++ ibox) ++ kbN key := by
  unfold ciph
  refine congrArg ((sbox ++ ibox) ++ ·) ?_
  show prog 176 _ _ 176 = _
  rw [prog_all]
  apply List.ext_getElem
  · simp [kbN_len]
  · intro i h1 h2
    simp [List.getD_eq_getElem?_getD, h2]
theorem prog_zeros (n : Nat) (f : Nat → Nat) : prog n f (fun _ => 0) 0 = zeros n := by
  unfold prog zeros
  refine List.eq_replicate_iff.2 ⟨by simp, fun x hx => ?_⟩
  obtain ⟨i, _, rfl⟩ := List.mem_map.1 hx
  exact if_neg (Nat.not_lt_zero i)
theorem ciph_zero (key : List Nat) : ciph key 0 = (sbox ++ ibox) ++ zeros 176 := by
  unfold ciph
  exact congrArg ((sbox ++ ibox) ++ ·) (prog_zeros 176 _)
theorem putL_append (I : List Nat) : ∀ (vs l : List Nat) (o : Nat), putL (I ++ l) (I.length + o) vs = I ++ putL l o vs
  | [], _, _ => rfl
  | v :: vs, l, o => by
    show putL ((I ++ l).set (I.length + o) v) (I.length + o + 1) vs = I ++ putL (l.set o v) (o + 1) vs
    rw [List.set_append_right _ _ (by omega), Nat.add_sub_cancel_left, Nat.add_assoc, putL_append I vs]
theorem getD_append_right' (I l : List Nat) (i : Nat) : (I ++ l).getD (I.length + i) 0 = l.getD i 0 := by
  rw [List.getD_eq_getElem?_getD, List.getElem?_append_right (by omega), Nat.add_sub_cancel_left, List.getD_eq_getElem?_getD]
theorem getD_append_left' (I l : List Nat) {i : Nat} (h : i < I.length) : (I ++ l).getD i 0 = I.getD i 0 := by
  rw [List.getD_eq_getElem?_getD, List.getElem?_append_left h, List.getD_eq_getElem?_getD]
/-- The next round key is put in. -/
theorem ciph_put (key : List Nat) (n : Nat) : putL (ciph key n) (512 + 16 * n) (rk key n) = ciph key (n + 1) := by
  have h := putL_append (sbox ++ ibox) (rk key n) (prog 176 (fun i => (kbN key).getD i 0) (fun _ => 0) (16 * n)) (16 * n)
  rw [box_len] at h
  have h2 : putL (prog 176 (fun i => (kbN key).getD i 0) (fun _ => 0) (16 * n)) (16 * n) (rk key n) = prog 176 (fun i => (kbN key).getD i 0) (fun _ => 0) (16 * n + 16) := putL_prog 176 (fun i => (kbN key).getD i 0) (fun _ => 0) (16 * n) 16
  exact h.trans (congrArg ((sbox ++ ibox) ++ ·) (h2.trans (congrArg _ (show 16 * n + 16 = 16 * (n + 1) by omega))))
/-- A round key that is there. -/
theorem ciph_key (key : List Nat) {r n : Nat} (hr : r < n) (hn : n ≤ 11) : subB (ciph key n) (512 + 16 * r) 16 = rk key r := by
  unfold subB rk L16
  refine List.map_congr_left fun i hi => ?_
  have hi' := List.mem_range.1 hi
  have h := getD_append_right' (sbox ++ ibox) (prog 176 (fun i => (kbN key).getD i 0) (fun _ => 0) (16 * n)) (16 * r + i)
  rw [box_len, ← Nat.add_assoc] at h
  exact h.trans ((prog_at _ _ _ (by omega)).trans (if_pos (by omega)))
theorem ciph_sbox (key : List Nat) (n : Nat) {i : Nat} (hi : i < 256) : (ciph key n).getD i 0 = sbox.getD i 0 := by
  have hs : sbox.length = 256 := by decide +kernel
  exact (getD_append_left' _ _ (by rw [box_len]; omega)).trans (getD_append_left' _ _ (by rw [hs]; exact hi))
theorem ciph_ibox (key : List Nat) (n : Nat) {i : Nat} (hi : i < 256) : (ciph key n).getD (256 + i) 0 = ibox.getD i 0 := by
  have hs : sbox.length = 256 := by decide +kernel
  have h := getD_append_right' sbox ibox i
  rw [hs] at h
  exact (getD_append_left' _ _ (by rw [box_len]; omega)).trans h

/-- A cipher of a key that lies in memory. -/
def Ciph (w : World) (a : Addr) (key : List Nat) : Prop := key.length = 16 ∧ (∀ x ∈ key, x < 256) ∧ ∃ g t fr, a = ⟨g, 0, none⟩ ∧ w.heap[g]? = some (.cells (BA (ciph key 11)) t fr)
theorem Ciph.keep {w w' : World} {a : Addr} {key : List Nat} (h : Ciph w a key) (hb : Below w.heap.size w w') : Ciph w' a key := by
  obtain ⟨h1, h2, g, t, fr, rfl, hg⟩ := h
  exact ⟨h1, h2, g, t, fr, rfl, (hb.block g (lt_heap hg)).trans hg⟩
section
variable {P : Program} {ops : Array Oper} {op : Oper} {a : Act} {S : World → Prop} {K : Act → World → Prop} {Q : Exit → Act → World → Prop} {w : World} {E : Prop}
/-- A load of some bytes at once, in a region that draws: taken first. -/
theorem yields_load_BA (hw : Region.wanted op (yielded ops a.tmps) = true) (ty : TypeId) (x : Operand) (ho : op.op = .load ty x) (b o : Nat) (hx : a.eval x = .pointer (some ⟨b, o, none⟩)) (l : List Nat) (d : TypeDesc)
    (hS : ∀ w, S w → w.rangeAt b o (vals l)) (hu : P.underlying ty = some d) (hd : d.isRow = true) (hi : (P.info? ty).map (·.size) = some l.length) : YieldsIf P ops S op (.agg (BA l)) a :=
  yieldsIf_load_mid hw ty x ho b o hx (vals l) d hS hu hd (by rw [hi, vals_len])
/-- The same at the world at hand. -/
theorem step_load_BA (hw : Region.wanted op (yielded ops a.tmps) = true) (ty : TypeId) (x : Operand) (ho : op.op = .load ty x) (b o : Nat) (hx : a.eval x = .pointer (some ⟨b, o, none⟩)) (l : List Nat) (d : TypeDesc)
    (hc : w.rangeAt b o (vals l)) (hu : P.underlying ty = some d) (hd : d.isRow = true) (hi : (P.info? ty).map (·.size) = some l.length) (h : K (a.put op.dst (.agg (BA l))) w) : if Region.wanted op (yielded ops a.tmps) = true then Oper.wp P op a w K Q else E := by
  rw [if_pos hw]
  exact wp_load_mid ty x ho b o hx (vals l) d hc hu hd (by rw [hi, vals_len]) h
/-- Some bytes are stored at once. -/
theorem step_store_BA (hw : Region.wanted op (yielded ops a.tmps) = true) (ty : TypeId) (x y : Operand) (ho : op.op = .store ty x y) (b o : Nat) (l : List Nat) (hx : a.eval x = .pointer (some ⟨b, o, none⟩)) (hy : a.eval y = .agg (BA l))
    (ht : w.there b o l.length) (hi : (P.info? ty).map (·.size) = some l.length) (h : K (a.put op.dst undef) (w.setCells b o (vals l))) : if Region.wanted op (yielded ops a.tmps) = true then Oper.wp P op a w K Q else E := by
  rw [if_pos hw]
  exact wp_store_mid ty x y ho b o (BA l) hx hy (by rw [BA_size]; exact ht) (by rw [BA_size]; exact hi) (BA_one l) h
/-- In a region that doesn't draw. -/
theorem list_load_BA {rest : List Oper} (hgd : op.guard = none) (ty : TypeId) (x : Operand) (ho : op.op = .load ty x) (b o : Nat) (hx : a.eval x = .pointer (some ⟨b, o, none⟩)) (l : List Nat) (d : TypeDesc)
    (hc : w.rangeAt b o (vals l)) (hu : P.underlying ty = some d) (hd : d.isRow = true) (hi : (P.info? ty).map (·.size) = some l.length) (h : wpList P ops Q rest (a.put op.dst (.agg (BA l))) w) : wpList P ops Q (op :: rest) a w :=
  wpList_load_mid hgd ty x ho b o hx (vals l) d hc hu hd (by rw [hi, vals_len]) h
end

end Go.Proofs.Ytcoiincgclglbaa
