/-
  A slice of bytes of one's own by its cells alone (a string's bytes among them): what it holds, its room, append onto it.
-/
import Derived.Test.YtcoiincgclglbaaArrs
import Derived.ArgAppend
import Derived.Lib.ConvBytes
namespace Go.Proofs.Ytcoiincgclglbaa
open Go.RowKit

/-- The slice v holds the bytes l, in a block since base; all its room can be written. -/
def Room (w : World) (base : Nat) (v : Value) (l : List Nat) : Prop :=
  ∃ g cap, v = .slice (some ⟨g, 0, none⟩) l.length cap ∧ base ≤ g ∧ g < w.heap.size ∧ l.length ≤ cap ∧ cap ≤ maxLen ∧
    (∀ j, j < cap → (w.cell? ⟨g, j, none⟩).isSome = true ∧ w.frozen? ⟨g, j, none⟩ = false) ∧ ∀ j, j < l.length → w.cell? ⟨g, j, none⟩ = some (.int .u8 (l.getD j 0 : Nat))

theorem setCells_heap (b : Nat) : ∀ (vs : List Value) (o : Nat) (w : World) (k : Nat), k ≠ b → (w.setCells b o vs).heap[k]? = w.heap[k]?
  | [], _, _, _, _ => rfl
  | v :: r, o, w, k, h => by rw [World.setCells, setCells_heap b r (o + 1) _ k h, heap_setCell_other w ⟨b, o, none⟩ k v h]
theorem setCells_size (b : Nat) : ∀ (vs : List Value) (o : Nat) (w : World), (w.setCells b o vs).heap.size = w.heap.size
  | [], _, _ => rfl
  | v :: r, o, w => by rw [World.setCells, setCells_size b r (o + 1)]; simp [World.setCell]
theorem setCells_rest (b : Nat) : ∀ (vs : List Value) (o : Nat) (w : World), (w.setCells b o vs).os = w.os ∧ (w.setCells b o vs).tape = w.tape ∧ (w.setCells b o vs).output = w.output
  | [], _, _ => ⟨rfl, rfl, rfl⟩
  | v :: r, o, w => by rw [World.setCells]; exact setCells_rest b r (o + 1) _
theorem below_setCells {B : Nat} {w0 w : World} (hb : Below B w0 w) {b : Nat} (hB : B ≤ b) (o : Nat) (vs : List Value) : Below B w0 (w.setCells b o vs) := by
  obtain ⟨h1, h2, h3⟩ := setCells_rest b vs o w
  exact ⟨h1.trans hb.os, h2.trans hb.tape, h3.trans hb.output, by rw [setCells_size]; exact hb.size, fun k hk => (setCells_heap b vs o w k (by omega)).trans (hb.block k hk)⟩

section
variable {w w' : World} {base B : Nat} {v : Value} {l : List Nat}
theorem Room.below (h : Room w base v l) (hb : Below B w w') (hB : w.heap.size ≤ B) : Room w' base v l := by
  obtain ⟨g, cap, rfl, h1, h2, h3, h4, h5, h6⟩ := h
  exact ⟨g, cap, rfl, h1, Nat.lt_of_lt_of_le h2 hb.size, h3, h4, fun j hj => by rw [hb.cell (p := ⟨g, j, none⟩) (by simp only []; omega), hb.frozen (p := ⟨g, j, none⟩) (by simp only []; omega)]; exact h5 j hj, fun j hj => by rw [hb.cell (p := ⟨g, j, none⟩) (by simp only []; omega)]; exact h6 j hj⟩
theorem Room.form (h : Room w base v l) : ∃ A c, v = .slice A l.length c ∧ l.length ≤ c ∧ Ints w w.heap.size .u8 A (up l) ∧ (A = none → c = 0) := by
  obtain ⟨g, cap, rfl, h1, h2, h3, h4, h5, h6⟩ := h
  refine ⟨_, _, rfl, h3, fun i hi => ?_, fun h => by cases h⟩
  rw [up_len] at hi
  exact ⟨g, 0, rfl, h2, by rw [Nat.zero_add, h6 i hi, up_getD]⟩
theorem Room.of_own {e : TypeId} (h : w.ownsRow base e 1 v l.length ((up l).map (Value.int .u8))) (h0 : 0 < l.length) : Room w base v l := by
  rcases h.2 with ⟨rfl, hn⟩ | ⟨g, cap, cur, rfl, hb, hg, hl, hm, hs, ht⟩
  · omega
  · rw [Nat.mul_one] at hs ht
    refine ⟨g, cap, rfl, hb, ?_, hl, hm, fun j hj => ⟨?_, frozen_of_row w g j cur e hg⟩, fun j hj => ?_⟩
    · by_cases hlt : g < w.heap.size
      · exact hlt
      · have hn : w.heap[g]? = none := by simp; omega
        rw [hn] at hg
        cases hg
    · rw [cell_of_row w g j cur e _ hg]
      simp [hs, hj]
    · rw [cell_of_row w g j cur e _ hg, ← Array.getElem?_toList]
      have hq : cur.toList[j]? = (cur.toList.take l.length)[j]? := by rw [List.getElem?_take, if_pos hj]
      rw [hq, ht]
      simp [up, hj, List.getD_eq_getElem?_getD]
end

theorem ints_cells {w : World} {B : Nat} {A : Option Addr} {l : List Nat} (h : Ints w B .u8 A (up l)) (h0 : 0 < l.length) : ∃ b off, A = some ⟨b, off, none⟩ ∧ ∀ j, j < l.length → w.cell? ((⟨b, off, none⟩ : Addr).add j) = some (.int .u8 (l.getD j 0 : Nat)) := by
  obtain ⟨b, off, e, _, hc⟩ := h.at_ (by rw [up_len]; exact h0)
  refine ⟨b, off, e, fun j hj => ?_⟩
  have hadd : (⟨b, off, none⟩ : Addr).add j = ⟨b, off + j, none⟩ := by unfold Addr.add; split <;> simp_all
  rw [hadd, hc j (by rw [up_len]; exact hj), up_getD]
/-- '[]byte(s)'. -/
theorem room_of_text (w : World) (e : TypeId) (s : ByteArray) (hs : s.size ≤ maxLen) :
    Room (Lib.bytesWorld w e s) w.heap.size (.slice (some ⟨w.heap.size, 0, none⟩) s.size (grownCap w s.size 0 e)) (s.data.toList.map UInt8.toNat) ∧ Below w.heap.size w (Lib.bytesWorld w e s) := by
  have hge := grownCap_ge w s.size 0 e
  have hle := grownCap_le_maxLen w s.size 0 e hs
  have hl : (s.data.toList.map UInt8.toNat).length = s.size := by simp
  have hcs : (Lib.bytesCells w e s).size = grownCap w s.size 0 e := by
    have h1 : s.data.size = s.size := rfl
    simp only [Lib.bytesCells, Array.size_append, Array.size_map, Array.size_replicate, h1]; omega
  refine ⟨⟨w.heap.size, grownCap w s.size 0 e, by rw [hl], Nat.le_refl _, by rw [Lib.bytesWorld_size]; omega, by rw [hl]; exact hge, hle, fun j hj => ⟨?_, ?_⟩, fun j hj => ?_⟩, ?_⟩
  · rw [cell_of_row _ _ j _ _ _ (Lib.bytesWorld_at_new w e s)]
    simp [hcs, hj]
  · unfold World.frozen?
    rw [Lib.bytesWorld_at_new w e s]
    simp [hcs]
    omega
  · rw [hl] at hj
    rw [Lib.bytesWorld_cell w e s j hj]
    congr 2
    have h1 : j < s.data.toList.length := by simpa using hj
    simp [List.getD_eq_getElem?_getD, List.getElem?_map, List.getElem?_eq_getElem h1]
  · exact ⟨rfl, rfl, rfl, by rw [Lib.bytesWorld_size]; omega, fun k hk => Lib.bytesWorld_at_old w e s k hk⟩

/-- append of bytes onto a slice of one's own. -/
theorem run_append_room {P : Program} (w : World) (t ty : TypeId) (e : TypeId) (i : TypeInfo) (z : Value) (ht : P.underlying t = some (.slice e)) (hi : P.info? e = some i) (hz : i.zero = some z)
    (hsize : i.size = 1) (hby : i.bytes = 1) (hzs : z.cells.size = 1) (base : Nat) (v : Value) (xs zs : List Nat) (c : Nat) (ad : Addr)
    (hroom : Room w base v xs) (hcells : ∀ j, j < zs.length → w.cell? (ad.add j) = some (.int .u8 (zs.getD j 0 : Nat))) (h63 : xs.length + zs.length ≤ maxLen) (hbytes : xs.length + zs.length ≤ 140737488355328) (hbase : base ≤ w.heap.size) :
    ∃ v' w', (Builtin.append_ #[t, t] ty #[v, .slice (some ad) zs.length c]).run P w = .ok v' w' ∧ Room w' base v' (xs ++ zs) ∧ Below base w w' := by
  obtain ⟨g, cap, rfl, h1, h2, h3, h4, h5, h6⟩ := hroom
  have hnews : ∀ j u, (zs.map fun z : Nat => Value.int .u8 (z : Int))[j]? = some u → w.cell? (ad.add j) = some u := by
    intro j u hu
    rcases Nat.lt_or_ge j zs.length with h | h
    · rw [hcells j h]
      simp only [List.getElem?_map, List.getElem?_eq_getElem h, Option.map_some] at hu
      rw [← hu]
      simp [List.getD_eq_getElem?_getD, h]
    · rw [List.getElem?_eq_none (by simpa using h)] at hu
      cases hu
  have hone : ∀ u ∈ (zs.map fun z : Nat => Value.int .u8 (z : Int)), u.oneCell' = true := by
    intro u hu
    obtain ⟨z, _, rfl⟩ := List.mem_map.1 hu
    rfl
  have hadd : ∀ (b off j : Nat), (⟨b, off, none⟩ : Addr).add j = ⟨b, off + j, none⟩ := fun b off j => by unfold Addr.add; split <;> simp_all
  rcases Nat.lt_or_ge cap (xs.length + zs.length) with hfull | hfit
  · obtain ⟨v', w', hrun, hown, hg⟩ := run_append_arg_grows (P := P) w t ty e i z 1 1 ht hi hz hsize hby hzs (by decide) ⟨g, 0, none⟩ xs.length cap (xs.map fun z : Nat => Value.int .u8 (z : Int)) (by simp)
      (fun j u hu => by
        rcases Nat.lt_or_ge j xs.length with h | h
        · rw [hadd, Nat.zero_add, h6 j h]
          simp only [List.getElem?_map, List.getElem?_eq_getElem h, Option.map_some] at hu
          rw [← hu]
          simp [List.getD_eq_getElem?_getD, h]
        · rw [List.getElem?_eq_none (by simpa using h)] at hu
          cases hu) ad zs.length c (zs.map fun z : Nat => Value.int .u8 (z : Int)) (by simp) hnews hfull h63 (by omega)
    refine ⟨v', w', hrun, ?_, ((Below.refl base w).grown hg hbase fun q hq => by cases hq)⟩
    have hown' : w'.ownsRow w.heap.size e 1 v' (xs ++ zs).length ((up (xs ++ zs)).map (Value.int .u8)) := by
      rw [List.length_append, up_append, List.map_append]
      simpa [up, Function.comp_def] using hown
    obtain ⟨g', cap', q1, q2, q3⟩ := Room.of_own hown' (by rw [List.length_append]; omega)
    exact ⟨g', cap', q1, Nat.le_trans hbase q2, q3⟩
  · have hrun := run_append_room_cells (P := P) w t ty e i ht hi g 0 xs.length cap ad zs.length c (zs.map fun z : Nat => Value.int .u8 (z : Int)) (by simp [hsize]) hnews hone hfit
      (fun j hj => by rw [hsize, Nat.mul_one, Nat.zero_add]; exact (h5 _ (by simp at hj; omega)).1) (fun j hj => by rw [hsize, Nat.mul_one, Nat.zero_add]; exact (h5 _ (by simp at hj; omega)).2)
    rw [hsize, Nat.mul_one, Nat.zero_add] at hrun
    refine ⟨_, _, hrun, ⟨g, cap, by rw [List.length_append], h1, by rw [setCells_size]; exact h2, by rw [List.length_append]; exact hfit, h4, fun j hj => ⟨World.isSome_setCells g _ _ w _ (h5 j hj).1, by rw [World.frozen?_setCells]; exact (h5 j hj).2⟩, fun j hj => ?_⟩, below_setCells (Below.refl base w) h1 _ _⟩
    rw [List.length_append] at hj
    rcases Nat.lt_or_ge j xs.length with h | h
    · rw [World.cell?_setCells_out g _ _ w _ (fun _ _ => Or.inl h), h6 j h]
      simp [List.getD_eq_getElem?_getD, List.getElem?_append_left h]
    · have hj2 : j - xs.length < (zs.map fun z : Nat => Value.int .u8 (z : Int)).length := by simp; omega
      have hin := World.cell?_setCells_in g (zs.map fun z : Nat => Value.int .u8 (z : Int)) xs.length w (fun i hi => (h5 _ (by simp at hi; omega)).1) (j - xs.length) hj2
      rw [show xs.length + (j - xs.length) = j by omega] at hin
      rw [hin]
      have hj3 : j - xs.length < zs.length := by omega
      simp [List.getD_eq_getElem?_getD, List.getElem?_append_right h, hj3]
theorem wpList_append_room {P : Program} (w : World) {ops : Array Oper} {rest : List Oper} {o : Oper} {a : Act} {Q : Exit → Act → World → Prop} (hw : Region.wanted o (yielded ops a.tmps) = true) (s x : Operand) (t : TypeId)
    (ho : o.op = .call { callee := .builtin .append, args := #[s, x], argTypes := #[t, t] })
    (e : TypeId) (i : TypeInfo) (z : Value) (ht : P.underlying t = some (.slice e)) (hi : P.info? e = some i) (hz : i.zero = some z)
    (hsize : i.size = 1) (hby : i.bytes = 1) (hzs : z.cells.size = 1) (base : Nat) (v : Value) (xs zs : List Nat) (c n : Nat) (ad : Addr) (hn : zs.length = n) (hs : a.eval s = v) (hx : a.eval x = .slice (some ad) n c)
    (hroom : Room w base v xs) (hcells : ∀ j, j < zs.length → w.cell? (ad.add j) = some (.int .u8 (zs.getD j 0 : Nat))) (h63 : xs.length + zs.length ≤ maxLen) (hbytes : xs.length + zs.length ≤ 140737488355328) (hbase : base ≤ w.heap.size)
    (h : ∀ v' w', Room w' base v' (xs ++ zs) → Below base w w' → wpList P ops Q rest (a.put o.dst v') w') :
    wpList P ops Q (o :: rest) a w := by
  refine wpList_when hw fun K hK => ?_
  subst hn
  obtain ⟨v', w', hrun, h2, h3⟩ := run_append_room (P := P) w t o.type e i z ht hi hz hsize hby hzs base v xs zs c ad hroom hcells h63 hbytes hbase
  unfold Oper.wp execOp
  simp only [ho, resolve, invoke, builtin, Sem.run_bind, Sem.run_pure, Result.andThen_ok, List.map_toArray, List.map_cons, List.map_nil, hs, hx, hrun]
  exact hK _ _ (h v' w' h2 h3)

end Go.Proofs.Ytcoiincgclglbaa
