/-
  The document's own in, plain, Owned, Quotas (stowageref16). Arrays of bytes as values: their cells, a slice over one, whether two are alike; a whole array laid into a block of one's own. Structs compared (==, !=), field by field; records compared. Tenants and volumes compared (==, !=). The landed table: has, formOf, tenantRec, volumeRec, baseRec.
-/
import Derived.Test.YtbmgiekiildaaaaTableNumsG
import Derived.Test.YtbmgiekiildaaaaWordsG
import Derived.Deep.WholeRow
import Derived.Deep.MidRow
import Derived.Laws.CopyOwn
import Derived.ChangeKeysEq
import Derived.Laws.StructEq
import Derived.Test.YtbmgiekiildaaaaChecked
namespace Go.Proofs.Ytbmgiekiildaaaa
open Go.RowKit

/-- May it be a tenant? -/
def plainQ (id q r b : Int) (s : ByteArray) : Prop := inR id 1 7 ∧ inR q 1 64 ∧ inR r 0 4294967296 ∧ inR b 1 64 ∧ s.size = 16
instance (id q r b : Int) (s : ByteArray) : Decidable (plainQ id q r b s) := by unfold plainQ; infer_instance

theorem ownN_zero (id : Int) : ownN [] id = 0 := by unfold ownN; split <;> rfl
theorem ownN_take {os : List Int} {k : Nat} (hk : k < os.length) (id : Int) : ownN (os.take (k + 1)) id = ownN (os.take k) id + (if os.getD k 0 = id ∧ inR id 1 7 then 1 else 0) := by
  rw [List.take_succ_eq_append_getElem hk]
  unfold ownN
  by_cases h : 1 ≤ id ∧ id ≤ 7
  · rw [if_pos h, if_pos h, List.countP_append, List.countP_cons, List.countP_nil]
    have hg : os.getD k 0 = os[k] := by simp [List.getD, hk]
    rw [hg, Nat.zero_add]
    by_cases he : os[k] = id
    · rw [if_pos (show os[k] = id ∧ inR id 1 7 from ⟨he, h⟩), if_pos (decide_eq_true he)]
    · rw [if_neg (show ¬ (os[k] = id ∧ inR id 1 7) from fun hh => he hh.1), if_neg (by simpa using he)]
  · rw [if_neg h, if_neg h, if_neg (fun hh => h hh.2)]

theorem sumQ_take {ts : List Ten} {k : Nat} (hk : k < ts.length) : sumQ (ts.take (k + 1)) = sumQ (ts.take k) + ts[k].quota := by
  rw [List.take_succ_eq_append_getElem hk]
  unfold sumQ
  rw [List.map_append, List.sum_append_int]
  simp
theorem sumQ_small {ts : List Ten} (h : ∀ x ∈ ts, 1 ≤ x.quota ∧ x.quota ≤ 64) : ∀ k, 0 ≤ sumQ (ts.take k) ∧ sumQ (ts.take k) ≤ 64 * k := fun k => by
  induction k with
  | zero => simp [sumQ]
  | succ k ih =>
    by_cases hk : k < ts.length
    · have := h _ (List.getElem_mem hk)
      rw [sumQ_take hk]
      omega
    · rw [List.take_of_length_le (by omega)] at ih ⊢
      omega

end Go.Proofs.Ytbmgiekiildaaaa

namespace Go.Proofs.Ytbmgiekiildaaaa
open Go.RowKit

def up (l : List Nat) : List Int := l.map fun n : Nat => (n : Int)
theorem up_len (l : List Nat) : (up l).length = l.length := by simp [up]
theorem up_getD (l : List Nat) (i : Nat) : (up l).getD i 0 = ((l.getD i 0 : Nat) : Int) := by
  rcases Nat.lt_or_ge i l.length with g | g
  · simp [up, List.getD_eq_getElem?_getD, g]
  · simp [up, List.getD_eq_getElem?_getD, g]
theorem up_append (a b : List Nat) : up (a ++ b) = up a ++ up b := by simp [up]
theorem up_toNat {zs : List Int} (h : ∀ z ∈ zs, 0 ≤ z ∧ z ≤ 255) : up (zs.map Int.toNat) = zs := by
  induction zs with
  | nil => rfl
  | cons z zs ih =>
    have h1 := h z (by simp)
    have h2 := ih fun x hx => h x (by simp [hx])
    simp only [up, List.map_cons, List.cons.injEq]
    exact ⟨by omega, h2⟩
/-- Bytes as an array's cells. -/
def BA (b : List Nat) : Array Value := (b.map fun z : Nat => Value.int .u8 (z : Int)).toArray
theorem BA_size (b : List Nat) : (BA b).size = b.length := by simp [BA]
theorem BA_one (b : List Nat) : (BA b).all (·.oneCell') = true := by
  rw [Array.all_eq_true_iff_forall_mem]
  intro v hv
  simp only [BA, List.mem_toArray, List.mem_map] at hv
  obtain ⟨z, _, rfl⟩ := hv
  rfl
theorem BA_at (b : List Nat) (i : Nat) (hi : i < b.length) : (BA b)[i]? = some (.int .u8 (b.getD i 0 : Nat)) := by
  simp [BA, List.getElem?_eq_getElem hi, List.getD_eq_getElem?_getD]
theorem BA_cell {w : World} {g : Nat} {t : TypeId} {b : List Nat} {fr : Nat × Nat} (h : w.heap[g]? = some (.cells (BA b) t fr)) {i : Nat} (hi : i < b.length) : w.cell? ⟨g, i, none⟩ = some (.int .u8 (b.getD i 0 : Nat)) := by
  rw [cell_of_row w g i _ t _ h, BA_at b i hi]
theorem ints_of_BA {w : World} {g B : Nat} {t : TypeId} {b : List Nat} {fr : Nat × Nat} (h : w.heap[g]? = some (.cells (BA b) t fr)) (hg : g < B) : Ints w B .u8 (some ⟨g, 0, none⟩) (up b) := fun i hi => by
  rw [up_len] at hi
  refine ⟨g, 0, rfl, hg, ?_⟩
  rw [Nat.zero_add, BA_cell h hi, up_getD]
theorem row_keep {w w' : World} {g B : Nat} {o : Obj} (h : w.heap[g]? = some o) (hb : Below B w w') (hg : g < B) : w'.heap[g]? = some o := (hb.block g hg).trans h
theorem heap_alloc_new' (w : World) (o : Obj) (g : Nat) (h : g = w.heap.size) : (w.alloc o).heap[g]? = some o := h ▸ heap_alloc_new w o

theorem run_eqBytes {P : Program} {e : TypeId} (he : P.plainKey e = true) (hu : P.underlying e = some (.int .u8)) (d : Nat) (xs ys : List Nat) (w : World) : ∀ is : List Nat, (∀ i ∈ is, i < xs.length ∧ i < ys.length) →
    (Op.eqItems (d + 1) e 1 (BA xs) (BA ys) is).run P w = .ok (is.all fun i => xs.getD i 0 == ys.getD i 0) w := by
  intro is
  induction is with
  | nil => intro _; simp [Op.eqItems]
  | cons i is ih =>
    intro h
    have hi := h i (by simp)
    have hrest := ih fun j hj => h j (by simp [hj])
    have p1 := run_part_plain (P := P) w he (off := i * 1) (by rw [Nat.mul_one]; exact BA_at xs i hi.1)
    have p2 := run_part_plain (P := P) w he (off := i * 1) (by rw [Nat.mul_one]; exact BA_at ys i hi.2)
    simp only [Op.eqItems, Sem.run_bind, p1, p2, Result.andThen_ok, run_equalIn_int w d e .u8 .u8 _ _ hu]
    have en : (((xs.getD i 0 : Nat) : Int) == ((ys.getD i 0 : Nat) : Int)) = (xs.getD i 0 == ys.getD i 0) := by
      rw [Bool.eq_iff_iff, beq_iff_eq, beq_iff_eq]; exact Int.ofNat_inj
    rw [en, List.all_cons]
    cases hq : (xs.getD i 0 == ys.getD i 0)
    · simp
    · simp [hrest]
/-- '==' of two arrays of bytes. -/
theorem run_eqArrays {P : Program} {t e : TypeId} {n : Nat} {i : TypeInfo} (he : P.plainKey e = true) (hue : P.underlying e = some (.int .u8)) (hu : P.underlying t = some (.array n e)) (hi : P.info? e = some i) (hs : i.size = 1) (xs ys : List Nat) (hx : xs.length = n) (hy : ys.length = n) (w : World) :
    (Op.equalIn 10000 t (.agg (BA xs)) (.agg (BA ys))).run P w = .ok (xs == ys) w := by
  rw [run_equalIn_array w 9999 (BA xs) (BA ys) hu hi]
  have hc : P.cellsOf e = 1 := by unfold Program.cellsOf; rw [hi]; exact hs
  rw [hc, run_eqBytes he hue 9998 xs ys w (List.range n) (fun i hi => by have := List.mem_range.1 hi; omega)]
  congr 1
  rw [Bool.eq_iff_iff, List.all_eq_true]
  constructor
  · intro h
    have : xs = ys := by
      apply List.ext_getElem (by omega)
      intro j h1 h2
      have := h j (List.mem_range.2 (by omega))
      simpa [List.getD_eq_getElem?_getD, h1, h2] using this
    simp [this]
  · intro h j _
    have : xs = ys := by simpa using h
    simp [this]

/-- A whole array is laid into a block of one's own: behind it the world goes by a letter. -/
theorem wpList_store_fresh {P : Program} {ops : Array Oper} {rest : List Oper} {o : Oper} {a : Act} {w w0 : World} {B : Nat} {Q : Exit → Act → World → Prop} (hgd : o.guard = none) (ty : TypeId) (x y : Operand) (ho : o.op = .store ty x y)
    (g : Nat) (cells : Array Value) (hx : a.eval x = .pointer (some ⟨g, 0, none⟩)) (hy : a.eval y = .agg cells)
    (t : TypeId) (old : Array Value) (hg : w.heap[g]? = some (.cells old t (0, 0))) (hi : (P.info? ty).map (·.size) = some cells.size)
    (hold : old.size = cells.size) (h1 : cells.all (·.oneCell') = true) (hb : Below B w0 w) (hB : B ≤ g)
    (h : ∀ W : World, W.heap[g]? = some (.cells cells t (0, 0)) → Below B w0 W → (∀ k, k ≠ g → W.heap[k]? = w.heap[k]?) → W.heap.size = w.heap.size → wpList P ops Q rest (a.put o.dst undef) W) : wpList P ops Q (o :: rest) a w :=
  wpList_store_row hgd ty x y ho g cells hx hy t old hg hi hold h1 (h _ (setRow_heap w g old cells t (0, 0) hg) (below_setRow hb hB cells) (fun k hk => setRow_other w g k cells hk) (by simp))

theorem own_nil {w : World} {base e n c m : Nat} {A : Option Addr} {xs : List Value} (h : w.ownsRow base e 1 (.slice A n c) m xs) (hA : A = none) : c = 0 := by
  rcases h.2 with ⟨hv, _⟩ | ⟨g, cap, cur, hv, _⟩
  · cases hv; rfl
  · subst hA; cases hv
/-- An operation that is wanted, guarded or not. -/
theorem wpList_when {P : Program} {ops : Array Oper} {rest : List Oper} {o : Oper} {a : Act} {w : World} {Q : Exit → Act → World → Prop} (hw : Region.wanted o (yielded ops a.tmps) = true)
    (h : ∀ K : Act → World → Prop, (∀ a w, wpList P ops Q rest a w → K a w) → o.wp P a w K Q) : wpList P ops Q (o :: rest) a w :=
  wpList_step fun K hK => by rw [if_pos hw]; exact h K hK
theorem run_append_at {P : Program} (w : World) (base : Nat) (t ty e : TypeId) (i : TypeInfo) (z : Value) (bytes : Nat) (ht : P.underlying t = some (.slice e)) (hi : P.info? e = some i) (hz : i.zero = some z)
    (hsize : i.size = 1) (hby : i.bytes = bytes) (hzs : z.cells.size = 1) {k : IntKind} {v : Value} {xs zs : List Int} {B c : Nat} {A : Option Addr}
    (hown : w.ownsRow base e 1 v xs.length (xs.map (Value.int k))) (hr : Ints w B k A zs) (hA : A = none → c = 0) (h63 : xs.length + zs.length ≤ maxLen) (hbytes : (xs.length + zs.length) * bytes ≤ 140737488355328) (hbase : base ≤ w.heap.size) :
    ∃ v' w', (Builtin.append_ #[t, t] ty #[v, .slice A zs.length c]).run P w = .ok v' w' ∧ w'.ownsRow base e 1 v' (xs ++ zs).length ((xs ++ zs).map (Value.int k)) ∧ w.grownBy w' v.ownBlock ∧ (v'.ownBlock = v.ownBlock ∨ v'.ownBlock = some w.heap.size) := by
  rcases A with _ | ad
  · have h0 : zs = [] := by
      rcases Nat.eq_zero_or_pos zs.length with h | h
      · exact List.eq_nil_of_length_eq_zero h
      · obtain ⟨b, off, e', _⟩ := hr 0 h
        cases e'
    subst h0
    rw [hA rfl]
    exact ⟨v, w, run_append_owned_none w base t ty e i 1 ht hi v _ _ hown, by simpa using hown, ⟨rfl, rfl, rfl, Nat.le_refl _, fun _ _ _ => rfl⟩, Or.inl rfl⟩
  · have hcells : ∀ j u, (zs.map (Value.int k))[j]? = some u → w.cell? (ad.add j) = some u := by
      intro j u hu
      have hj : j < zs.length := by
        rcases Nat.lt_or_ge j zs.length with h | h
        · exact h
        · rw [List.getElem?_eq_none (by simpa using h)] at hu; cases hu
      obtain ⟨b, off, e', _, hc⟩ := hr j hj
      injection e' with e'
      subst e'
      have hadd : (⟨b, off, none⟩ : Addr).add j = ⟨b, off + j, none⟩ := by unfold Addr.add; split <;> simp_all
      rw [hadd, hc]
      simp [hj] at hu
      rw [← hu]
      simp [List.getD, hj]
    obtain ⟨v', w', hrun, h2, h3, _, h5⟩ := run_append_own_at (P := P) w base t ty e i z 1 bytes ht hi hz hsize hby hzs (by decide) v xs.length _ hown ad zs.length c (zs.map (Value.int k)) (by simp) hcells (ints_oneCell k zs) h63 hbytes hbase
    exact ⟨v', w', hrun, by rw [List.length_append, List.map_append]; exact h2, h3, h5⟩

/-- append of bytes onto a slice of one's own, guarded or not. -/
theorem wpList_append_when {P : Program} (w : World) {ops : Array Oper} {rest : List Oper} {o : Oper} {a : Act} {Q : Exit → Act → World → Prop} (hw : Region.wanted o (yielded ops a.tmps) = true) (s x : Operand) (t : TypeId)
    (ho : o.op = .call { callee := .builtin .append, args := #[s, x], argTypes := #[t, t] })
    (base e : Nat) (i : TypeInfo) (z : Value) (bytes : Nat) (ht : P.underlying t = some (.slice e)) (hi : P.info? e = some i) (hz : i.zero = some z)
    (hsize : i.size = 1) (hby : i.bytes = bytes) (hzs : z.cells.size = 1) (k : IntKind) (v : Value) (xs zs : List Int) (B c n : Nat) (A : Option Addr) (hn : zs.length = n) (hs : a.eval s = v) (hx : a.eval x = .slice A n c)
    (hown : w.ownsRow base e 1 v xs.length (xs.map (Value.int k))) (hr : Ints w B k A zs) (hA : A = none → c = 0) (h63 : xs.length + zs.length ≤ maxLen) (hbytes : (xs.length + zs.length) * bytes ≤ 140737488355328) (hbase : base ≤ w.heap.size)
    (h : ∀ v' w', w'.ownsRow base e 1 v' (xs ++ zs).length ((xs ++ zs).map (Value.int k)) → w.grownBy w' v.ownBlock → (v'.ownBlock = v.ownBlock ∨ v'.ownBlock = some w.heap.size) → wpList P ops Q rest (a.put o.dst v') w') :
    wpList P ops Q (o :: rest) a w := by
  refine wpList_when hw fun K hK => ?_
  subst hn
  obtain ⟨v', w', hrun, h2, h3, h4⟩ := run_append_at (P := P) w base t o.type e i z bytes ht hi hz hsize hby hzs hown hr hA h63 hbytes hbase
  unfold Oper.wp execOp
  simp only [ho, resolve, invoke, builtin, Sem.run_bind, Sem.run_pure, Result.andThen_ok, List.map_toArray, List.map_cons, List.map_nil, hs, hx, hrun]
  exact hK _ _ (h v' w' h2 h3 h4)

/-- The same as one step of a region that draws. -/
theorem step_append_when {P : Program} (w : World) {ops : Array Oper} {o : Oper} {a : Act} {K : Act → World → Prop} {Q : Exit → Act → World → Prop} {E : Prop} (hw : Region.wanted o (yielded ops a.tmps) = true) (s x : Operand) (t : TypeId)
    (ho : o.op = .call { callee := .builtin .append, args := #[s, x], argTypes := #[t, t] })
    (base e : Nat) (i : TypeInfo) (z : Value) (bytes : Nat) (ht : P.underlying t = some (.slice e)) (hi : P.info? e = some i) (hz : i.zero = some z)
    (hsize : i.size = 1) (hby : i.bytes = bytes) (hzs : z.cells.size = 1) (k : IntKind) (v : Value) (xs zs : List Int) (B c n : Nat) (A : Option Addr) (hn : zs.length = n) (hs : a.eval s = v) (hx : a.eval x = .slice A n c)
    (hown : w.ownsRow base e 1 v xs.length (xs.map (Value.int k))) (hr : Ints w B k A zs) (hA : A = none → c = 0) (h63 : xs.length + zs.length ≤ maxLen) (hbytes : (xs.length + zs.length) * bytes ≤ 140737488355328) (hbase : base ≤ w.heap.size)
    (h : ∀ v' w', w'.ownsRow base e 1 v' (xs ++ zs).length ((xs ++ zs).map (Value.int k)) → w.grownBy w' v.ownBlock → (v'.ownBlock = v.ownBlock ∨ v'.ownBlock = some w.heap.size) → K (a.put o.dst v') w') :
    if Region.wanted o (yielded ops a.tmps) = true then Oper.wp P o a w K Q else E := by
  rw [if_pos hw]
  subst hn
  obtain ⟨v', w', hrun, h2, h3, h4⟩ := run_append_at (P := P) w base t o.type e i z bytes ht hi hz hsize hby hzs hown hr hA h63 hbytes hbase
  unfold Oper.wp execOp
  simp only [ho, resolve, invoke, builtin, Sem.run_bind, Sem.run_pure, Result.andThen_ok, List.map_toArray, List.map_cons, List.map_nil, hs, hx, hrun]
  exact h v' w' h2 h3 h4
/-- What one owns stays where its block does. -/
theorem own_same {w w' : World} {base e size n : Nat} {v : Value} {xs : List Value} (h : w.ownsRow base e size v n xs) (hk : ∀ g, v.ownBlock = some g → w'.heap[g]? = w.heap[g]?) : w'.ownsRow base e size v n xs := by
  refine ⟨h.1, ?_⟩
  rcases h.2 with h0 | ⟨g, cap, cur, rfl, hb, hg, h1, h2, h3, h4⟩
  · exact Or.inl h0
  · exact Or.inr ⟨g, cap, cur, rfl, hb, (hk g rfl).trans hg, h1, h2, h3, h4⟩

/-- A slice that holds something is not nil. -/
theorem nil_of_ints {w : World} {B : Nat} {k : IntKind} {A : Option Addr} {zs : List Int} {c : Nat} (h : Ints w B k A zs) (h0 : 0 < zs.length) : A = none → c = 0 := fun hA => by
  obtain ⟨b, off, e, _⟩ := h 0 h0
  rw [hA] at e
  cases e

end Go.Proofs.Ytbmgiekiildaaaa

namespace Go.Proofs.Ytbmgiekiildaaaa
open Go.RowKit

/-- A whole row is loaded, where a guard lets it. -/
theorem wpList_load_when {P : Program} {ops : Array Oper} {rest : List Oper} {o : Oper} {a : Act} {w : World} {Q : Exit → Act → World → Prop} (hw : Region.wanted o (yielded ops a.tmps) = true) (ty : TypeId) (x : Operand) (ho : o.op = .load ty x)
    (g : Nat) (hx : a.eval x = .pointer (some ⟨g, 0, none⟩)) (t : TypeId) (cs : Array Value) (hg : w.heap[g]? = some (.cells cs t (0, 0))) {d : TypeDesc} (hu : P.underlying ty = some d) (hd : d.isRow = true) (hi : (P.info? ty).map (·.size) = some cs.size)
    (h : wpList P ops Q rest (a.put o.dst (.agg cs)) w) : wpList P ops Q (o :: rest) a w :=
  wpList_when hw fun K hK => wp_load_mid ty x ho g 0 hx cs.toList d (fun j v hj => by rw [Nat.zero_add, cell_of_row _ _ _ _ _ _ hg, ← hj]; simp) hu hd (by rw [hi]; simp) (by rw [Array.toArray_toList]; exact hK _ _ h)
theorem fieldsOf_of {P : Program} {t : TypeId} {fs : Array Field} (h : P.underlying t = some (.struct fs)) : P.fieldsOf t = fs := by unfold Program.fieldsOf; rw [h]
theorem str_eq (a b : ByteArray) : (a.toList == b.toList) = decide (a = b) := by
  rw [Bool.eq_iff_iff, decide_eq_true_eq, beq_iff_eq, ByteArray.toList_eq, ByteArray.toList_eq]
  constructor
  · intro h
    obtain ⟨⟨x⟩⟩ := a
    obtain ⟨⟨y⟩⟩ := b
    simp only at h
    rw [h]
  · rintro rfl; rfl
/-- One field is compared. -/
theorem eqF_step {P : Program} {w : World} {d : Nat} {xs ys : Array Value} {f : Field} {fs : List Field} {a b : Value} {r : Bool} {R : Result Bool} (hn : f.name ≠ "_") (ha : (part f.type xs f.offset).run P w = .ok a w) (hb : (part f.type ys f.offset).run P w = .ok b w)
    (he : (Op.equalIn d f.type a b).run P w = .ok r w) (h : r = true → (Op.eqFields d xs ys fs).run P w = R) (hf : r = false → R = .ok false w) : (Op.eqFields d xs ys (f :: fs)).run P w = R := by
  unfold Op.eqFields
  rw [if_pos hn]
  simp only [Sem.run_bind, ha, hb, he, Result.andThen_ok]
  cases r
  · rw [hf rfl]; simp
  · simp; exact h rfl
theorem eqF_end {P : Program} {w : World} {d : Nat} {xs ys : Array Value} : (Op.eqFields d xs ys []).run P w = .ok true w := rfl
theorem eqI {w : World} {d : Nat} (a b : Int) : (Op.equalIn (d + 1) 3 (.int .i64 a) (.int .i64 b)).run Try.prog w = .ok (decide (a = b)) w := by
  rw [run_equalIn_int w d 3 .i64 .i64 a b Try.underlying3]
  congr 1
theorem eqB {w : World} {d : Nat} (a b : Bool) : (Op.equalIn (d + 1) 4 (.bool a) (.bool b)).run Try.prog w = .ok (a == b) w := run_equalIn_bool' w d 4 a b Try.underlying4
theorem eqS {w : World} {d : Nat} (a b : ByteArray) : (Op.equalIn (d + 1) 9 (.string a) (.string b)).run Try.prog w = .ok (decide (a = b)) w := by
  rw [run_equalIn_string w d 9 a b Try.underlying9, str_eq]
set_option maxHeartbeats 400000 in
theorem eqRec_run (d : Nat) (x y : Rc) (w : World) : (Op.equalIn (d + 2) 86 (.agg (rcV x)) (.agg (rcV y))).run Try.prog w = .ok (decide (x = y)) w := by
  rw [run_equalIn_struct w (d + 1) 86 (rcV x) (rcV y) (by kernel_rfl) (by kernel_rfl), fieldsOf_of Try.underlying86]
  refine eqF_step (by decide) (by kernel_rfl) (by kernel_rfl) (eqI x.k y.k) (fun h0 => ?_) (fun h => by rw [decide_eq_false (fun e => by rw [e, decide_eq_true rfl] at h; cases h)])
  refine eqF_step (by decide) (by kernel_rfl) (by kernel_rfl) (eqI x.a y.a) (fun h1 => ?_) (fun h => by rw [decide_eq_false (fun e => by rw [e, decide_eq_true rfl] at h; cases h)])
  refine eqF_step (by decide) (by kernel_rfl) (by kernel_rfl) (eqI x.b y.b) (fun h2 => ?_) (fun h => by rw [decide_eq_false (fun e => by rw [e, decide_eq_true rfl] at h; cases h)])
  refine eqF_step (by decide) (by kernel_rfl) (by kernel_rfl) (eqI x.c y.c) (fun h3 => ?_) (fun h => by rw [decide_eq_false (fun e => by rw [e, decide_eq_true rfl] at h; cases h)])
  refine eqF_step (by decide) (by kernel_rfl) (by kernel_rfl) (eqI x.d y.d) (fun h4 => ?_) (fun h => by rw [decide_eq_false (fun e => by rw [e, decide_eq_true rfl] at h; cases h)])
  refine eqF_step (by decide) (by kernel_rfl) (by kernel_rfl) (eqS x.key y.key) (fun h5 => ?_) (fun h => by rw [decide_eq_false (fun e => by rw [e, decide_eq_true rfl] at h; cases h)])
  rw [decide_eq_true ((rc_ext x y).1 ⟨of_decide_eq_true h0, of_decide_eq_true h1, of_decide_eq_true h2, of_decide_eq_true h3, of_decide_eq_true h4, of_decide_eq_true h5⟩)]
  exact eqF_end
theorem eqRec_all (x y : Rc) (w : World) : (Op.equalIn 10000 86 (.agg (rcV x)) (.agg (rcV y))).run Try.prog w = .ok (decide (x = y)) w := eqRec_run 9998 x y w

end Go.Proofs.Ytbmgiekiildaaaa

namespace Go.Proofs.Ytbmgiekiildaaaa
open Go.RowKit

def tenV (x : Ten) : Array Value := #[.int .i64 x.id, .int .i64 x.quota, .int .i64 x.rate, .int .i64 x.burst, .string x.key, .bool x.dying]
def volV (x : Vol) : Array Value := #[.int .i64 x.id, .int .i64 x.ten, .int .i64 x.blocks, .int .i64 x.base]
theorem ten_ext (x y : Ten) : (x.id = y.id ∧ x.quota = y.quota ∧ x.rate = y.rate ∧ x.burst = y.burst ∧ x.key = y.key ∧ x.dying = y.dying) ↔ x = y := by
  constructor
  · obtain ⟨_, _, _, _, _, _⟩ := x
    obtain ⟨_, _, _, _, _, _⟩ := y
    rintro ⟨h1, h2, h3, h4, h5, h6⟩
    simp only at h1 h2 h3 h4 h5 h6
    subst h1 h2 h3 h4 h5 h6; rfl
  · rintro rfl; exact ⟨rfl, rfl, rfl, rfl, rfl, rfl⟩
instance : DecidableEq Ten := fun x y => decidable_of_iff _ (ten_ext x y)
theorem vol_ext (x y : Vol) : (x.id = y.id ∧ x.ten = y.ten ∧ x.blocks = y.blocks ∧ x.base = y.base) ↔ x = y := by
  constructor
  · obtain ⟨_, _, _, _⟩ := x
    obtain ⟨_, _, _, _⟩ := y
    rintro ⟨h1, h2, h3, h4⟩
    simp only at h1 h2 h3 h4
    subst h1 h2 h3 h4; rfl
  · rintro rfl; exact ⟨rfl, rfl, rfl, rfl⟩
instance : DecidableEq Vol := fun x y => decidable_of_iff _ (vol_ext x y)
theorem tab_ext (x y : Tab) : (x.ts = y.ts ∧ x.vs = y.vs ∧ x.os = y.os) ↔ x = y := by
  constructor
  · obtain ⟨_, _, _⟩ := x
    obtain ⟨_, _, _⟩ := y
    rintro ⟨h1, h2, h3⟩
    simp only at h1 h2 h3
    subst h1 h2 h3; rfl
  · rintro rfl; exact ⟨rfl, rfl, rfl⟩
instance : DecidableEq Tab := fun x y => decidable_of_iff _ (tab_ext x y)
set_option maxHeartbeats 400000 in
theorem eqTen_all (x y : Ten) (w : World) : (Op.equalIn 10000 83 (.agg (tenV x)) (.agg (tenV y))).run Try.prog w = .ok (decide (x = y)) w := by
  rw [run_equalIn_struct w 9999 83 (tenV x) (tenV y) (by kernel_rfl) (by kernel_rfl), fieldsOf_of Try.underlying83]
  refine eqF_step (by decide) (by kernel_rfl) (by kernel_rfl) (eqI x.id y.id) (fun h0 => ?_) (fun h => by rw [decide_eq_false (fun e => by rw [e, decide_eq_true rfl] at h; cases h)])
  refine eqF_step (by decide) (by kernel_rfl) (by kernel_rfl) (eqI x.quota y.quota) (fun h1 => ?_) (fun h => by rw [decide_eq_false (fun e => by rw [e, decide_eq_true rfl] at h; cases h)])
  refine eqF_step (by decide) (by kernel_rfl) (by kernel_rfl) (eqI x.rate y.rate) (fun h2 => ?_) (fun h => by rw [decide_eq_false (fun e => by rw [e, decide_eq_true rfl] at h; cases h)])
  refine eqF_step (by decide) (by kernel_rfl) (by kernel_rfl) (eqI x.burst y.burst) (fun h3 => ?_) (fun h => by rw [decide_eq_false (fun e => by rw [e, decide_eq_true rfl] at h; cases h)])
  refine eqF_step (by decide) (by kernel_rfl) (by kernel_rfl) (eqS x.key y.key) (fun h4 => ?_) (fun h => by rw [decide_eq_false (fun e => by rw [e, decide_eq_true rfl] at h; cases h)])
  refine eqF_step (by decide) (by kernel_rfl) (by kernel_rfl) (eqB x.dying y.dying) (fun h5 => ?_) (fun h => by rw [decide_eq_false (fun e => by rw [e, beq_self_eq_true] at h; cases h)])
  rw [decide_eq_true ((ten_ext x y).1 ⟨of_decide_eq_true h0, of_decide_eq_true h1, of_decide_eq_true h2, of_decide_eq_true h3, of_decide_eq_true h4, eq_of_beq h5⟩)]
  exact eqF_end
set_option maxHeartbeats 400000 in
theorem eqVol_all (x y : Vol) (w : World) : (Op.equalIn 10000 46 (.agg (volV x)) (.agg (volV y))).run Try.prog w = .ok (decide (x = y)) w := by
  rw [run_equalIn_struct w 9999 46 (volV x) (volV y) (by kernel_rfl) (by kernel_rfl), fieldsOf_of Try.underlying46]
  refine eqF_step (by decide) (by kernel_rfl) (by kernel_rfl) (eqI x.id y.id) (fun h0 => ?_) (fun h => by rw [decide_eq_false (fun e => by rw [e, decide_eq_true rfl] at h; cases h)])
  refine eqF_step (by decide) (by kernel_rfl) (by kernel_rfl) (eqI x.ten y.ten) (fun h1 => ?_) (fun h => by rw [decide_eq_false (fun e => by rw [e, decide_eq_true rfl] at h; cases h)])
  refine eqF_step (by decide) (by kernel_rfl) (by kernel_rfl) (eqI x.blocks y.blocks) (fun h2 => ?_) (fun h => by rw [decide_eq_false (fun e => by rw [e, decide_eq_true rfl] at h; cases h)])
  refine eqF_step (by decide) (by kernel_rfl) (by kernel_rfl) (eqI x.base y.base) (fun h3 => ?_) (fun h => by rw [decide_eq_false (fun e => by rw [e, decide_eq_true rfl] at h; cases h)])
  rw [decide_eq_true ((vol_ext x y).1 ⟨of_decide_eq_true h0, of_decide_eq_true h1, of_decide_eq_true h2, of_decide_eq_true h3⟩)]
  exact eqF_end

end Go.Proofs.Ytbmgiekiildaaaa

namespace Go.Proofs.Ytbmgiekiildaaaa
open Go.RowKit

set_option maxHeartbeats 800000 in
/-- 'has'. -/
theorem has_any (a b n : Int) (w : World) : Calls Try.prog 42 #[.agg #[.int .i64 a, .int .i64 b], .int .i64 n] w fun e w' => e = .returned (.bool (decide (inR n a b))) ∧ Below w.heap.size w w' := by
  have hb : Below w.heap.size w (w.alloc (.cells #[.int .i64 a, .int .i64 b] 79)) := (Below.refl _ _).alloc (Nat.le_refl _) _
  by_cases h0 : a ≤ n
  · by_cases h1 : n ≤ b
    · rw [decide_eq_true (show inR n a b from ⟨h0, h1⟩)]
      have d0 : decide (a ≤ n) = true := decide_eq_true h0
      have d1 : decide (n ≤ b) = true := decide_eq_true h1
      go_enter Try.func42, Try.ntmps42
      go_wp2
      go_ret
      exact ⟨rfl, hb⟩
    · rw [decide_eq_false (show ¬ inR n a b from fun h => by unfold inR at h; omega)]
      have d0 : decide (a ≤ n) = true := decide_eq_true h0
      have d1 : decide (n ≤ b) = false := decide_eq_false h1
      go_enter Try.func42, Try.ntmps42
      go_wp2
      go_ret
      exact ⟨rfl, hb⟩
  · rw [decide_eq_false (show ¬ inR n a b from fun h => by unfold inR at h; omega)]
    have d0 : decide (a ≤ n) = false := decide_eq_false h0
    go_enter Try.func42, Try.ntmps42
    go_wp2
    go_ret
    exact ⟨rfl, hb⟩

theorem tower5 (w : World) (o a b c d : Obj) : (((((w.alloc o).alloc a).alloc b).alloc c).alloc d).heap[w.heap.size]? = some o ∧ Below w.heap.size w (((((w.alloc o).alloc a).alloc b).alloc c).alloc d) := by
  refine ⟨?_, (((((Below.refl _ _).alloc (Nat.le_refl _) _).alloc (by simp) _).alloc (by simp; omega) _).alloc (by simp; omega) _).alloc (by simp; omega) _⟩
  rw [Below.heap_alloc _ _ _ (by simp; omega), Below.heap_alloc _ _ _ (by simp; omega), Below.heap_alloc _ _ _ (by simp; omega), Below.heap_alloc _ _ _ (by simp)]
  exact heap_alloc_new _ _
/-- A change's form: from where to where its numbers may be, and how many bytes its key has. -/
def frmV (k : Int) : Array Value :=
  if k = 1 then #[.int .i64 1, .int .i64 7, .int .i64 1, .int .i64 64, .int .i64 0, .int .i64 4294967296, .int .i64 1, .int .i64 64, .int .i64 16]
  else if k = 2 then #[.int .i64 1, .int .i64 7, .int .i64 1, .int .i64 64, .int .i64 0, .int .i64 0, .int .i64 0, .int .i64 0, .int .i64 0]
  else if k = 3 ∨ k = 4 then #[.int .i64 1, .int .i64 7, .int .i64 0, .int .i64 0, .int .i64 0, .int .i64 0, .int .i64 0, .int .i64 0, .int .i64 0]
  else if k = 5 then #[.int .i64 0, .int .i64 7, .int .i64 1, .int .i64 7, .int .i64 0, .int .i64 32, .int .i64 0, .int .i64 0, .int .i64 0]
  else if k = 6 then #[.int .i64 0, .int .i64 7, .int .i64 0, .int .i64 32, .int .i64 0, .int .i64 0, .int .i64 0, .int .i64 0, .int .i64 0]
  else if k = 7 then #[.int .i64 0, .int .i64 7, .int .i64 0, .int .i64 0, .int .i64 0, .int .i64 0, .int .i64 0, .int .i64 0, .int .i64 0]
  else if k = 8 then #[.int .i64 0, .int .i64 7, .int .i64 0, .int .i64 1099511627776, .int .i64 0, .int .i64 0, .int .i64 0, .int .i64 0, .int .i64 0]
  else if k = 9 then #[.int .i64 0, .int .i64 63, .int .i64 0, .int .i64 7, .int .i64 0, .int .i64 0, .int .i64 0, .int .i64 0, .int .i64 0]
  else #[.int .i64 0, .int .i64 0, .int .i64 0, .int .i64 0, .int .i64 0, .int .i64 0, .int .i64 0, .int .i64 0, .int .i64 0]
set_option maxHeartbeats 1600000 in
/-- 'formOf'. -/
theorem formOf_any (k : Int) (w : World) (hk : 0 ≤ k ∧ k ≤ 9) : Calls Try.prog 57 #[.int .i64 k] w fun e w' => e = .returned (.agg (frmV k)) ∧ Below w.heap.size w w' := by
  rcases (show k = 0 ∨ k = 1 ∨ k = 2 ∨ k = 3 ∨ k = 4 ∨ k = 5 ∨ k = 6 ∨ k = 7 ∨ k = 8 ∨ k = 9 by omega) with rfl | rfl | rfl | rfl | rfl | rfl | rfl | rfl | rfl | rfl
  all_goals
    clear hk
    go_enter Try.func57, Try.ntmps57
    go_wp2
    refine bodyPost_ret (results_cell_row rfl _ _ w.heap.size 94 _ (0, 0) _ rfl (tower5 w _ _ _ _ _).1 Try.underlying94 rfl (by kernel_rfl)) rfl ⟨rfl, (tower5 w _ _ _ _ _).2⟩

set_option maxHeartbeats 1600000 in
/-- 'tenantRec'. -/
theorem tenRec_any (x : Ten) (w : World) : Calls Try.prog 48 #[.agg (tenV x)] w fun e w' => e = .returned (.agg (rcV ⟨1, x.id, x.quota, x.rate, x.burst, x.key⟩)) ∧ Below w.heap.size w w' := by
  have h2 := fun o a : Obj => (heap_alloc_new (w.alloc o) a)
  obtain ⟨p0, p1, p2, p3, p4, p5⟩ := x
  simp only [tenV, rcV]
  go_enter Try.func48, Try.ntmps48
  go_wp2
  refine bodyPost_ret (results_cell_row rfl _ _ (w.heap.size + 1) 86 _ (0, 0) _ rfl (by have := h2 (.cells #[.int .i64 p0, .int .i64 p1, .int .i64 p2, .int .i64 p3, .string p4, .bool p5] 83) (.cells #[.int .i64 1, .int .i64 p0, .int .i64 p1, .int .i64 p2, .int .i64 p3, .string p4] 86); rwa [show (w.alloc (.cells #[.int .i64 p0, .int .i64 p1, .int .i64 p2, .int .i64 p3, .string p4, .bool p5] 83)).heap.size = w.heap.size + 1 by simp] at this) Try.underlying86 rfl (by kernel_rfl)) rfl ⟨rfl, ((Below.refl _ _).alloc (Nat.le_refl _) _).alloc (by simp) _⟩
set_option maxHeartbeats 1600000 in
/-- 'volumeRec'. -/
theorem volRec_any (x : Vol) (w : World) : Calls Try.prog 49 #[.agg (volV x)] w fun e w' => e = .returned (.agg (rcV ⟨5, x.id, x.ten, x.blocks, 0, ⟨#[]⟩⟩)) ∧ Below w.heap.size w w' := by
  have h2 := fun o a : Obj => (heap_alloc_new (w.alloc o) a)
  obtain ⟨p0, p1, p2, p3⟩ := x
  simp only [volV, rcV]
  go_enter Try.func49, Try.ntmps49
  go_wp2
  refine bodyPost_ret (results_cell_row rfl _ _ (w.heap.size + 1) 86 _ (0, 0) _ rfl (by have := h2 (.cells #[.int .i64 p0, .int .i64 p1, .int .i64 p2, .int .i64 p3] 46) (.cells #[.int .i64 5, .int .i64 p0, .int .i64 p1, .int .i64 p2, .int .i64 0, .string ⟨#[]⟩] 86); rwa [show (w.alloc (.cells #[.int .i64 p0, .int .i64 p1, .int .i64 p2, .int .i64 p3] 46)).heap.size = w.heap.size + 1 by simp] at this) Try.underlying86 rfl (by kernel_rfl)) rfl ⟨rfl, ((Below.refl _ _).alloc (Nat.le_refl _) _).alloc (by simp) _⟩
set_option maxHeartbeats 1600000 in
/-- 'baseRec'. -/
theorem baseRec_any (x : Vol) (w : World) : Calls Try.prog 50 #[.agg (volV x)] w fun e w' => e = .returned (.agg (rcV ⟨8, x.id, x.base, 0, 0, ⟨#[]⟩⟩)) ∧ Below w.heap.size w w' := by
  have h2 := fun o a : Obj => (heap_alloc_new (w.alloc o) a)
  obtain ⟨p0, p1, p2, p3⟩ := x
  simp only [volV, rcV]
  go_enter Try.func50, Try.ntmps50
  go_wp2
  refine bodyPost_ret (results_cell_row rfl _ _ (w.heap.size + 1) 86 _ (0, 0) _ rfl (by have := h2 (.cells #[.int .i64 p0, .int .i64 p1, .int .i64 p2, .int .i64 p3] 46) (.cells #[.int .i64 8, .int .i64 p0, .int .i64 p3, .int .i64 0, .int .i64 0, .string ⟨#[]⟩] 86); rwa [show (w.alloc (.cells #[.int .i64 p0, .int .i64 p1, .int .i64 p2, .int .i64 p3] 46)).heap.size = w.heap.size + 1 by simp] at this) Try.underlying86 rfl (by kernel_rfl)) rfl ⟨rfl, ((Below.refl _ _).alloc (Nat.le_refl _) _).alloc (by simp) _⟩

theorem cells9 {X : World} {g : Nat} {T : TypeId} {v0 v1 v2 v3 v4 v5 v6 v7 v8 : Value} (h : X.heap[g]? = some (.cells #[v0, v1, v2, v3, v4, v5, v6, v7, v8] T (0, 0))) :
    X.cell? ⟨g, 0, none⟩ = some v0 ∧ X.cell? ⟨g, 1, none⟩ = some v1 ∧ X.cell? ⟨g, 2, none⟩ = some v2 ∧ X.cell? ⟨g, 3, none⟩ = some v3 ∧ X.cell? ⟨g, 4, none⟩ = some v4 ∧ X.cell? ⟨g, 5, none⟩ = some v5 ∧ X.cell? ⟨g, 6, none⟩ = some v6 ∧ X.cell? ⟨g, 7, none⟩ = some v7 ∧ X.cell? ⟨g, 8, none⟩ = some v8 :=
  ⟨by rw [cell_of_row _ _ _ _ _ _ h]; rfl, by rw [cell_of_row _ _ _ _ _ _ h]; rfl, by rw [cell_of_row _ _ _ _ _ _ h]; rfl, by rw [cell_of_row _ _ _ _ _ _ h]; rfl, by rw [cell_of_row _ _ _ _ _ _ h]; rfl, by rw [cell_of_row _ _ _ _ _ _ h]; rfl, by rw [cell_of_row _ _ _ _ _ _ h]; rfl, by rw [cell_of_row _ _ _ _ _ _ h]; rfl, by rw [cell_of_row _ _ _ _ _ _ h]; rfl⟩
theorem cells6 {X : World} {g : Nat} {T : TypeId} {v0 v1 v2 v3 v4 v5 : Value} (h : X.heap[g]? = some (.cells #[v0, v1, v2, v3, v4, v5] T (0, 0))) :
    X.cell? ⟨g, 0, none⟩ = some v0 ∧ X.cell? ⟨g, 1, none⟩ = some v1 ∧ X.cell? ⟨g, 2, none⟩ = some v2 ∧ X.cell? ⟨g, 3, none⟩ = some v3 ∧ X.cell? ⟨g, 4, none⟩ = some v4 ∧ X.cell? ⟨g, 5, none⟩ = some v5 :=
  ⟨by rw [cell_of_row _ _ _ _ _ _ h]; rfl, by rw [cell_of_row _ _ _ _ _ _ h]; rfl, by rw [cell_of_row _ _ _ _ _ _ h]; rfl, by rw [cell_of_row _ _ _ _ _ _ h]; rfl, by rw [cell_of_row _ _ _ _ _ _ h]; rfl, by rw [cell_of_row _ _ _ _ _ _ h]; rfl⟩
theorem cells4 {X : World} {g : Nat} {T : TypeId} {v0 v1 v2 v3 : Value} (h : X.heap[g]? = some (.cells #[v0, v1, v2, v3] T (0, 0))) :
    X.cell? ⟨g, 0, none⟩ = some v0 ∧ X.cell? ⟨g, 1, none⟩ = some v1 ∧ X.cell? ⟨g, 2, none⟩ = some v2 ∧ X.cell? ⟨g, 3, none⟩ = some v3 :=
  ⟨by rw [cell_of_row _ _ _ _ _ _ h]; rfl, by rw [cell_of_row _ _ _ _ _ _ h]; rfl, by rw [cell_of_row _ _ _ _ _ _ h]; rfl, by rw [cell_of_row _ _ _ _ _ _ h]; rfl⟩
theorem cells3 {X : World} {g : Nat} {T : TypeId} {v0 v1 v2 : Value} (h : X.heap[g]? = some (.cells #[v0, v1, v2] T (0, 0))) :
    X.cell? ⟨g, 0, none⟩ = some v0 ∧ X.cell? ⟨g, 1, none⟩ = some v1 ∧ X.cell? ⟨g, 2, none⟩ = some v2 :=
  ⟨by rw [cell_of_row _ _ _ _ _ _ h]; rfl, by rw [cell_of_row _ _ _ _ _ _ h]; rfl, by rw [cell_of_row _ _ _ _ _ _ h]; rfl⟩

end Go.Proofs.Ytbmgiekiildaaaa
