/-
  Words for memory, for whatever slices of integers: a slice that reads as a list of integers, and what a function leaves that hands back a new slice of bytes and an error's number. Arrays of bytes as values: their cells, a slice over one, whether two are alike; a whole array laid into a block of one's own. Plain arithmetic on lists of bytes: the bytes of a number, the number of bytes, and the answers of the layer pack as functions. No program is spoken of here. The small functions of the layer pack: what each call answers. Conditions: what is said of each. 'Get' of the layer pack: whatever it is given, what it answers; nothing that was there is changed. A slice of texts that came in: each a slice of bytes, nil or not. Rows of numbers of 32 bits in memory: the cells of a block.
-/
import Derived.WalkKit
import Derived.Laws.BytesArg
import Derived.Deep.AppendLies
import Derived.Maps.AppendAt
import Derived.Lib.Hide
import Derived.Deep.Draws
import Derived.Deep.QuietTactic
import Derived.Deep.WholeRow
import Derived.Deep.MidRow
import Derived.Laws.CopyOwn
import Derived.ChangeKeysEq
import Derived.Laws.StructEq
import Derived.Test.YtanpfodmmeagaaaDoorChecked
import Derived.Tactics
import Derived.Tactics2
import Derived.LoopTactic
import Derived.OpenShut
import Derived.Deep.Matrix
namespace Go.Proofs.YtanpfodmmeagaaaDoor
open Go.RowKit

/-- The slice at address A reads as the integers zs, each in a block ahead of block B. -/
def Ints (w : World) (B : Nat) (k : IntKind) (A : Option Addr) (zs : List Int) : Prop :=
  ∀ i, i < zs.length → ∃ b off, A = some ⟨b, off, none⟩ ∧ b < B ∧ w.cell? ⟨b, off + i, none⟩ = some (.int k (zs.getD i 0))

section
variable {w w' : World} {B B' : Nat} {k : IntKind} {A : Option Addr} {zs : List Int}
theorem Ints.nil (w : World) (B : Nat) (k : IntKind) (A : Option Addr) : Ints w B k A [] := fun i h => absurd h (by simp)
theorem Ints.keep (h : Ints w B k A zs) (hk : ∀ p : Addr, p.block < B → w'.cell? p = w.cell? p) : Ints w' B k A zs := fun i hi => by
  obtain ⟨b, off, e, hb, hc⟩ := h i hi
  exact ⟨b, off, e, hb, (hk ⟨b, off + i, none⟩ hb).trans hc⟩
theorem Ints.below (h : Ints w B k A zs) (hb : Below B w w') : Ints w' B k A zs := h.keep fun _ hp => hb.cell hp
theorem Ints.more (h : Ints w B k A zs) (hB : B ≤ B') : Ints w B' k A zs := fun i hi => by
  obtain ⟨b, off, e, hb, hc⟩ := h i hi
  exact ⟨b, off, e, by omega, hc⟩
theorem Ints.drewN (h : Ints w B k A zs) (n : Nat) : Ints (w.drewN n) B k A zs := h
theorem Ints.drew (h : Ints w B k A zs) : Ints w.drew B k A zs := h
theorem Ints.alloc (h : Ints w B k A zs) (hB : B ≤ w.heap.size) (o : Obj) : Ints (w.alloc o) B k A zs := h.keep fun p hp => World.cell?_alloc_lt w o p (by omega)
/-- At least one: the address is written out, and all cells are known. -/
theorem Ints.at_ (h : Ints w B k A zs) (h0 : 0 < zs.length) : ∃ b off, A = some ⟨b, off, none⟩ ∧ b < B ∧ ∀ i, i < zs.length → w.cell? ⟨b, off + i, none⟩ = some (.int k (zs.getD i 0)) := by
  obtain ⟨b, off, rfl, hb, _⟩ := h 0 h0
  refine ⟨b, off, rfl, hb, fun i hi => ?_⟩
  obtain ⟨b', off', e, _, hc⟩ := h i hi
  injection e with e
  injection e with e1 e2
  subst e1 e2
  exact hc
/-- A new block of integers, seen from behind. -/
theorem Ints.new (w : World) (t : TypeId) (k : IntKind) (zs : List Int) (cs : Array Value) (hcs : cs.toList = zs.map (Value.int k)) : Ints (w.alloc (.cells cs t)) (w.heap.size + 1) k (some ⟨w.heap.size, 0, none⟩) zs := fun i hi => by
  refine ⟨w.heap.size, 0, rfl, by omega, ?_⟩
  rw [World.cell?_alloc_at _ _ _ _ rfl, ← Array.getElem?_toList, hcs]
  simp [List.getD, hi]
theorem Ints.newMark (w : World) (t : TypeId) (k : IntKind) (zs : List Int) (cs : Array Value) (fr : Nat × Nat) (hcs : cs.toList = zs.map (Value.int k)) : Ints (w.alloc (.cells cs t fr)) (w.heap.size + 1) k (some ⟨w.heap.size, 0, none⟩) zs := fun i hi => by
  refine ⟨w.heap.size, 0, rfl, by omega, ?_⟩
  rw [Nat.zero_add, World.cell?_alloc_mark, ← Array.getElem?_toList, hcs]
  simp [List.getD, hi]
theorem Ints.of_own {base t : Nat} {c n : Nat} (h : w.ownsRow base t 1 (.slice A n c) zs.length (zs.map (Value.int k))) : Ints w w.heap.size k A zs := fun i hi => by
  obtain ⟨g, cap, hv, _, hlt⟩ := h.form (by omega)
  injection hv with hA _ _
  subst hA
  refine ⟨g, 0, rfl, hlt, ?_⟩
  have hx := h.cells (g := g) rfl i (.int k (zs.getD i 0)) (by simp [List.getD, hi])
  have hadd : (⟨g, 0, none⟩ : Addr).add i = ⟨g, 0 + i, none⟩ := by unfold Addr.add; split <;> simp_all
  rwa [hadd] at hx
theorem Ints.take (h : Ints w B k A zs) (n : Nat) : Ints w B k A (zs.take n) := fun i hi => by
  have h1 : i < n ∧ i < zs.length := by rw [List.length_take] at hi; omega
  obtain ⟨b, off, e, hb, hc⟩ := h i h1.2
  refine ⟨b, off, e, hb, ?_⟩
  rw [hc]
  simp [List.getD, h1.1]
/-- 's[n:]'. -/
theorem Ints.cut (h : Ints w B k A zs) {n c : Nat} (hn : n ≤ zs.length) (hc : zs.length ≤ c) : Ints w B k (if c = n then A else A.map (·.add n)) (zs.drop n) := fun i hi => by
  have hi' : n + i < zs.length := by rw [List.length_drop] at hi; omega
  obtain ⟨b, off, rfl, hb, hcell⟩ := h (n + i) hi'
  rw [if_neg (by omega)]
  refine ⟨b, off + n, by unfold Addr.add; split <;> simp_all, hb, ?_⟩
  rw [Nat.add_assoc, hcell]
  simp [List.getD]
/-- 'string(b)'. -/
theorem Ints.text {P : Program} {src e dst : TypeId} (h : Ints w B .u8 A zs) (hs : P.underlying src = some (.slice e)) (he : P.underlying e = some (.int .u8)) (hd : P.underlying dst = some .string) (c : Nat) :
    (convert src dst (.slice A zs.length c)).run P w = .ok (.string (strOfNums zs)) w := by
  rcases Nat.eq_zero_or_pos zs.length with h0 | h0
  · have hz : zs = [] := List.eq_nil_of_length_eq_zero h0
    subst hz
    rw [run_convert_bytes_string w src dst e _ _ c hs he hd]
    rcases A with _ | a
    · simp [Conv.bytesToString, strOfNums, ByteArray.empty, ByteArray.emptyWithCapacity]; rfl
    · have hl : (loadCells a 0).run P w = .ok (([] : List Int).map (Value.int .u8)).toArray w := by
        simpa using run_loadCells_list (P := P) w a [] (fun j v hj => by simp at hj)
      rw [List.length_nil, run_bytesToString w a 0 c [] hl]
      rfl
  · obtain ⟨b, off, rfl, _, hc⟩ := h.at_ h0
    exact run_convert_bytes_arg w src e hs he b off zs.length c zs rfl hc dst hd
/-- 'string(b)', the length and the text spelled as wanted. -/
theorem Ints.textAs {P : Program} {src e dst : TypeId} {n : Nat} {t : ByteArray} (h : Ints w B .u8 A zs) (hs : P.underlying src = some (.slice e)) (he : P.underlying e = some (.int .u8)) (hd : P.underlying dst = some .string) (hn : zs.length = n) (ht : strOfNums zs = t) (c : Nat) :
    (convert src dst (.slice A n c)).run P w = .ok (.string t) w := by
  subst hn ht
  exact h.text hs he hd c
end

/-- A slice that came in, in the words of a row's frame, as Ints. -/
theorem ints_of_row {k : IntKind} {w : World} {a : Option Addr} {len cap : Nat} {zs : List Int}
    (h : (a = none ∧ len = 0 ∧ cap = 0 ∧ zs = []) ∨ ∃ x, a = some x ∧ len ≤ cap ∧ cap ≤ maxLen ∧ zs.length = cap ∧ (∀ i, i < zs.length → w.cell? (x.add i) = some (.int k (zs.getD i 0))) ∧ ∀ n ∈ zs, (Lit.int k n).wf = true) :
    ∃ l : List Int, l.length = len ∧ len ≤ cap ∧ cap ≤ maxLen ∧ Ints w w.heap.size k a l ∧ ∀ n ∈ l, (Lit.int k n).wf = true := by
  rcases h with ⟨rfl, rfl, rfl, rfl⟩ | ⟨x, rfl, hl, hm, hz, hc, hw⟩
  · exact ⟨[], rfl, Nat.le_refl _, Nat.zero_le _, Ints.nil _ _ _ _, by simp⟩
  · refine ⟨zs.take len, by rw [List.length_take]; omega, hl, hm, fun i hi => ?_, fun n hn => hw n (List.mem_of_mem_take hn)⟩
    have hi2 : i < len ∧ i < zs.length := by rw [List.length_take] at hi; omega
    obtain ⟨b, off, spot⟩ := x
    have hci := hc i hi2.2
    have hspot : spot = none := by simpa [Addr.add] using World.cell?_spot (hc 0 (by omega))
    subst hspot
    have hadd : (⟨b, off, none⟩ : Addr).add i = ⟨b, off + i, none⟩ := by unfold Addr.add; split <;> simp_all
    rw [hadd] at hci
    refine ⟨b, off, rfl, World.block_lt_of_cell? w _ hci, ?_⟩
    rw [hci]
    simp [List.getD, hi2.1]

theorem nil_of_row {k : IntKind} {w : World} {a : Option Addr} {len cap : Nat} {zs : List Int}
    (h : (a = none ∧ len = 0 ∧ cap = 0 ∧ zs = []) ∨ ∃ x, a = some x ∧ len ≤ cap ∧ cap ≤ maxLen ∧ zs.length = cap ∧ (∀ i, i < zs.length → w.cell? (x.add i) = some (.int k (zs.getD i 0))) ∧ ∀ n ∈ zs, (Lit.int k n).wf = true) :
    a = none → cap = 0 := by
  rcases h with ⟨_, _, h, _⟩ | ⟨x, h, _⟩
  · exact fun _ => h
  · intro e; rw [e] at h; cases h
theorem nat_u32 {n : Int} (h : (Lit.int .u32 n).wf = true) : ∃ s : Nat, n = s ∧ s < 2 ^ 32 := by
  have : 0 ≤ n ∧ n ≤ 4294967295 := by simpa [Lit.wf, IntKind.min, IntKind.max, IntKind.signed, IntKind.bits] using h
  exact ⟨n.toNat, by omega, by omega⟩
theorem nat_u16 {n : Int} (h : (Lit.int .u16 n).wf = true) : ∃ s : Nat, n = s ∧ s < 65536 := by
  have : 0 ≤ n ∧ n ≤ 65535 := by simpa [Lit.wf, IntKind.min, IntKind.max, IntKind.signed, IntKind.bits] using h
  exact ⟨n.toNat, by omega, by omega⟩
theorem int_i64 {n : Int} (h : (Lit.int .i64 n).wf = true) : -9223372036854775808 ≤ n ∧ n ≤ 9223372036854775807 := by
  simpa [Lit.wf, IntKind.min, IntKind.max, IntKind.signed, IntKind.bits] using h

/-! ### Small laws -/
theorem ret_int {k : IntKind} {a b : Int} (h : a = b) : Ending.returned (.int k a) = .returned (.int k b) := by rw [h]
theorem ret_bool {a b : Bool} (h : a = b) : Ending.returned (.bool a) = .returned (.bool b) := by rw [h]
theorem getD_mem {l : List Int} {i : Nat} (h : i < l.length) : l.getD i 0 ∈ l := by
  simp [List.getD, h]
theorem take_snoc (l : List Int) (k : Nat) (h : k < l.length) : l.take (k + 1) = l.take k ++ [l.getD k 0] := by
  rw [List.take_succ_eq_append_getElem h]; simp [List.getD, h]
theorem own_slice {w : World} {base e n : Nat} {v : Value} {xs : List Value} (h : w.ownsRow base e 1 v n xs) : ∃ A c, v = .slice A n c := by
  rcases h.2 with ⟨rfl, rfl⟩ | ⟨g, cap, cur, rfl, _⟩
  · exact ⟨none, 0, rfl⟩
  · exact ⟨_, _, rfl⟩
theorem own_le {w : World} {base e n c : Nat} {A : Option Addr} {xs : List Value} (h : w.ownsRow base e 1 (.slice A n c) n xs) : n ≤ c := by
  rcases h.2 with ⟨hv, _⟩ | ⟨g, cap, cur, hv, _, _, hle, _⟩
  · injection hv; omega
  · injection hv; omega
theorem below_drewN {B : Nat} {a w : World} (h : Below B a w) (n : Nat) : Below B a (w.drewN n) := ⟨h.os, h.tape, h.output, h.size, h.block⟩
theorem own_ne {w : World} {base e size n b : Nat} {v : Value} {xs : List Value} (h : w.ownsRow base e size v n xs) (hb : b < base) : some b ≠ v.ownBlock := fun e => by
  have := (h.lt b e.symm).1
  omega
theorem Ints.cell {w : World} {B : Nat} {k : IntKind} {b off : Nat} {zs : List Int} (h : Ints w B k (some ⟨b, off, none⟩) zs) {i : Nat} (hi : i < zs.length) : w.cell? ⟨b, off + i, none⟩ = some (.int k (zs.getD i 0)) := by
  obtain ⟨b', off', e, _, hc⟩ := h i hi
  injection e with e
  injection e with e1 e2
  subst e1 e2
  exact hc
theorem quiet_left {P : Program} {f : FuncId} {args : Array Value} {w : World} {n : Nat} {v : Value}
    (h : Calls P f args (w.drewN n) fun e w' => e = .returned v ∧ w.drewN n = w') : Calls P f args (w.drewN n) fun e w'' => e = .returned v ∧ ∃ m, w'' = w.drewN m :=
  h.mono fun _ _ ⟨he, hm⟩ => ⟨he, n, hm.symm⟩
theorem chain {a b c : World} (h1 : Below a.heap.size a b) (h2 : Below b.heap.size b c) : Below a.heap.size a c := h1.trans (h2.mono h1.size)
theorem below_drawn (w : World) (n : Nat) : Below w.heap.size w (w.drewN n) := below_drewN (Below.refl _ _) n

/-! ### append of a slice that came in, nil or not, onto a slice of the call's own -/
theorem run_append_ints {P : Program} (w : World) (base : Nat) (t ty e : TypeId) (i : TypeInfo) (z : Value) (bytes : Nat) (ht : P.underlying t = some (.slice e)) (hi : P.info? e = some i) (hz : i.zero = some z)
    (hsize : i.size = 1) (hby : i.bytes = bytes) (hzs : z.cells.size = 1) {k : IntKind} {v : Value} {xs zs : List Int} {B c : Nat} {A : Option Addr}
    (hown : w.ownsRow base e 1 v xs.length (xs.map (Value.int k))) (hr : Ints w B k A zs) (hA : A = none → c = 0) (h63 : xs.length + zs.length ≤ maxLen) (hbytes : (xs.length + zs.length) * bytes ≤ 140737488355328) (hbase : base ≤ w.heap.size) :
    ∃ v' w', (Builtin.append_ #[t, t] ty #[v, .slice A zs.length c]).run P w = .ok v' w' ∧ w'.ownsRow base e 1 v' (xs ++ zs).length ((xs ++ zs).map (Value.int k)) ∧ w.grownBy w' v.ownBlock := by
  rcases A with _ | ad
  · have h0 : zs = [] := by
      rcases Nat.eq_zero_or_pos zs.length with h | h
      · exact List.eq_nil_of_length_eq_zero h
      · obtain ⟨b, off, e', _⟩ := hr 0 h
        cases e'
    subst h0
    rw [hA rfl]
    exact ⟨v, w, run_append_owned_none w base t ty e i 1 ht hi v _ _ hown, by simpa using hown, ⟨rfl, rfl, rfl, Nat.le_refl _, fun _ _ _ => rfl⟩⟩
  · have hcells : ∀ j u, (zs.map (Value.int k))[j]? = some u → w.cell? (ad.add j) = some u := by
      intro j u hu
      have hj : j < zs.length := by
        rcases Nat.lt_or_ge j zs.length with h | h
        · exact h
        · rw [List.getElem?_eq_none (by simpa using h)] at hu; cases hu
      obtain ⟨b, off, e', _, hc⟩ := hr j hj
      injection e' with e'
      subst e'
      have hadd : (⟨b, off, none⟩ : Addr).add j = ⟨b, off + j, none⟩ := by unfold Addr.add; split <;> simp_all
      rw [hadd, hc]
      simp [hj] at hu
      rw [← hu]
      simp [List.getD, hj]
    obtain ⟨v', w', hrun, h2, h3, _⟩ := run_append_own_at (P := P) w base t ty e i z 1 bytes ht hi hz hsize hby hzs (by decide) v xs.length _ hown ad zs.length c (zs.map (Value.int k)) (by simp) hcells (ints_oneCell k zs) h63 hbytes hbase
    exact ⟨v', w', hrun, by rw [List.length_append, List.map_append]; exact h2, h3⟩

theorem wpList_append_ints {P : Program} (w : World) {ops : Array Oper} {rest : List Oper} {o : Oper} {a : Act} {Q : Exit → Act → World → Prop} (hgd : o.guard = none) (s x : Operand) (t : TypeId)
    (ho : o.op = .call { callee := .builtin .append, args := #[s, x], argTypes := #[t, t] })
    (base e : Nat) (i : TypeInfo) (z : Value) (bytes : Nat) (ht : P.underlying t = some (.slice e)) (hi : P.info? e = some i) (hz : i.zero = some z)
    (hsize : i.size = 1) (hby : i.bytes = bytes) (hzs : z.cells.size = 1) (k : IntKind) (v : Value) (xs zs : List Int) (B c n : Nat) (A : Option Addr) (hn : zs.length = n) (hs : a.eval s = v) (hx : a.eval x = .slice A n c)
    (hown : w.ownsRow base e 1 v xs.length (xs.map (Value.int k))) (hr : Ints w B k A zs) (hA : A = none → c = 0) (h63 : xs.length + zs.length ≤ maxLen) (hbytes : (xs.length + zs.length) * bytes ≤ 140737488355328) (hbase : base ≤ w.heap.size)
    (h : ∀ v' w', w'.ownsRow base e 1 v' (xs ++ zs).length ((xs ++ zs).map (Value.int k)) → w.grownBy w' v.ownBlock → wpList P ops Q rest (a.put o.dst v') w') :
    wpList P ops Q (o :: rest) a w := by
  refine wpList_plain hgd fun K hK => ?_
  subst hn
  obtain ⟨v', w', hrun, h2, h3⟩ := run_append_ints (P := P) w base t o.type e i z bytes ht hi hz hsize hby hzs hown hr hA h63 hbytes hbase
  unfold Oper.wp execOp
  simp only [ho, resolve, invoke, builtin, Sem.run_bind, Sem.run_pure, Result.andThen_ok, List.map_toArray, List.map_cons, List.map_nil, hs, hx, hrun]
  exact hK _ _ (h v' w' h2 h3)

/-- What a function leaves that hands back new bytes and an error's number: the bytes l, the number E; nothing that was there has turned. -/
def Made (w : World) (E : Int) (l : List Int) (e : Ending) (w' : World) : Prop :=
  ∃ A c, e = .returned (.tuple #[.slice A l.length c, .int .i64 E]) ∧ l.length ≤ c ∧ Ints w' w'.heap.size .u8 A l ∧ Below w.heap.size w w'

end Go.Proofs.YtanpfodmmeagaaaDoor

namespace Go.Proofs.YtanpfodmmeagaaaDoor
open Go.RowKit

def up (l : List Nat) : List Int := l.map fun n : Nat => (n : Int)
theorem up_len (l : List Nat) : (up l).length = l.length := by simp [up]
theorem up_getD (l : List Nat) (i : Nat) : (up l).getD i 0 = ((l.getD i 0 : Nat) : Int) := by
  rcases Nat.lt_or_ge i l.length with g | g
  · simp [up, List.getD_eq_getElem?_getD, g]
  · simp [up, List.getD_eq_getElem?_getD, g]
theorem up_append (a b : List Nat) : up (a ++ b) = up a ++ up b := by simp [up]
theorem up_toNat {zs : List Int} (h : ∀ z ∈ zs, 0 ≤ z ∧ z ≤ 255) : up (zs.map Int.toNat) = zs := by
  induction zs with
  | nil => rfl
  | cons z zs ih =>
    have h1 := h z (by simp)
    have h2 := ih fun x hx => h x (by simp [hx])
    simp only [up, List.map_cons, List.cons.injEq]
    exact ⟨by omega, h2⟩
/-- Bytes as an array's cells. -/
def BA (b : List Nat) : Array Value := (b.map fun z : Nat => Value.int .u8 (z : Int)).toArray
theorem BA_size (b : List Nat) : (BA b).size = b.length := by simp [BA]
theorem BA_one (b : List Nat) : (BA b).all (·.oneCell') = true := by
  rw [Array.all_eq_true_iff_forall_mem]
  intro v hv
  simp only [BA, List.mem_toArray, List.mem_map] at hv
  obtain ⟨z, _, rfl⟩ := hv
  rfl
theorem BA_at (b : List Nat) (i : Nat) (hi : i < b.length) : (BA b)[i]? = some (.int .u8 (b.getD i 0 : Nat)) := by
  simp [BA, List.getElem?_eq_getElem hi, List.getD_eq_getElem?_getD]
theorem BA_cell {w : World} {g : Nat} {t : TypeId} {b : List Nat} {fr : Nat × Nat} (h : w.heap[g]? = some (.cells (BA b) t fr)) {i : Nat} (hi : i < b.length) : w.cell? ⟨g, i, none⟩ = some (.int .u8 (b.getD i 0 : Nat)) := by
  rw [cell_of_row w g i _ t _ h, BA_at b i hi]
theorem ints_of_BA {w : World} {g B : Nat} {t : TypeId} {b : List Nat} {fr : Nat × Nat} (h : w.heap[g]? = some (.cells (BA b) t fr)) (hg : g < B) : Ints w B .u8 (some ⟨g, 0, none⟩) (up b) := fun i hi => by
  rw [up_len] at hi
  refine ⟨g, 0, rfl, hg, ?_⟩
  rw [Nat.zero_add, BA_cell h hi, up_getD]
theorem row_keep {w w' : World} {g B : Nat} {o : Obj} (h : w.heap[g]? = some o) (hb : Below B w w') (hg : g < B) : w'.heap[g]? = some o := (hb.block g hg).trans h
theorem heap_alloc_new' (w : World) (o : Obj) (g : Nat) (h : g = w.heap.size) : (w.alloc o).heap[g]? = some o := h ▸ heap_alloc_new w o

theorem run_eqBytes {P : Program} {e : TypeId} (he : P.plainKey e = true) (hu : P.underlying e = some (.int .u8)) (d : Nat) (xs ys : List Nat) (w : World) : ∀ is : List Nat, (∀ i ∈ is, i < xs.length ∧ i < ys.length) →
    (Op.eqItems (d + 1) e 1 (BA xs) (BA ys) is).run P w = .ok (is.all fun i => xs.getD i 0 == ys.getD i 0) w := by
  intro is
  induction is with
  | nil => intro _; simp [Op.eqItems]
  | cons i is ih =>
    intro h
    have hi := h i (by simp)
    have hrest := ih fun j hj => h j (by simp [hj])
    have p1 := run_part_plain (P := P) w he (off := i * 1) (by rw [Nat.mul_one]; exact BA_at xs i hi.1)
    have p2 := run_part_plain (P := P) w he (off := i * 1) (by rw [Nat.mul_one]; exact BA_at ys i hi.2)
    simp only [Op.eqItems, Sem.run_bind, p1, p2, Result.andThen_ok, run_equalIn_int w d e .u8 .u8 _ _ hu]
    have en : (((xs.getD i 0 : Nat) : Int) == ((ys.getD i 0 : Nat) : Int)) = (xs.getD i 0 == ys.getD i 0) := by
      rw [Bool.eq_iff_iff, beq_iff_eq, beq_iff_eq]; exact Int.ofNat_inj
    rw [en, List.all_cons]
    cases hq : (xs.getD i 0 == ys.getD i 0)
    · simp
    · simp [hrest]
/-- '==' of two arrays of bytes. -/
theorem run_eqArrays {P : Program} {t e : TypeId} {n : Nat} {i : TypeInfo} (he : P.plainKey e = true) (hue : P.underlying e = some (.int .u8)) (hu : P.underlying t = some (.array n e)) (hi : P.info? e = some i) (hs : i.size = 1) (xs ys : List Nat) (hx : xs.length = n) (hy : ys.length = n) (w : World) :
    (Op.equalIn 10000 t (.agg (BA xs)) (.agg (BA ys))).run P w = .ok (xs == ys) w := by
  rw [run_equalIn_array w 9999 (BA xs) (BA ys) hu hi]
  have hc : P.cellsOf e = 1 := by unfold Program.cellsOf; rw [hi]; exact hs
  rw [hc, run_eqBytes he hue 9998 xs ys w (List.range n) (fun i hi => by have := List.mem_range.1 hi; omega)]
  congr 1
  rw [Bool.eq_iff_iff, List.all_eq_true]
  constructor
  · intro h
    have : xs = ys := by
      apply List.ext_getElem (by omega)
      intro j h1 h2
      have := h j (List.mem_range.2 (by omega))
      simpa [List.getD_eq_getElem?_getD, h1, h2] using this
    simp [this]
  · intro h j _
    have : xs = ys := by simpa using h
    simp [this]

/-- A whole array is laid into a block of one's own: behind it the world goes by a letter. -/
theorem wpList_store_fresh {P : Program} {ops : Array Oper} {rest : List Oper} {o : Oper} {a : Act} {w w0 : World} {B : Nat} {Q : Exit → Act → World → Prop} (hgd : o.guard = none) (ty : TypeId) (x y : Operand) (ho : o.op = .store ty x y)
    (g : Nat) (cells : Array Value) (hx : a.eval x = .pointer (some ⟨g, 0, none⟩)) (hy : a.eval y = .agg cells)
    (t : TypeId) (old : Array Value) (hg : w.heap[g]? = some (.cells old t (0, 0))) (hi : (P.info? ty).map (·.size) = some cells.size)
    (hold : old.size = cells.size) (h1 : cells.all (·.oneCell') = true) (hb : Below B w0 w) (hB : B ≤ g)
    (h : ∀ W : World, W.heap[g]? = some (.cells cells t (0, 0)) → Below B w0 W → (∀ k, k ≠ g → W.heap[k]? = w.heap[k]?) → W.heap.size = w.heap.size → wpList P ops Q rest (a.put o.dst undef) W) : wpList P ops Q (o :: rest) a w :=
  wpList_store_row hgd ty x y ho g cells hx hy t old hg hi hold h1 (h _ (setRow_heap w g old cells t (0, 0) hg) (below_setRow hb hB cells) (fun k hk => setRow_other w g k cells hk) (by simp))

theorem own_nil {w : World} {base e n c m : Nat} {A : Option Addr} {xs : List Value} (h : w.ownsRow base e 1 (.slice A n c) m xs) (hA : A = none) : c = 0 := by
  rcases h.2 with ⟨hv, _⟩ | ⟨g, cap, cur, hv, _⟩
  · cases hv; rfl
  · subst hA; cases hv
/-- An operation that is wanted, guarded or not. -/
theorem wpList_when {P : Program} {ops : Array Oper} {rest : List Oper} {o : Oper} {a : Act} {w : World} {Q : Exit → Act → World → Prop} (hw : Region.wanted o (yielded ops a.tmps) = true)
    (h : ∀ K : Act → World → Prop, (∀ a w, wpList P ops Q rest a w → K a w) → o.wp P a w K Q) : wpList P ops Q (o :: rest) a w :=
  wpList_step fun K hK => by rw [if_pos hw]; exact h K hK
theorem run_append_at {P : Program} (w : World) (base : Nat) (t ty e : TypeId) (i : TypeInfo) (z : Value) (bytes : Nat) (ht : P.underlying t = some (.slice e)) (hi : P.info? e = some i) (hz : i.zero = some z)
    (hsize : i.size = 1) (hby : i.bytes = bytes) (hzs : z.cells.size = 1) {k : IntKind} {v : Value} {xs zs : List Int} {B c : Nat} {A : Option Addr}
    (hown : w.ownsRow base e 1 v xs.length (xs.map (Value.int k))) (hr : Ints w B k A zs) (hA : A = none → c = 0) (h63 : xs.length + zs.length ≤ maxLen) (hbytes : (xs.length + zs.length) * bytes ≤ 140737488355328) (hbase : base ≤ w.heap.size) :
    ∃ v' w', (Builtin.append_ #[t, t] ty #[v, .slice A zs.length c]).run P w = .ok v' w' ∧ w'.ownsRow base e 1 v' (xs ++ zs).length ((xs ++ zs).map (Value.int k)) ∧ w.grownBy w' v.ownBlock ∧ (v'.ownBlock = v.ownBlock ∨ v'.ownBlock = some w.heap.size) := by
  rcases A with _ | ad
  · have h0 : zs = [] := by
      rcases Nat.eq_zero_or_pos zs.length with h | h
      · exact List.eq_nil_of_length_eq_zero h
      · obtain ⟨b, off, e', _⟩ := hr 0 h
        cases e'
    subst h0
    rw [hA rfl]
    exact ⟨v, w, run_append_owned_none w base t ty e i 1 ht hi v _ _ hown, by simpa using hown, ⟨rfl, rfl, rfl, Nat.le_refl _, fun _ _ _ => rfl⟩, Or.inl rfl⟩
  · have hcells : ∀ j u, (zs.map (Value.int k))[j]? = some u → w.cell? (ad.add j) = some u := by
      intro j u hu
      have hj : j < zs.length := by
        rcases Nat.lt_or_ge j zs.length with h | h
        · exact h
        · rw [List.getElem?_eq_none (by simpa using h)] at hu; cases hu
      obtain ⟨b, off, e', _, hc⟩ := hr j hj
      injection e' with e'
      subst e'
      have hadd : (⟨b, off, none⟩ : Addr).add j = ⟨b, off + j, none⟩ := by unfold Addr.add; split <;> simp_all
      rw [hadd, hc]
      simp [hj] at hu
      rw [← hu]
      simp [List.getD, hj]
    obtain ⟨v', w', hrun, h2, h3, _, h5⟩ := run_append_own_at (P := P) w base t ty e i z 1 bytes ht hi hz hsize hby hzs (by decide) v xs.length _ hown ad zs.length c (zs.map (Value.int k)) (by simp) hcells (ints_oneCell k zs) h63 hbytes hbase
    exact ⟨v', w', hrun, by rw [List.length_append, List.map_append]; exact h2, h3, h5⟩

/-- append of bytes onto a slice of one's own, guarded or not. -/
theorem wpList_append_when {P : Program} (w : World) {ops : Array Oper} {rest : List Oper} {o : Oper} {a : Act} {Q : Exit → Act → World → Prop} (hw : Region.wanted o (yielded ops a.tmps) = true) (s x : Operand) (t : TypeId)
    (ho : o.op = .call { callee := .builtin .append, args := #[s, x], argTypes := #[t, t] })
    (base e : Nat) (i : TypeInfo) (z : Value) (bytes : Nat) (ht : P.underlying t = some (.slice e)) (hi : P.info? e = some i) (hz : i.zero = some z)
    (hsize : i.size = 1) (hby : i.bytes = bytes) (hzs : z.cells.size = 1) (k : IntKind) (v : Value) (xs zs : List Int) (B c n : Nat) (A : Option Addr) (hn : zs.length = n) (hs : a.eval s = v) (hx : a.eval x = .slice A n c)
    (hown : w.ownsRow base e 1 v xs.length (xs.map (Value.int k))) (hr : Ints w B k A zs) (hA : A = none → c = 0) (h63 : xs.length + zs.length ≤ maxLen) (hbytes : (xs.length + zs.length) * bytes ≤ 140737488355328) (hbase : base ≤ w.heap.size)
    (h : ∀ v' w', w'.ownsRow base e 1 v' (xs ++ zs).length ((xs ++ zs).map (Value.int k)) → w.grownBy w' v.ownBlock → (v'.ownBlock = v.ownBlock ∨ v'.ownBlock = some w.heap.size) → wpList P ops Q rest (a.put o.dst v') w') :
    wpList P ops Q (o :: rest) a w := by
  refine wpList_when hw fun K hK => ?_
  subst hn
  obtain ⟨v', w', hrun, h2, h3, h4⟩ := run_append_at (P := P) w base t o.type e i z bytes ht hi hz hsize hby hzs hown hr hA h63 hbytes hbase
  unfold Oper.wp execOp
  simp only [ho, resolve, invoke, builtin, Sem.run_bind, Sem.run_pure, Result.andThen_ok, List.map_toArray, List.map_cons, List.map_nil, hs, hx, hrun]
  exact hK _ _ (h v' w' h2 h3 h4)

/-- The same as one step of a region that draws. -/
theorem step_append_when {P : Program} (w : World) {ops : Array Oper} {o : Oper} {a : Act} {K : Act → World → Prop} {Q : Exit → Act → World → Prop} {E : Prop} (hw : Region.wanted o (yielded ops a.tmps) = true) (s x : Operand) (t : TypeId)
    (ho : o.op = .call { callee := .builtin .append, args := #[s, x], argTypes := #[t, t] })
    (base e : Nat) (i : TypeInfo) (z : Value) (bytes : Nat) (ht : P.underlying t = some (.slice e)) (hi : P.info? e = some i) (hz : i.zero = some z)
    (hsize : i.size = 1) (hby : i.bytes = bytes) (hzs : z.cells.size = 1) (k : IntKind) (v : Value) (xs zs : List Int) (B c n : Nat) (A : Option Addr) (hn : zs.length = n) (hs : a.eval s = v) (hx : a.eval x = .slice A n c)
    (hown : w.ownsRow base e 1 v xs.length (xs.map (Value.int k))) (hr : Ints w B k A zs) (hA : A = none → c = 0) (h63 : xs.length + zs.length ≤ maxLen) (hbytes : (xs.length + zs.length) * bytes ≤ 140737488355328) (hbase : base ≤ w.heap.size)
    (h : ∀ v' w', w'.ownsRow base e 1 v' (xs ++ zs).length ((xs ++ zs).map (Value.int k)) → w.grownBy w' v.ownBlock → (v'.ownBlock = v.ownBlock ∨ v'.ownBlock = some w.heap.size) → K (a.put o.dst v') w') :
    if Region.wanted o (yielded ops a.tmps) = true then Oper.wp P o a w K Q else E := by
  rw [if_pos hw]
  subst hn
  obtain ⟨v', w', hrun, h2, h3, h4⟩ := run_append_at (P := P) w base t o.type e i z bytes ht hi hz hsize hby hzs hown hr hA h63 hbytes hbase
  unfold Oper.wp execOp
  simp only [ho, resolve, invoke, builtin, Sem.run_bind, Sem.run_pure, Result.andThen_ok, List.map_toArray, List.map_cons, List.map_nil, hs, hx, hrun]
  exact h v' w' h2 h3 h4
/-- What one owns stays where its block does. -/
theorem own_same {w w' : World} {base e size n : Nat} {v : Value} {xs : List Value} (h : w.ownsRow base e size v n xs) (hk : ∀ g, v.ownBlock = some g → w'.heap[g]? = w.heap[g]?) : w'.ownsRow base e size v n xs := by
  refine ⟨h.1, ?_⟩
  rcases h.2 with h0 | ⟨g, cap, cur, rfl, hb, hg, h1, h2, h3, h4⟩
  · exact Or.inl h0
  · exact Or.inr ⟨g, cap, cur, rfl, hb, (hk g rfl).trans hg, h1, h2, h3, h4⟩

/-- A slice that holds something is not nil. -/
theorem nil_of_ints {w : World} {B : Nat} {k : IntKind} {A : Option Addr} {zs : List Int} {c : Nat} (h : Ints w B k A zs) (h0 : 0 < zs.length) : A = none → c = 0 := fun hA => by
  obtain ⟨b, off, e, _⟩ := h 0 h0
  rw [hA] at e
  cases e

end Go.Proofs.YtanpfodmmeagaaaDoor

namespace Go.Proofs.YtanpfodmmeagaaaDoor
open Go.RowKit

/-- The first k of the s bytes of n, the greatest first. -/
def bytesTo (n : Int) (s k : Nat) : List Int := (List.range k).map fun i => n / 256 ^ (s - 1 - i) % 256
def bytesOf (n : Int) (s : Nat) : List Int := bytesTo n s s
theorem bytesTo_len (n : Int) (s k : Nat) : (bytesTo n s k).length = k := by simp [bytesTo]
theorem bytesOf_len (n : Int) (s : Nat) : (bytesOf n s).length = s := bytesTo_len n s s
theorem bytesTo_succ (n : Int) (s k : Nat) : bytesTo n s (k + 1) = bytesTo n s k ++ [n / 256 ^ (s - 1 - k) % 256] := by
  simp [bytesTo, List.range_succ]
theorem bytesTo_zero (n : Int) (s : Nat) : bytesTo n s 0 = [] := rfl
theorem bytesTo_mem (n : Int) (s k : Nat) : ∀ z ∈ bytesTo n s k, 0 ≤ z ∧ z ≤ 255 := by
  intro z hz
  simp only [bytesTo, List.mem_map] at hz
  obtain ⟨i, _, rfl⟩ := hz
  omega
theorem bytesOf_mem (n : Int) (s : Nat) : ∀ z ∈ bytesOf n s, 0 ≤ z ∧ z ≤ 255 := bytesTo_mem n s s

/-- The number that bytes are. -/
def valOf (l : List Int) : Int := l.foldl (fun a x => a * 256 + x) 0
theorem valOf_nil : valOf [] = 0 := rfl
theorem valOf_snoc (l : List Int) (x : Int) : valOf (l ++ [x]) = valOf l * 256 + x := by simp [valOf, List.foldl_append]
theorem valOf_bd (l : List Int) (h : ∀ z ∈ l, 0 ≤ z ∧ z ≤ 255) : 0 ≤ valOf l ∧ valOf l < 256 ^ l.length := by
  suffices H : ∀ n (l : List Int), l.length = n → (∀ z ∈ l, 0 ≤ z ∧ z ≤ 255) → 0 ≤ valOf l ∧ valOf l < 256 ^ l.length from H _ l rfl h
  intro n
  induction n with
  | zero => intro l hl _; have : l = [] := List.eq_nil_of_length_eq_zero hl; subst this; simp [valOf]
  | succ n ih =>
    intro l hl hm
    have hne : l ≠ [] := by intro e; subst e; simp at hl
    obtain ⟨a, x, rfl⟩ : ∃ a x, l = a ++ [x] := ⟨l.dropLast, l.getLast hne, (List.dropLast_concat_getLast hne).symm⟩
    have hx := hm x (by simp)
    have ha := ih a (by simpa using hl) (fun z hz => hm z (by simp [hz]))
    rw [valOf_snoc, List.length_append, List.length_singleton, Int.pow_succ]
    omega
theorem pow_le8 (s : Nat) (h : s ≤ 8) : (256 : Int) ^ s ≤ 18446744073709551616 := by
  rcases Nat.lt_or_ge s 8 with h8 | h8
  · have : s = 0 ∨ s = 1 ∨ s = 2 ∨ s = 3 ∨ s = 4 ∨ s = 5 ∨ s = 6 ∨ s = 7 := by omega
    rcases this with rfl | rfl | rfl | rfl | rfl | rfl | rfl | rfl <;> decide
  · have : s = 8 := by omega
    subst this; decide
theorem pow_pos (s : Nat) : (0 : Int) < 256 ^ s := Int.pow_pos (by decide)
theorem pow_le7 (s : Nat) (h : s ≤ 7) : (256 : Int) ^ s ≤ 72057594037927936 := by
  have : s = 0 ∨ s = 1 ∨ s = 2 ∨ s = 3 ∨ s = 4 ∨ s = 5 ∨ s = 6 ∨ s = 7 := by omega
  rcases this with rfl | rfl | rfl | rfl | rfl | rfl | rfl | rfl <;> decide
theorem pow_8 (k : Nat) : (2 : Int) ^ (8 * k) = 256 ^ k := by rw [Int.pow_mul]; rfl

/-- Sizes, and whether a number fits. -/
def szOk (s : Int) : Bool := decide (1 ≤ s ∧ s ≤ 8)
def fitB (n s : Int) : Bool := decide (n < 256 ^ s.toNat)
def szs (sizes : List Int) : Bool := decide (sizes.length ≤ 4096) && sizes.all szOk
def total (sizes : List Int) : Int := sizes.foldl (fun a s => a + s) 0
theorem total_snoc (l : List Int) (x : Int) : total (l ++ [x]) = total l + x := by simp [total, List.foldl_append]
theorem total_cons (l : List Int) (x : Int) : total (x :: l) = x + total l := by
  unfold total
  have H : ∀ (l : List Int) (a : Int), l.foldl (fun a s => a + s) a = a + l.foldl (fun a s => a + s) 0 := by
    intro l
    induction l with
    | nil => intro a; simp
    | cons y ys ih => intro a; rw [List.foldl_cons, List.foldl_cons, ih (a + y), ih (0 + y)]; omega
  rw [List.foldl_cons, H]; omega
theorem total_bd (l : List Int) (h : l.all szOk = true) : (l.length : Int) ≤ total l ∧ total l ≤ 8 * l.length := by
  induction l with
  | nil => simp [total]
  | cons y ys ih =>
    simp only [List.all_cons, Bool.and_eq_true, szOk, decide_eq_true_eq] at h
    have := ih h.2
    rw [total_cons, List.length_cons]
    omega

/-- Fields: the error's number and the bytes. -/
def fieldsE (list sizes : List Int) : Int :=
  if szs sizes = true ∧ list.length = sizes.length then (if (list.zip sizes).all (fun p => fitB p.1 p.2) = true then 0 else 7) else 1
def fieldsTo (list sizes : List Int) (k : Nat) : List Int := ((list.zip sizes).take k).flatMap fun p => bytesOf p.1 p.2.toNat
def fieldsB (list sizes : List Int) : List Int := if fieldsE list sizes = 0 then (list.zip sizes).flatMap (fun p => bytesOf p.1 p.2.toNat) else []

/-- Get: the error's number and the number. -/
def getE (zs : List Int) (s : Int) : Int := if szOk s = true then (if (zs.length : Int) < s then 3 else 0) else 1
def getV (zs : List Int) (s : Int) : Int := if getE zs s = 0 then valOf (zs.take s.toNat) else 0
/-- Split: the error's number and the numbers. -/
def splitE (zs sizes : List Int) : Int := if szs sizes = true then (if (zs.length : Int) < total sizes then 3 else if total sizes < (zs.length : Int) then 2 else 0) else 1
def partsOf : List Int → List Int → List Int
  | _, [] => []
  | zs, s :: ss => valOf (zs.take s.toNat) :: partsOf (zs.drop s.toNat) ss
def splitL (zs sizes : List Int) : List Int := if splitE zs sizes = 0 then partsOf zs sizes else []
theorem szs_one (s : Int) : szs [s] = szOk s := by simp [szs]
theorem total_one (s : Int) : total [s] = s := by simp [total]
theorem partsOf_len (zs sizes : List Int) : (partsOf zs sizes).length = sizes.length := by
  induction sizes generalizing zs with
  | nil => rfl
  | cons s ss ih => simp [partsOf, ih]
theorem partsOf_append (zs a b : List Int) (h : a.all szOk = true) : partsOf zs (a ++ b) = partsOf zs a ++ partsOf (zs.drop (total a).toNat) b := by
  induction a generalizing zs with
  | nil => simp [partsOf, total]
  | cons s ss ih =>
    simp only [List.all_cons, Bool.and_eq_true] at h
    have hs : 1 ≤ s ∧ s ≤ 8 := by simpa only [szOk, decide_eq_true_eq] using h.1
    have ht := total_bd ss h.2
    rw [List.cons_append, partsOf, ih _ h.2, partsOf, List.cons_append, List.drop_drop, total_cons]
    congr 3
    congr 1
    omega
theorem zip_at (list sizes : List Int) (k : Nat) (h1 : k < list.length) (h2 : k < sizes.length) : (list.zip sizes)[k]? = some (list.getD k 0, sizes.getD k 0) := by
  rw [List.getElem?_eq_getElem (by simp; omega), List.getElem_zip]
  simp [List.getD, h1, h2]
theorem zip_take_snoc (list sizes : List Int) (k : Nat) (h1 : k < list.length) (h2 : k < sizes.length) : (list.zip sizes).take (k + 1) = (list.zip sizes).take k ++ [(list.getD k 0, sizes.getD k 0)] := by
  have hk : k < (list.zip sizes).length := by simp; omega
  have hz := zip_at list sizes k h1 h2
  rw [List.getElem?_eq_getElem hk] at hz
  rw [List.take_succ_eq_append_getElem hk]
  injection hz with hz
  rw [hz]
theorem fieldsTo_succ (list sizes : List Int) (k : Nat) (h1 : k < list.length) (h2 : k < sizes.length) :
    fieldsTo list sizes (k + 1) = fieldsTo list sizes k ++ bytesOf (list.getD k 0) (sizes.getD k 0).toNat := by
  unfold fieldsTo
  rw [zip_take_snoc list sizes k h1 h2, List.flatMap_append]
  simp
theorem fieldsTo_zero (list sizes : List Int) : fieldsTo list sizes 0 = [] := by simp [fieldsTo]
theorem fieldsTo_len (list sizes : List Int) (h : sizes.all szOk = true) : ∀ k, (fieldsTo list sizes k).length ≤ 8 * k := by
  intro k
  induction k with
  | zero => simp [fieldsTo]
  | succ k ih =>
    by_cases h1 : k < list.length ∧ k < sizes.length
    · rw [fieldsTo_succ list sizes k h1.1 h1.2, List.length_append, bytesOf_len]
      have hm : sizes.getD k 0 ∈ sizes := by simp [List.getD, h1.2]
      have := List.all_eq_true.1 h _ hm
      simp only [szOk, decide_eq_true_eq] at this
      omega
    · have hl : (list.zip sizes).length ≤ k := by simp; omega
      unfold fieldsTo at ih ⊢
      rw [List.take_of_length_le (by omega)]
      rw [List.take_of_length_le hl] at ih
      omega
theorem fieldsE_arg {list sizes : List Int} (h : szs sizes = false ∨ list.length ≠ sizes.length) : fieldsE list sizes = 1 ∧ fieldsB list sizes = [] := by
  have : fieldsE list sizes = 1 := by
    unfold fieldsE
    rw [if_neg]
    rintro ⟨a, b⟩
    rcases h with h | h
    · rw [h] at a; cases a
    · exact h b
  exact ⟨this, by unfold fieldsB; rw [this]; rfl⟩
theorem fieldsE_range {list sizes : List Int} (h : szs sizes = true) (hl : list.length = sizes.length) (k : Nat) (hk : k < list.length) (hf : fitB (list.getD k 0) (sizes.getD k 0) = false) : fieldsE list sizes = 7 ∧ fieldsB list sizes = [] := by
  have : fieldsE list sizes = 7 := by
    unfold fieldsE
    rw [if_pos ⟨h, hl⟩, if_neg]
    intro ha
    have hz := zip_at list sizes k hk (by omega)
    have := List.all_eq_true.1 ha _ (List.mem_of_getElem? hz)
    simp only [hf] at this
    cases this
  exact ⟨this, by unfold fieldsB; rw [this]; rfl⟩
theorem fieldsE_ok {list sizes : List Int} (h : szs sizes = true) (hl : list.length = sizes.length) (ha : ((list.zip sizes).take list.length).all (fun p => fitB p.1 p.2) = true) : fieldsE list sizes = 0 ∧ fieldsB list sizes = fieldsTo list sizes list.length := by
  have hz : (list.zip sizes).take list.length = list.zip sizes := List.take_of_length_le (by simp; omega)
  rw [hz] at ha
  have : fieldsE list sizes = 0 := by
    unfold fieldsE
    rw [if_pos ⟨h, hl⟩, if_pos ha]
  exact ⟨this, by unfold fieldsB fieldsTo; rw [this, hz]; rfl⟩

end Go.Proofs.YtanpfodmmeagaaaDoor

namespace Go.Proofs.YtanpfodmmeagaaaDoor
open Go.RowKit

/-- 'fits'. -/
theorem fits_any (n : Int) (s : Int) (w : World) (hn : 0 ≤ n ∧ n ≤ 18446744073709551615) (hs : 1 ≤ s ∧ s ≤ 8) :
    Calls Tryd.prog 68 #[.int .u64 n, .int .i64 s] w fun e w' => e = .returned (.bool (fitB n s)) ∧ w = w' := by
  go_enter Tryd.func68, Tryd.ntmps68
  go_wp2
  go_ret
  refine ⟨ret_bool ?_, rfl⟩
  obtain ⟨k, rfl⟩ : ∃ k : Nat, s = k := ⟨s.toNat, by omega⟩
  have e : ((8 : Int) * (k : Int)).toNat = 8 * k := by omega
  rw [e, pow_8]
  unfold fitB
  have hp := pow_pos k
  have hd : n / 256 ^ k = 0 ↔ n < 256 ^ k := by
    constructor
    · intro h
      have := Int.lt_ediv_add_one_mul_self n hp
      rw [h] at this
      omega
    · intro h; exact Int.ediv_eq_zero_of_lt hn.1 h
  rw [Int.toNat_natCast, Bool.eq_iff_iff]
  simp only [beq_iff_eq, decide_eq_true_eq]
  exact hd

/-- 'extent': all sizes are sound. -/
theorem extent_yes (A : Option Addr) (c B : Nat) (ss : List Int) (w : World) (hr : Ints w B .i64 A ss) (h : szs ss = true) :
    Calls Tryd.prog 67 #[.slice A ss.length c] w fun e w' => e = .returned (.tuple #[.int .i64 (total ss), .int .i64 0]) ∧ w = w' := by
  simp only [szs, Bool.and_eq_true, decide_eq_true_eq] at h
  obtain ⟨h1, h2⟩ := h
  have hh : ¬ (4096 < (ss.length : Int)) := by omega
  go_enter Tryd.func67, Tryd.ntmps67
  go_wp2
  go_loop [4, 12] (fun t i => ∃ k : Nat, k ≤ ss.length ∧ i = .int .i64 k ∧ t = .int .i64 (total (ss.take k))) (fun _ i => ss.length - (intOf i).toNat)
  case atStart => exact ⟨0, Nat.zero_le _, rfl, rfl⟩
  case round =>
    obtain ⟨k, hk, rfl, rfl⟩ := hrel
    by_cases hlt : k < ss.length
    · obtain ⟨b, off, rfl, _, hc⟩ := hr k hlt
      have hm : szOk (ss.getD k 0) = true := List.all_eq_true.1 h2 _ (getD_mem hlt)
      have hm2 : 1 ≤ ss.getD k 0 ∧ ss.getD k 0 ≤ 8 := by simpa only [szOk, decide_eq_true_eq] using hm
      have htk := take_snoc ss k hlt
      have htb := total_bd (ss.take k) (by rw [List.all_eq_true] at h2 ⊢; exact fun x hx => h2 x (List.mem_of_mem_take hx))
      have hln : (ss.take k).length = k := by simp; omega
      rw [hln] at htb
      have HT : Hid (total (ss.take (k + 1)) = total (ss.take k) + ss.getD k 0) := by rw [htk]; exact total_snoc _ _
      clear htk hln hm h2
      obtain ⟨x, hx⟩ : ∃ x, x = ss.getD k 0 := ⟨_, rfl⟩
      rw [← hx] at hc hm2 HT
      clear hx
      obtain ⟨hm3, hm4⟩ := hm2
      have hn1 : ¬ x < 1 := by omega
      have hn2 : ¬ 8 < x := by omega
      go_wp2
      go_round
      case rel => exact ⟨k + 1, by omega, by go_num, by rw [HT.out]⟩
      case measure => simp [intOf]; omega
    · have : k = ss.length := by omega
      subst this
      go_wp2
      go_ret2
      exact ⟨rfl, rfl⟩

/-- 'extent': too many sizes, or one that is not sound. -/
theorem extent_no (A : Option Addr) (c B : Nat) (ss : List Int) (w : World) (hr : Ints w B .i64 A ss) (h : szs ss = false) :
    Calls Tryd.prog 67 #[.slice A ss.length c] w fun e w' => e = .returned (.tuple #[.int .i64 0, .int .i64 1]) ∧ w = w' := by
  by_cases h4 : 4096 < ss.length
  · have hh : (4096 < (ss.length : Int)) := by omega
    go_enter Tryd.func67, Tryd.ntmps67
    go_wp2
    go_ret2
    exact ⟨rfl, rfl⟩
  · have hh : ¬ (4096 < (ss.length : Int)) := by omega
    have h2 : ss.all szOk = false := by
      unfold szs at h
      rw [decide_eq_true (by omega : ss.length ≤ 4096)] at h
      simpa using h
    have hb64 : ss.length ≤ 4096 := by omega
    clear h h4
    have H2 := Lib.hid h2
    clear h2
    go_enter Tryd.func67, Tryd.ntmps67
    go_wp2
    go_loop [4, 12] (fun t i => ∃ k : Nat, k ≤ ss.length ∧ i = .int .i64 k ∧ t = .int .i64 (total (ss.take k)) ∧ (ss.take k).all szOk = true) (fun _ i => ss.length - (intOf i).toNat)
    case atStart => exact ⟨0, Nat.zero_le _, rfl, rfl, rfl⟩
    case round =>
      obtain ⟨k, hk, rfl, rfl, hall⟩ := hrel
      by_cases hlt : k < ss.length
      · obtain ⟨b, off, rfl, _, hc⟩ := hr k hlt
        have htb := total_bd (ss.take k) hall
        have hln : (ss.take k).length = k := by simp; omega
        rw [hln] at htb
        have HT : Hid (total (ss.take (k + 1)) = total (ss.take k) + ss.getD k 0) := by rw [take_snoc ss k hlt]; exact total_snoc _ _
        have HA : Hid (szOk (ss.getD k 0) = true → (ss.take (k + 1)).all szOk = true) := fun hz => by
          rw [take_snoc ss k hlt, List.all_append, hall, List.all_cons, hz]; rfl
        clear hln hall
        obtain ⟨x, hx⟩ : ∃ x, x = ss.getD k 0 := ⟨_, rfl⟩
        rw [← hx] at hc HT HA
        clear hx
        by_cases ho : 1 ≤ x ∧ x ≤ 8
        · obtain ⟨hm3, hm4⟩ := ho
          have hn1 : ¬ x < 1 := by omega
          have hn2 : ¬ 8 < x := by omega
          go_wp2
          go_round
          case rel => exact ⟨k + 1, by omega, by go_num, by rw [HT.out], HA.out (by simp only [szOk, decide_eq_true_eq]; omega)⟩
          case measure => simp [intOf]; omega
        · clear HT HA htb
          by_cases hn1 : x < 1
          · go_wp2
            go_ret2
            exact ⟨rfl, rfl⟩
          · have hn2 : 8 < x := by omega
            clear ho
            go_wp2
            go_ret2
            exact ⟨rfl, rfl⟩
      · have : k = ss.length := by omega
        subst this
        rw [List.take_length] at hall
        have := H2.out
        rw [hall] at this
        cases this

theorem or_byte (v x : Int) (hv : 0 ≤ v ∧ v < 72057594037927936) (hx : 0 ≤ x ∧ x ≤ 255) : bits .or .u64 (v * 256) x = v * 256 + x := by
  rw [u64_or _ _ (by omega) (by omega) (by omega) (by omega), nat_join 8 _ _ (by omega) (by omega)]
  omega

/-- 'number'. -/
theorem number_any (A : Option Addr) (c B : Nat) (zs : List Int) (w : World) (hr : Ints w B .u8 A zs) (hz : ∀ z ∈ zs, 0 ≤ z ∧ z ≤ 255) (h8 : zs.length ≤ 8) :
    Calls Tryd.prog 74 #[.slice A zs.length c] w fun e w' => e = .returned (.int .u64 (valOf zs)) ∧ w = w' := by
  have HZ := Lib.hid hz
  clear hz
  go_enter Tryd.func74, Tryd.ntmps74
  go_wp2
  go_loop [3, 8] (fun t i => ∃ k : Nat, k ≤ zs.length ∧ i = .int .i64 k ∧ t = .int .u64 (valOf (zs.take k))) (fun _ i => zs.length - (intOf i).toNat)
  case atStart => exact ⟨0, Nat.zero_le _, rfl, rfl⟩
  case round =>
    obtain ⟨k, hk, rfl, rfl⟩ := hrel
    by_cases hlt : k < zs.length
    · obtain ⟨b, off, rfl, _, hc⟩ := hr k hlt
      have hx := HZ.out _ (getD_mem hlt)
      have hv := valOf_bd (zs.take k) fun z hz => HZ.out z (List.mem_of_mem_take hz)
      have hln : (zs.take k).length = k := by simp; omega
      rw [hln] at hv
      have hp := pow_le7 k (by omega)
      have HT : Hid (valOf (zs.take (k + 1)) = valOf (zs.take k) * 256 + zs.getD k 0) := by rw [take_snoc zs k hlt]; exact valOf_snoc _ _
      obtain ⟨x, hx'⟩ : ∃ x, x = zs.getD k 0 := ⟨_, rfl⟩
      rw [← hx'] at hc HT hx
      obtain ⟨v, hv'⟩ : ∃ v, v = valOf (zs.take k) := ⟨_, rfl⟩
      rw [← hv'] at HT hv ⊢
      have hv1 : v < 72057594037927936 := by omega
      clear hx' hv' hln hp
      obtain ⟨hv0, _⟩ := hv
      obtain ⟨hx0, hx1⟩ := hx
      go_wp2
      go_round
      case rel => exact ⟨k + 1, by omega, by go_num, by rw [HT.out, or_byte v x ⟨hv0, hv1⟩ ⟨hx0, hx1⟩]⟩
      case measure => simp [intOf]; omega
    · have : k = zs.length := by omega
      subst this
      go_wp2
      go_ret
      exact ⟨rfl, rfl⟩

theorem Tryd.infoU8 : (Tryd.prog.info? 5).map (fun i => (i.zero, i.size, i.bytes)) = some (some (.int .u8 0), 1, 1) := by kernel_rfl

set_option maxRecDepth 20000 in
/-- 'add'. -/
theorem add_any (base : Nat) (v : Value) (xs : List Int) (n : Int) (s : Nat) (w : World) (hown : w.ownsRow base 5 1 v xs.length (xs.map (Value.int .u8))) (hb : base ≤ w.heap.size)
    (hs : 1 ≤ s ∧ s ≤ 8) (hx : xs.length ≤ 1000000) :
    Calls Tryd.prog 69 #[v, .int .u64 n, .int .i64 s] w fun e w' =>
      ∃ v', e = .returned v' ∧ w'.ownsRow base 5 1 v' (xs ++ bytesOf n s).length ((xs ++ bytesOf n s).map (Value.int .u8)) ∧ Below base w w' := by
  obtain ⟨i0, hi, hz0, hz1, hz2⟩ := info_parts Tryd.infoU8
  go_enter Tryd.func69, Tryd.ntmps69
  go_wp2
  go_loopw [0, 7] (fun v i wr => ∃ k : Nat, k ≤ s ∧ i = .int .i64 (8 * ((s : Int) - 1 - k)) ∧ wr.ownsRow base 5 1 v (xs ++ bytesTo n s k).length ((xs ++ bytesTo n s k).map (Value.int .u8)) ∧ Below base w wr)
    (fun _ i _ => (intOf i + 8).toNat)
  case atStart => exact ⟨0, Nat.zero_le _, by go_num, by simpa [bytesTo_zero] using hown, Below.refl _ _⟩
  case round =>
    obtain ⟨k, hk, rfl, hownr, hbel⟩ := hrel
    by_cases hlt : k < s
    · obtain ⟨sh, hsh⟩ : ∃ sh : Int, sh = 8 * ((s : Int) - 1 - k) := ⟨_, rfl⟩
      rw [← hsh]
      have hsh0 : 0 ≤ sh := by omega
      have hsh1 : sh ≤ 56 := by omega
      have HS := Lib.hid hsh
      clear hsh
      have hln : (xs ++ bytesTo n s k).length ≤ 1000008 := by rw [List.length_append, bytesTo_len]; omega
      obtain ⟨ys, hys⟩ : ∃ ys, ys = xs ++ bytesTo n s k := ⟨_, rfl⟩
      rw [← hys] at hln hownr
      have HY := Lib.hid hys
      clear hys
      go_wp2_with (at_builtin; refine wpList_append_own_at _ rfl _ _ 24 rfl base 5 i0 (.int .u8 0) 1 1 Tryd.underlying24 hi hz0 hz1 hz2 rfl (by decide) _ _ _ rfl (hownr.alloc _) ⟨wr.heap.size, 0, none⟩ 1 1 [_] rfl rfl (cell_one_new _ _ _) ?c2 ?c3 ?c4 ?c5 ?_)
      case c2 => intro u hu; simp at hu; subst hu; rfl
      case c3 => unfold maxLen; omega
      case c4 => omega
      case c5 => have := hbel.size; simp; omega
      intro v1 w1 hown1 hgrow _ _
      have R : w1.ownsRow base 5 1 v1 (xs ++ bytesTo n s (k + 1)).length ((xs ++ bytesTo n s (k + 1)).map (Value.int .u8)) ∧ Below base w w1 := by
        have e1 : xs ++ bytesTo n s (k + 1) = ys ++ [n / 2 ^ sh.toNat % 256] := by
          rw [bytesTo_succ, HY.out, List.append_assoc, HS.out, show (8 * ((s : Int) - 1 - k)).toNat = 8 * (s - 1 - k) by omega, pow_8]
        rw [e1, List.length_append, List.map_append]
        refine ⟨hown1, (hbel.alloc (Nat.le_trans hb hbel.size) _).grown hgrow (by have := hbel.size; simp; omega) fun q hq => ?_⟩
        exact (hownr.lt q hq).1
      clear hown1 hgrow hownr hbel
      go_wp2
      go_roundw
      case rel => exact ⟨k + 1, by omega, by have := HS.out; go_num, R.1, R.2⟩
      case measure => have := HS.out; simp [intOf]; omega
    · have : k = s := by omega
      subst this
      go_wp2
      go_ret
      exact ⟨_, rfl, hownr, hbel⟩

end Go.Proofs.YtanpfodmmeagaaaDoor

namespace Go.Proofs.YtanpfodmmeagaaaDoor
open Go.RowKit

/-- 'Get'. -/
theorem get_any (A : Option Addr) (c : Nat) (zs : List Int) (s : Int) (w : World) (hr : Ints w w.heap.size .u8 A zs) (hz : ∀ z ∈ zs, 0 ≤ z ∧ z ≤ 255) (hc : zs.length ≤ c) :
    Calls Tryd.prog 86 #[.slice A zs.length c, .int .i64 s] w fun e w' => e = .returned (.tuple #[.int .u64 (getV zs s), .int .i64 (getE zs s)]) ∧ Below w.heap.size w w' := by
  have hb1 : ∀ o, Below w.heap.size w (w.alloc o) := fun o => (Below.refl _ _).alloc (Nat.le_refl _) o
  by_cases hs : szOk s = true
  · have hs2 : 1 ≤ s ∧ s ≤ 8 := by simpa only [szOk, decide_eq_true_eq] using hs
    have HE := Lib.hid (fun t : Nat => extent_yes (some ⟨w.heap.size, 0, none⟩) 1 _ [s] _ (Ints.new w t .i64 [s] #[.int .i64 s] rfl) (by rw [szs_one]; exact hs))
    rw [total_one] at HE
    by_cases hlt : (zs.length : Int) < s
    · have e1 : getE zs s = 3 := by unfold getE; rw [if_pos hs, if_pos hlt]
      have e2 : getV zs s = 0 := by unfold getV; rw [e1]; rfl
      rw [e1, e2]
      have HB := Lib.hid hb1
      clear e1 e2 hb1 hs hz
      go_enter Tryd.func86, Tryd.ntmps86
      go_wp2_with (go_at_call 67; refine Calls.mono (HE.out _) ?_; rintro e w' ⟨rfl, rfl⟩)
      go_ret2
      exact ⟨rfl, HB.out _⟩
    · have e1 : getE zs s = 0 := by unfold getE; rw [if_pos hs, if_neg hlt]
      obtain ⟨n, hn⟩ : ∃ n : Nat, (n : Int) = s := ⟨s.toNat, by omega⟩
      have e2 : getV zs s = valOf (zs.take n) := by unfold getV; rw [e1, if_pos rfl]; congr 2; omega
      rw [e1, e2]
      obtain rfl := hn
      have hnl : n ≤ zs.length := by omega
      have hnc : n ≤ c := by omega
      have HB := Lib.hid hb1
      have HN := Lib.hid (fun o : Obj => number_any A c _ (zs.take n) (w.alloc o) ((hr.alloc (Nat.le_refl _) o).take n) (fun z hz' => hz z (List.mem_of_mem_take hz')) (by rw [List.length_take]; omega))
      have hlen : (zs.take n).length = n := by rw [List.length_take]; omega
      rw [hlen] at HN
      clear e1 e2 hb1 hs hz hlen
      go_enter Tryd.func86, Tryd.ntmps86
      go_wp2_with (first
        | (go_at_call 67; refine Calls.mono (HE.out _) ?_; rintro e w' ⟨rfl, rfl⟩)
        | (go_at_call 74; refine Calls.mono (HN.out _) ?_; rintro e w' ⟨rfl, rfl⟩))
      go_ret2
      exact ⟨rfl, HB.out _⟩
  · have hs' : szOk s = false := by simpa using hs
    have e1 : getE zs s = 1 := by unfold getE; rw [if_neg hs]
    have e2 : getV zs s = 0 := by unfold getV; rw [e1]; rfl
    rw [e1, e2]
    have HE := Lib.hid (fun t : Nat => extent_no (some ⟨w.heap.size, 0, none⟩) 1 _ [s] _ (Ints.new w t .i64 [s] #[.int .i64 s] rfl) (by rw [szs_one]; exact hs'))
    have HB := Lib.hid hb1
    clear e1 e2 hb1 hs hs' hz
    go_enter Tryd.func86, Tryd.ntmps86
    go_wp2_with (go_at_call 67; refine Calls.mono (HE.out _) ?_; rintro e w' ⟨rfl, rfl⟩)
    go_ret2
    exact ⟨rfl, HB.out _⟩

end Go.Proofs.YtanpfodmmeagaaaDoor

namespace Go.Proofs.YtanpfodmmeagaaaDoor
open Go.RowKit

/-- A text that came in, as a slice. -/
structure Part where
  A : Option Addr
  c : Nat
  b : List Nat
structure Part.ok (w : World) (B : Nat) (p : Part) : Prop where
  ints : Ints w B .u8 p.A (up p.b)
  nil : p.A = none → p.c = 0
  byte : ∀ x ∈ p.b, x < 256
  le : p.b.length ≤ p.c
/-- A slice of texts. -/
def Parts (w : World) (B : Nat) (A : Option Addr) (ps : List Part) : Prop :=
  ∀ i, (h : i < ps.length) → ∃ b off, A = some ⟨b, off, none⟩ ∧ b < B ∧ w.cell? ⟨b, off + i, none⟩ = some (.slice ps[i].A ps[i].b.length ps[i].c) ∧ ps[i].ok w B
def catTo (ps : List Part) (k : Nat) : List Nat := ((ps.take k).map Part.b).flatten

theorem Part.ok.below {w w' : World} {B : Nat} {p : Part} (h : p.ok w B) (hb : Below B w w') : p.ok w' B := ⟨h.ints.below hb, h.nil, h.byte, h.le⟩
theorem catTo_next (ps : List Part) (k : Nat) (h : k < ps.length) : catTo ps (k + 1) = catTo ps k ++ ps[k].b := by
  unfold catTo
  rw [List.take_add_one, List.getElem?_eq_getElem h, List.map_append, List.flatten_append]
  simp


/-- Rows as a frame opens them: the address, the capacity, the numbers. -/
def IsRows (k : IntKind) (w : World) (A : Option Addr) (len cap : Nat) (rs : List (Option Addr × Nat × List Int)) : Prop :=
  rs.length = len ∧ len ≤ cap ∧ cap ≤ maxLen ∧ ∀ i, (h : i < rs.length) → ∃ b off, A = some ⟨b, off, none⟩ ∧ b < w.heap.size ∧ w.cell? ⟨b, off + i, none⟩ = some (.slice rs[i].1 rs[i].2.2.length rs[i].2.1) ∧
    Ints w w.heap.size k rs[i].1 rs[i].2.2 ∧ rs[i].2.2.length ≤ rs[i].2.1 ∧ (rs[i].1 = none → rs[i].2.1 = 0) ∧ ∀ n ∈ rs[i].2.2, (Lit.int k n).wf = true
theorem spot_none {w : World} {a : Addr} {v : Value} (h : w.cell? a = some v) : a.spot = none := World.cell?_spot h
theorem rows_of_open {k : IntKind} {w : World} {a : Addr} {len cap : Nat} {A : Nat → Option Addr} {L C : Nat → Nat} {Z : Nat → List Int} (hl : len ≤ cap) (hm : cap ≤ maxLen)
    (h : ∀ r, r < cap → w.cell? (a.add r) = some (.slice (A r) (L r) (C r)) ∧ L r ≤ C r ∧ C r ≤ maxLen ∧ (Z r).length = C r ∧ (∀ n ∈ Z r, (Lit.int k n).wf = true) ∧ (A r = none → C r = 0) ∧
        ∀ a', A r = some a' → ∀ c, c < C r → w.cell? (a'.add c) = some (.int k ((Z r).getD c 0))) :
    IsRows k w (some a) len cap ((List.range len).map fun r => (A r, C r, (Z r).take (L r))) := by
  refine ⟨by simp, hl, hm, fun i hi => ?_⟩
  have hi' : i < len := by simpa using hi
  obtain ⟨b, off, spot⟩ := a
  have hs := spot_none (h 0 (by omega)).1
  have hspot : spot = none := by simpa [Addr.add] using hs
  subst hspot
  obtain ⟨h1, h2, h3, h4, h5, h6, h7⟩ := h i (by omega)
  have hadd : ∀ (b off i : Nat), (⟨b, off, none⟩ : Addr).add i = ⟨b, off + i, none⟩ := fun b off i => by unfold Addr.add; split <;> simp_all
  rw [hadd] at h1
  have ht : ((Z i).take (L i)).length = L i := by rw [List.length_take]; omega
  simp only [List.getElem_map, List.getElem_range]
  refine ⟨b, off, rfl, World.block_lt_of_cell? w _ h1, by rw [ht]; exact h1, fun j hj => ?_, by rw [ht]; exact h2, h6, fun n hn => h5 n (List.mem_of_mem_take hn)⟩
  rw [ht] at hj
  rcases hA : A i with _ | a'
  · have := h6 hA; omega
  · obtain ⟨b', off', spot'⟩ := a'
    have hs' := spot_none (h7 _ hA 0 (by omega))
    have hspot' : spot' = none := by simpa [Addr.add] using hs'
    subst hspot'
    have hc := h7 _ hA j (by omega)
    rw [hadd] at hc
    refine ⟨b', off', rfl, World.block_lt_of_cell? w _ hc, ?_⟩
    rw [hc]
    simp [List.getD_eq_getElem?_getD, hj]
theorem parts_of_rows {w : World} {A : Option Addr} {len cap : Nat} {rs : List (Option Addr × Nat × List Int)} (h : IsRows .u8 w A len cap rs) :
    ∃ ps : List Part, ps.length = len ∧ ps.map (fun p => p.b.length) = rs.map (fun r => r.2.2.length) ∧ Parts w w.heap.size A ps ∧ len ≤ cap := by
  obtain ⟨h1, h2, h3, h4⟩ := h
  refine ⟨rs.map fun r => ⟨r.1, r.2.1, r.2.2.map Int.toNat⟩, by simp [h1], by simp [Function.comp_def], fun i hi => ?_, h2⟩
  have hi' : i < rs.length := by simpa using hi
  obtain ⟨b, off, rfl, hb, hc, hr, hle, hn, hw⟩ := h4 i hi'
  have hz : ∀ z ∈ rs[i].2.2, 0 ≤ z ∧ z ≤ 255 := fun z hz => bounds_u8 (hw z hz)
  simp only [List.getElem_map, List.length_map]
  have hu : up (rs[i].2.2.map Int.toNat) = rs[i].2.2 := up_toNat hz
  refine ⟨b, off, rfl, hb, hc, ⟨by simp only []; rw [hu]; exact hr, hn, fun x hx => ?_, by simpa using hle⟩⟩
  simp only [List.mem_map] at hx
  obtain ⟨z, hz1, rfl⟩ := hx
  have := hz z hz1
  omega
theorem catTo_le (ps : List Part) (k : Nat) : (catTo ps k).length ≤ (ps.map fun p => p.b.length).sum := by
  simp only [catTo, List.length_flatten, List.map_map]
  rw [← List.take_append_drop k ps, List.map_append, List.sum_append]
  simp only [List.take_append_drop]
  exact Nat.le_add_right _ _

end Go.Proofs.YtanpfodmmeagaaaDoor

namespace Go.Proofs.YtanpfodmmeagaaaDoor
open Go.RowKit

/-- A row of registers. -/
def U (zs : List Nat) : Array Value := (zs.map fun z : Nat => Value.int .u32 (z : Int)).toArray
def Row (w : World) (g : Nat) (t : TypeId) (zs : List Nat) : Prop := w.heap[g]? = some (.cells (U zs) t (0, 0))
theorem U_size (zs : List Nat) : (U zs).size = zs.length := by simp [U]
theorem U_one (zs : List Nat) : (U zs).all (·.oneCell') = true := by
  rw [Array.all_eq_true_iff_forall_mem]
  intro v hv
  simp only [U, List.mem_toArray, List.mem_map] at hv
  obtain ⟨z, _, rfl⟩ := hv
  rfl
theorem U_at (zs : List Nat) (i : Nat) (hi : i < zs.length) : (U zs)[i]? = some (.int .u32 (zs.getD i 0 : Nat)) := by
  simp [U, List.getElem?_eq_getElem hi, List.getD_eq_getElem?_getD]
theorem U_set (zs : List Nat) (i z : Nat) : (U zs).setIfInBounds i (.int .u32 (z : Int)) = U (zs.set i z) := by
  simp [U, List.map_set]
section
variable {w w' : World} {g : Nat} {t : TypeId} {zs : List Nat}
theorem Row.cell (h : Row w g t zs) {i : Nat} (hi : i < zs.length) : w.cell? ⟨g, i, none⟩ = some (.int .u32 (zs.getD i 0 : Nat)) := by
  rw [cell_of_row w g i _ t _ h, U_at zs i hi]
theorem Row.below {B : Nat} (h : Row w g t zs) (hb : Below B w w') (hg : g < B) : Row w' g t zs := (hb.block g hg).trans h
theorem Row.lt (h : Row w g t zs) : g < w.heap.size := by
  by_cases hlt : g < w.heap.size
  · exact hlt
  · have hn : w.heap[g]? = none := by simp; omega
    rw [Row, hn] at h
    cases h
theorem Row.new (w : World) (t : TypeId) (zs : List Nat) : Row (w.alloc (.cells (U zs) t)) w.heap.size t zs := heap_alloc_new _ _
theorem Row.alloc (h : Row w g t zs) (o : Obj) : Row (w.alloc o) g t zs := (Below.heap_alloc w o g h.lt).trans h
theorem Row.set (h : Row w g t zs) (i z : Nat) : Row (w.setCell ⟨g, i, none⟩ (.int .u32 (z : Int))) g t (zs.set i z) := by
  rw [Row, heap_setCell_same w g i _ t _ h, U_set]
theorem Row.other (h : Row w g t zs) (a : Addr) (v : Value) (ha : g ≠ a.block) : Row (w.setCell a v) g t zs := (heap_setCell_other w a g v ha).trans h
theorem Row.laid (h : Row w g t zs) (ys : List Nat) : Row (w.setRow g (U ys)) g t ys := setRow_heap w g _ _ t _ h
theorem Row.beside (h : Row w g t zs) (k : Nat) (cs : Array Value) (hk : g ≠ k) : Row (w.setRow k cs) g t zs := (setRow_other w k g cs hk).trans h
theorem Row.range (h : Row w g t zs) : w.rangeAt g 0 (zs.map fun z : Nat => Value.int .u32 (z : Int)) := fun j v hv => by
  rw [Nat.zero_add, cell_of_row w g j _ t _ h]
  simpa [U] using hv
theorem Row.free (h : Row w g t zs) (j : Nat) : w.frozen? ⟨g, j, none⟩ = false := frozen_of_row w g j _ t h
end

theorem Row.new' (w : World) (t : TypeId) (g : Nat) (zs : List Nat) {cs : Array Value} (hg : g = w.heap.size) (hc : cs = U zs) : Row (w.alloc (.cells cs t)) g t zs := by
  subst hg hc
  exact Row.new w t zs

end Go.Proofs.YtanpfodmmeagaaaDoor
