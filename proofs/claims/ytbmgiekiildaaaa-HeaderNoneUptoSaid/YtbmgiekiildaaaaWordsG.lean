/-
  Words for memory, for whatever slices of integers: a slice that reads as a list of integers, and what a function leaves that hands back a new slice of bytes and an error's number. Records: plainly, by value, and rows of them in memory. Plain arithmetic on lists of bytes: the bytes of a number, the number of bytes, and the answers of the layer pack as functions. No program is spoken of here. Plain arithmetic: a number's bytes are that number again; bytes are in the order of the numbers; a byte more. No program is spoken of here.
-/
import Derived.WalkKit
import Derived.Laws.BytesArg
import Derived.Deep.AppendLies
import Derived.Maps.AppendAt
import Derived.Lib.Hide
import Derived.Deep.Draws
import Derived.Deep.QuietTactic
namespace Go.Proofs.Ytbmgiekiildaaaa
open Go.RowKit

/-- The slice at address A reads as the integers zs, each in a block ahead of block B. -/
def Ints (w : World) (B : Nat) (k : IntKind) (A : Option Addr) (zs : List Int) : Prop :=
  ∀ i, i < zs.length → ∃ b off, A = some ⟨b, off, none⟩ ∧ b < B ∧ w.cell? ⟨b, off + i, none⟩ = some (.int k (zs.getD i 0))

section
variable {w w' : World} {B B' : Nat} {k : IntKind} {A : Option Addr} {zs : List Int}
theorem Ints.nil (w : World) (B : Nat) (k : IntKind) (A : Option Addr) : Ints w B k A [] := fun i h => absurd h (by simp)
theorem Ints.keep (h : Ints w B k A zs) (hk : ∀ p : Addr, p.block < B → w'.cell? p = w.cell? p) : Ints w' B k A zs := fun i hi => by
  obtain ⟨b, off, e, hb, hc⟩ := h i hi
  exact ⟨b, off, e, hb, (hk ⟨b, off + i, none⟩ hb).trans hc⟩
theorem Ints.below (h : Ints w B k A zs) (hb : Below B w w') : Ints w' B k A zs := h.keep fun _ hp => hb.cell hp
theorem Ints.more (h : Ints w B k A zs) (hB : B ≤ B') : Ints w B' k A zs := fun i hi => by
  obtain ⟨b, off, e, hb, hc⟩ := h i hi
  exact ⟨b, off, e, by omega, hc⟩
theorem Ints.drewN (h : Ints w B k A zs) (n : Nat) : Ints (w.drewN n) B k A zs := h
theorem Ints.drew (h : Ints w B k A zs) : Ints w.drew B k A zs := h
theorem Ints.alloc (h : Ints w B k A zs) (hB : B ≤ w.heap.size) (o : Obj) : Ints (w.alloc o) B k A zs := h.keep fun p hp => World.cell?_alloc_lt w o p (by omega)
/-- At least one: the address is written out, and all cells are known. -/
theorem Ints.at_ (h : Ints w B k A zs) (h0 : 0 < zs.length) : ∃ b off, A = some ⟨b, off, none⟩ ∧ b < B ∧ ∀ i, i < zs.length → w.cell? ⟨b, off + i, none⟩ = some (.int k (zs.getD i 0)) := by
  obtain ⟨b, off, rfl, hb, _⟩ := h 0 h0
  refine ⟨b, off, rfl, hb, fun i hi => ?_⟩
  obtain ⟨b', off', e, _, hc⟩ := h i hi
  injection e with e
  injection e with e1 e2
  subst e1 e2
  exact hc
/-- A new block of integers, seen from behind. -/
theorem Ints.new (w : World) (t : TypeId) (k : IntKind) (zs : List Int) (cs : Array Value) (hcs : cs.toList = zs.map (Value.int k)) : Ints (w.alloc (.cells cs t)) (w.heap.size + 1) k (some ⟨w.heap.size, 0, none⟩) zs := fun i hi => by
  refine ⟨w.heap.size, 0, rfl, by omega, ?_⟩
  rw [World.cell?_alloc_at _ _ _ _ rfl, ← Array.getElem?_toList, hcs]
  simp [List.getD, hi]
theorem Ints.newMark (w : World) (t : TypeId) (k : IntKind) (zs : List Int) (cs : Array Value) (fr : Nat × Nat) (hcs : cs.toList = zs.map (Value.int k)) : Ints (w.alloc (.cells cs t fr)) (w.heap.size + 1) k (some ⟨w.heap.size, 0, none⟩) zs := fun i hi => by
  refine ⟨w.heap.size, 0, rfl, by omega, ?_⟩
  rw [Nat.zero_add, World.cell?_alloc_mark, ← Array.getElem?_toList, hcs]
  simp [List.getD, hi]
theorem Ints.of_own {base t : Nat} {c n : Nat} (h : w.ownsRow base t 1 (.slice A n c) zs.length (zs.map (Value.int k))) : Ints w w.heap.size k A zs := fun i hi => by
  obtain ⟨g, cap, hv, _, hlt⟩ := h.form (by omega)
  injection hv with hA _ _
  subst hA
  refine ⟨g, 0, rfl, hlt, ?_⟩
  have hx := h.cells (g := g) rfl i (.int k (zs.getD i 0)) (by simp [List.getD, hi])
  have hadd : (⟨g, 0, none⟩ : Addr).add i = ⟨g, 0 + i, none⟩ := by unfold Addr.add; split <;> simp_all
  rwa [hadd] at hx
theorem Ints.take (h : Ints w B k A zs) (n : Nat) : Ints w B k A (zs.take n) := fun i hi => by
  have h1 : i < n ∧ i < zs.length := by rw [List.length_take] at hi; omega
  obtain ⟨b, off, e, hb, hc⟩ := h i h1.2
  refine ⟨b, off, e, hb, ?_⟩
  rw [hc]
  simp [List.getD, h1.1]
/-- 's[n:]'. -/
theorem Ints.cut (h : Ints w B k A zs) {n c : Nat} (hn : n ≤ zs.length) (hc : zs.length ≤ c) : Ints w B k (if c = n then A else A.map (·.add n)) (zs.drop n) := fun i hi => by
  have hi' : n + i < zs.length := by rw [List.length_drop] at hi; omega
  obtain ⟨b, off, rfl, hb, hcell⟩ := h (n + i) hi'
  rw [if_neg (by omega)]
  refine ⟨b, off + n, by unfold Addr.add; split <;> simp_all, hb, ?_⟩
  rw [Nat.add_assoc, hcell]
  simp [List.getD]
/-- 'string(b)'. -/
theorem Ints.text {P : Program} {src e dst : TypeId} (h : Ints w B .u8 A zs) (hs : P.underlying src = some (.slice e)) (he : P.underlying e = some (.int .u8)) (hd : P.underlying dst = some .string) (c : Nat) :
    (convert src dst (.slice A zs.length c)).run P w = .ok (.string (strOfNums zs)) w := by
  rcases Nat.eq_zero_or_pos zs.length with h0 | h0
  · have hz : zs = [] := List.eq_nil_of_length_eq_zero h0
    subst hz
    rw [run_convert_bytes_string w src dst e _ _ c hs he hd]
    rcases A with _ | a
    · simp [Conv.bytesToString, strOfNums, ByteArray.empty, ByteArray.emptyWithCapacity]; rfl
    · have hl : (loadCells a 0).run P w = .ok (([] : List Int).map (Value.int .u8)).toArray w := by
        simpa using run_loadCells_list (P := P) w a [] (fun j v hj => by simp at hj)
      rw [List.length_nil, run_bytesToString w a 0 c [] hl]
      rfl
  · obtain ⟨b, off, rfl, _, hc⟩ := h.at_ h0
    exact run_convert_bytes_arg w src e hs he b off zs.length c zs rfl hc dst hd
/-- 'string(b)', the length and the text spelled as wanted. -/
theorem Ints.textAs {P : Program} {src e dst : TypeId} {n : Nat} {t : ByteArray} (h : Ints w B .u8 A zs) (hs : P.underlying src = some (.slice e)) (he : P.underlying e = some (.int .u8)) (hd : P.underlying dst = some .string) (hn : zs.length = n) (ht : strOfNums zs = t) (c : Nat) :
    (convert src dst (.slice A n c)).run P w = .ok (.string t) w := by
  subst hn ht
  exact h.text hs he hd c
end

/-- A slice that came in, in the words of a row's frame, as Ints. -/
theorem ints_of_row {k : IntKind} {w : World} {a : Option Addr} {len cap : Nat} {zs : List Int}
    (h : (a = none ∧ len = 0 ∧ cap = 0 ∧ zs = []) ∨ ∃ x, a = some x ∧ len ≤ cap ∧ cap ≤ maxLen ∧ zs.length = cap ∧ (∀ i, i < zs.length → w.cell? (x.add i) = some (.int k (zs.getD i 0))) ∧ ∀ n ∈ zs, (Lit.int k n).wf = true) :
    ∃ l : List Int, l.length = len ∧ len ≤ cap ∧ cap ≤ maxLen ∧ Ints w w.heap.size k a l ∧ ∀ n ∈ l, (Lit.int k n).wf = true := by
  rcases h with ⟨rfl, rfl, rfl, rfl⟩ | ⟨x, rfl, hl, hm, hz, hc, hw⟩
  · exact ⟨[], rfl, Nat.le_refl _, Nat.zero_le _, Ints.nil _ _ _ _, by simp⟩
  · refine ⟨zs.take len, by rw [List.length_take]; omega, hl, hm, fun i hi => ?_, fun n hn => hw n (List.mem_of_mem_take hn)⟩
    have hi2 : i < len ∧ i < zs.length := by rw [List.length_take] at hi; omega
    obtain ⟨b, off, spot⟩ := x
    have hci := hc i hi2.2
    have hspot : spot = none := by simpa [Addr.add] using World.cell?_spot (hc 0 (by omega))
    subst hspot
    have hadd : (⟨b, off, none⟩ : Addr).add i = ⟨b, off + i, none⟩ := by unfold Addr.add; split <;> simp_all
    rw [hadd] at hci
    refine ⟨b, off, rfl, World.block_lt_of_cell? w _ hci, ?_⟩
    rw [hci]
    simp [List.getD, hi2.1]

theorem nil_of_row {k : IntKind} {w : World} {a : Option Addr} {len cap : Nat} {zs : List Int}
    (h : (a = none ∧ len = 0 ∧ cap = 0 ∧ zs = []) ∨ ∃ x, a = some x ∧ len ≤ cap ∧ cap ≤ maxLen ∧ zs.length = cap ∧ (∀ i, i < zs.length → w.cell? (x.add i) = some (.int k (zs.getD i 0))) ∧ ∀ n ∈ zs, (Lit.int k n).wf = true) :
    a = none → cap = 0 := by
  rcases h with ⟨_, _, h, _⟩ | ⟨x, h, _⟩
  · exact fun _ => h
  · intro e; rw [e] at h; cases h
theorem nat_u32 {n : Int} (h : (Lit.int .u32 n).wf = true) : ∃ s : Nat, n = s ∧ s < 2 ^ 32 := by
  have : 0 ≤ n ∧ n ≤ 4294967295 := by simpa [Lit.wf, IntKind.min, IntKind.max, IntKind.signed, IntKind.bits] using h
  exact ⟨n.toNat, by omega, by omega⟩
theorem nat_u16 {n : Int} (h : (Lit.int .u16 n).wf = true) : ∃ s : Nat, n = s ∧ s < 65536 := by
  have : 0 ≤ n ∧ n ≤ 65535 := by simpa [Lit.wf, IntKind.min, IntKind.max, IntKind.signed, IntKind.bits] using h
  exact ⟨n.toNat, by omega, by omega⟩
theorem int_i64 {n : Int} (h : (Lit.int .i64 n).wf = true) : -9223372036854775808 ≤ n ∧ n ≤ 9223372036854775807 := by
  simpa [Lit.wf, IntKind.min, IntKind.max, IntKind.signed, IntKind.bits] using h

/-! ### Small laws -/
theorem ret_int {k : IntKind} {a b : Int} (h : a = b) : Ending.returned (.int k a) = .returned (.int k b) := by rw [h]
theorem ret_bool {a b : Bool} (h : a = b) : Ending.returned (.bool a) = .returned (.bool b) := by rw [h]
theorem getD_mem {l : List Int} {i : Nat} (h : i < l.length) : l.getD i 0 ∈ l := by
  simp [List.getD, h]
theorem take_snoc (l : List Int) (k : Nat) (h : k < l.length) : l.take (k + 1) = l.take k ++ [l.getD k 0] := by
  rw [List.take_succ_eq_append_getElem h]; simp [List.getD, h]
theorem own_slice {w : World} {base e n : Nat} {v : Value} {xs : List Value} (h : w.ownsRow base e 1 v n xs) : ∃ A c, v = .slice A n c := by
  rcases h.2 with ⟨rfl, rfl⟩ | ⟨g, cap, cur, rfl, _⟩
  · exact ⟨none, 0, rfl⟩
  · exact ⟨_, _, rfl⟩
theorem own_le {w : World} {base e n c : Nat} {A : Option Addr} {xs : List Value} (h : w.ownsRow base e 1 (.slice A n c) n xs) : n ≤ c := by
  rcases h.2 with ⟨hv, _⟩ | ⟨g, cap, cur, hv, _, _, hle, _⟩
  · injection hv; omega
  · injection hv; omega
theorem below_drewN {B : Nat} {a w : World} (h : Below B a w) (n : Nat) : Below B a (w.drewN n) := ⟨h.os, h.tape, h.output, h.size, h.block⟩
theorem own_ne {w : World} {base e size n b : Nat} {v : Value} {xs : List Value} (h : w.ownsRow base e size v n xs) (hb : b < base) : some b ≠ v.ownBlock := fun e => by
  have := (h.lt b e.symm).1
  omega
theorem Ints.cell {w : World} {B : Nat} {k : IntKind} {b off : Nat} {zs : List Int} (h : Ints w B k (some ⟨b, off, none⟩) zs) {i : Nat} (hi : i < zs.length) : w.cell? ⟨b, off + i, none⟩ = some (.int k (zs.getD i 0)) := by
  obtain ⟨b', off', e, _, hc⟩ := h i hi
  injection e with e
  injection e with e1 e2
  subst e1 e2
  exact hc
theorem quiet_left {P : Program} {f : FuncId} {args : Array Value} {w : World} {n : Nat} {v : Value}
    (h : Calls P f args (w.drewN n) fun e w' => e = .returned v ∧ w.drewN n = w') : Calls P f args (w.drewN n) fun e w'' => e = .returned v ∧ ∃ m, w'' = w.drewN m :=
  h.mono fun _ _ ⟨he, hm⟩ => ⟨he, n, hm.symm⟩
theorem chain {a b c : World} (h1 : Below a.heap.size a b) (h2 : Below b.heap.size b c) : Below a.heap.size a c := h1.trans (h2.mono h1.size)
theorem below_drawn (w : World) (n : Nat) : Below w.heap.size w (w.drewN n) := below_drewN (Below.refl _ _) n

/-! ### append of a slice that came in, nil or not, onto a slice of the call's own -/
theorem run_append_ints {P : Program} (w : World) (base : Nat) (t ty e : TypeId) (i : TypeInfo) (z : Value) (bytes : Nat) (ht : P.underlying t = some (.slice e)) (hi : P.info? e = some i) (hz : i.zero = some z)
    (hsize : i.size = 1) (hby : i.bytes = bytes) (hzs : z.cells.size = 1) {k : IntKind} {v : Value} {xs zs : List Int} {B c : Nat} {A : Option Addr}
    (hown : w.ownsRow base e 1 v xs.length (xs.map (Value.int k))) (hr : Ints w B k A zs) (hA : A = none → c = 0) (h63 : xs.length + zs.length ≤ maxLen) (hbytes : (xs.length + zs.length) * bytes ≤ 140737488355328) (hbase : base ≤ w.heap.size) :
    ∃ v' w', (Builtin.append_ #[t, t] ty #[v, .slice A zs.length c]).run P w = .ok v' w' ∧ w'.ownsRow base e 1 v' (xs ++ zs).length ((xs ++ zs).map (Value.int k)) ∧ w.grownBy w' v.ownBlock := by
  rcases A with _ | ad
  · have h0 : zs = [] := by
      rcases Nat.eq_zero_or_pos zs.length with h | h
      · exact List.eq_nil_of_length_eq_zero h
      · obtain ⟨b, off, e', _⟩ := hr 0 h
        cases e'
    subst h0
    rw [hA rfl]
    exact ⟨v, w, run_append_owned_none w base t ty e i 1 ht hi v _ _ hown, by simpa using hown, ⟨rfl, rfl, rfl, Nat.le_refl _, fun _ _ _ => rfl⟩⟩
  · have hcells : ∀ j u, (zs.map (Value.int k))[j]? = some u → w.cell? (ad.add j) = some u := by
      intro j u hu
      have hj : j < zs.length := by
        rcases Nat.lt_or_ge j zs.length with h | h
        · exact h
        · rw [List.getElem?_eq_none (by simpa using h)] at hu; cases hu
      obtain ⟨b, off, e', _, hc⟩ := hr j hj
      injection e' with e'
      subst e'
      have hadd : (⟨b, off, none⟩ : Addr).add j = ⟨b, off + j, none⟩ := by unfold Addr.add; split <;> simp_all
      rw [hadd, hc]
      simp [hj] at hu
      rw [← hu]
      simp [List.getD, hj]
    obtain ⟨v', w', hrun, h2, h3, _⟩ := run_append_own_at (P := P) w base t ty e i z 1 bytes ht hi hz hsize hby hzs (by decide) v xs.length _ hown ad zs.length c (zs.map (Value.int k)) (by simp) hcells (ints_oneCell k zs) h63 hbytes hbase
    exact ⟨v', w', hrun, by rw [List.length_append, List.map_append]; exact h2, h3⟩

theorem wpList_append_ints {P : Program} (w : World) {ops : Array Oper} {rest : List Oper} {o : Oper} {a : Act} {Q : Exit → Act → World → Prop} (hgd : o.guard = none) (s x : Operand) (t : TypeId)
    (ho : o.op = .call { callee := .builtin .append, args := #[s, x], argTypes := #[t, t] })
    (base e : Nat) (i : TypeInfo) (z : Value) (bytes : Nat) (ht : P.underlying t = some (.slice e)) (hi : P.info? e = some i) (hz : i.zero = some z)
    (hsize : i.size = 1) (hby : i.bytes = bytes) (hzs : z.cells.size = 1) (k : IntKind) (v : Value) (xs zs : List Int) (B c n : Nat) (A : Option Addr) (hn : zs.length = n) (hs : a.eval s = v) (hx : a.eval x = .slice A n c)
    (hown : w.ownsRow base e 1 v xs.length (xs.map (Value.int k))) (hr : Ints w B k A zs) (hA : A = none → c = 0) (h63 : xs.length + zs.length ≤ maxLen) (hbytes : (xs.length + zs.length) * bytes ≤ 140737488355328) (hbase : base ≤ w.heap.size)
    (h : ∀ v' w', w'.ownsRow base e 1 v' (xs ++ zs).length ((xs ++ zs).map (Value.int k)) → w.grownBy w' v.ownBlock → wpList P ops Q rest (a.put o.dst v') w') :
    wpList P ops Q (o :: rest) a w := by
  refine wpList_plain hgd fun K hK => ?_
  subst hn
  obtain ⟨v', w', hrun, h2, h3⟩ := run_append_ints (P := P) w base t o.type e i z bytes ht hi hz hsize hby hzs hown hr hA h63 hbytes hbase
  unfold Oper.wp execOp
  simp only [ho, resolve, invoke, builtin, Sem.run_bind, Sem.run_pure, Result.andThen_ok, List.map_toArray, List.map_cons, List.map_nil, hs, hx, hrun]
  exact hK _ _ (h v' w' h2 h3)

/-- What a function leaves that hands back new bytes and an error's number: the bytes l, the number E; nothing that was there has turned. -/
def Made (w : World) (E : Int) (l : List Int) (e : Ending) (w' : World) : Prop :=
  ∃ A c, e = .returned (.tuple #[.slice A l.length c, .int .i64 E]) ∧ l.length ≤ c ∧ Ints w' w'.heap.size .u8 A l ∧ Below w.heap.size w w'

end Go.Proofs.Ytbmgiekiildaaaa

namespace Go.Proofs.Ytbmgiekiildaaaa
open Go.RowKit

structure Rc where
  k : Int
  a : Int
  b : Int
  c : Int
  d : Int
  key : ByteArray
theorem rc_ext (x y : Rc) : (x.k = y.k ∧ x.a = y.a ∧ x.b = y.b ∧ x.c = y.c ∧ x.d = y.d ∧ x.key = y.key) ↔ x = y := by
  constructor
  · obtain ⟨_, _, _, _, _, _⟩ := x
    obtain ⟨_, _, _, _, _, _⟩ := y
    rintro ⟨h1, h2, h3, h4, h5, h6⟩
    simp only at h1 h2 h3 h4 h5 h6
    subst h1 h2 h3 h4 h5 h6; rfl
  · rintro rfl; exact ⟨rfl, rfl, rfl, rfl, rfl, rfl⟩
instance : DecidableEq Rc := fun x y => decidable_of_iff _ (rc_ext x y)
def rcV (r : Rc) : Array Value := #[.int .i64 r.k, .int .i64 r.a, .int .i64 r.b, .int .i64 r.c, .int .i64 r.d, .string r.key]
def I64n (n : Int) : Prop := -9223372036854775808 ≤ n ∧ n ≤ 9223372036854775807
structure Rc.ok (r : Rc) : Prop where
  k : I64n r.k
  a : I64n r.a
  b : I64n r.b
  c : I64n r.c
  d : I64n r.d
  key : r.key.size ≤ 9223372036854775807
/-- A slice of records. -/
def RecsAt (w : World) (B : Nat) (A : Option Addr) (rs : List Rc) : Prop :=
  ∀ k, (h : k < rs.length) → ∃ b off, A = some ⟨b, off, none⟩ ∧ b < B ∧ w.cell? ⟨b, off + 6 * k, none⟩ = some (.int .i64 rs[k].k) ∧ w.cell? ⟨b, off + 6 * k + 1, none⟩ = some (.int .i64 rs[k].a) ∧ w.cell? ⟨b, off + 6 * k + 2, none⟩ = some (.int .i64 rs[k].b) ∧
    w.cell? ⟨b, off + 6 * k + 3, none⟩ = some (.int .i64 rs[k].c) ∧ w.cell? ⟨b, off + 6 * k + 4, none⟩ = some (.int .i64 rs[k].d) ∧ w.cell? ⟨b, off + 6 * k + 5, none⟩ = some (.string rs[k].key)
theorem RecsAt.below {w w' : World} {B : Nat} {A : Option Addr} {rs : List Rc} (h : RecsAt w B A rs) (hb : Below B w w') : RecsAt w' B A rs := fun k hk => by
  obtain ⟨b, off, e, hl, c0, c1, c2, c3, c4, c5⟩ := h k hk
  exact ⟨b, off, e, hl, (hb.cell (p := ⟨b, _, none⟩) hl).trans c0, (hb.cell (p := ⟨b, _, none⟩) hl).trans c1, (hb.cell (p := ⟨b, _, none⟩) hl).trans c2, (hb.cell (p := ⟨b, _, none⟩) hl).trans c3, (hb.cell (p := ⟨b, _, none⟩) hl).trans c4, (hb.cell (p := ⟨b, _, none⟩) hl).trans c5⟩
theorem RecsAt.more {w : World} {B B' : Nat} {A : Option Addr} {rs : List Rc} (h : RecsAt w B A rs) (hB : B ≤ B') : RecsAt w B' A rs := fun k hk => by
  obtain ⟨b, off, e, hl, h'⟩ := h k hk
  exact ⟨b, off, e, by omega, h'⟩
theorem RecsAt.nil (w : World) (B : Nat) (A : Option Addr) : RecsAt w B A [] := fun _ h => absurd h (Nat.not_lt_zero _)

end Go.Proofs.Ytbmgiekiildaaaa

namespace Go.Proofs.Ytbmgiekiildaaaa
open Go.RowKit

/-- The first k of the s bytes of n, the greatest first. -/
def bytesTo (n : Int) (s k : Nat) : List Int := (List.range k).map fun i => n / 256 ^ (s - 1 - i) % 256
def bytesOf (n : Int) (s : Nat) : List Int := bytesTo n s s
theorem bytesTo_len (n : Int) (s k : Nat) : (bytesTo n s k).length = k := by simp [bytesTo]
theorem bytesOf_len (n : Int) (s : Nat) : (bytesOf n s).length = s := bytesTo_len n s s
theorem bytesTo_succ (n : Int) (s k : Nat) : bytesTo n s (k + 1) = bytesTo n s k ++ [n / 256 ^ (s - 1 - k) % 256] := by
  simp [bytesTo, List.range_succ]
theorem bytesTo_zero (n : Int) (s : Nat) : bytesTo n s 0 = [] := rfl
theorem bytesTo_mem (n : Int) (s k : Nat) : ∀ z ∈ bytesTo n s k, 0 ≤ z ∧ z ≤ 255 := by
  intro z hz
  simp only [bytesTo, List.mem_map] at hz
  obtain ⟨i, _, rfl⟩ := hz
  omega
theorem bytesOf_mem (n : Int) (s : Nat) : ∀ z ∈ bytesOf n s, 0 ≤ z ∧ z ≤ 255 := bytesTo_mem n s s

/-- The number that bytes are. -/
def valOf (l : List Int) : Int := l.foldl (fun a x => a * 256 + x) 0
theorem valOf_nil : valOf [] = 0 := rfl
theorem valOf_snoc (l : List Int) (x : Int) : valOf (l ++ [x]) = valOf l * 256 + x := by simp [valOf, List.foldl_append]
theorem valOf_bd (l : List Int) (h : ∀ z ∈ l, 0 ≤ z ∧ z ≤ 255) : 0 ≤ valOf l ∧ valOf l < 256 ^ l.length := by
  suffices H : ∀ n (l : List Int), l.length = n → (∀ z ∈ l, 0 ≤ z ∧ z ≤ 255) → 0 ≤ valOf l ∧ valOf l < 256 ^ l.length from H _ l rfl h
  intro n
  induction n with
  | zero => intro l hl _; have : l = [] := List.eq_nil_of_length_eq_zero hl; subst this; simp [valOf]
  | succ n ih =>
    intro l hl hm
    have hne : l ≠ [] := by intro e; subst e; simp at hl
    obtain ⟨a, x, rfl⟩ : ∃ a x, l = a ++ [x] := ⟨l.dropLast, l.getLast hne, (List.dropLast_concat_getLast hne).symm⟩
    have hx := hm x (by simp)
    have ha := ih a (by simpa using hl) (fun z hz => hm z (by simp [hz]))
    rw [valOf_snoc, List.length_append, List.length_singleton, Int.pow_succ]
    omega
theorem pow_le8 (s : Nat) (h : s ≤ 8) : (256 : Int) ^ s ≤ 18446744073709551616 := by
  rcases Nat.lt_or_ge s 8 with h8 | h8
  · have : s = 0 ∨ s = 1 ∨ s = 2 ∨ s = 3 ∨ s = 4 ∨ s = 5 ∨ s = 6 ∨ s = 7 := by omega
    rcases this with rfl | rfl | rfl | rfl | rfl | rfl | rfl | rfl <;> decide
  · have : s = 8 := by omega
    subst this; decide
theorem pow_pos (s : Nat) : (0 : Int) < 256 ^ s := Int.pow_pos (by decide)
theorem pow_le7 (s : Nat) (h : s ≤ 7) : (256 : Int) ^ s ≤ 72057594037927936 := by
  have : s = 0 ∨ s = 1 ∨ s = 2 ∨ s = 3 ∨ s = 4 ∨ s = 5 ∨ s = 6 ∨ s = 7 := by omega
  rcases this with rfl | rfl | rfl | rfl | rfl | rfl | rfl | rfl <;> decide
theorem pow_8 (k : Nat) : (2 : Int) ^ (8 * k) = 256 ^ k := by rw [Int.pow_mul]; rfl

/-- Sizes, and whether a number fits. -/
def szOk (s : Int) : Bool := decide (1 ≤ s ∧ s ≤ 8)
def fitB (n s : Int) : Bool := decide (n < 256 ^ s.toNat)
def szs (sizes : List Int) : Bool := decide (sizes.length ≤ 4096) && sizes.all szOk
def total (sizes : List Int) : Int := sizes.foldl (fun a s => a + s) 0
theorem total_snoc (l : List Int) (x : Int) : total (l ++ [x]) = total l + x := by simp [total, List.foldl_append]
theorem total_cons (l : List Int) (x : Int) : total (x :: l) = x + total l := by
  unfold total
  have H : ∀ (l : List Int) (a : Int), l.foldl (fun a s => a + s) a = a + l.foldl (fun a s => a + s) 0 := by
    intro l
    induction l with
    | nil => intro a; simp
    | cons y ys ih => intro a; rw [List.foldl_cons, List.foldl_cons, ih (a + y), ih (0 + y)]; omega
  rw [List.foldl_cons, H]; omega
theorem total_bd (l : List Int) (h : l.all szOk = true) : (l.length : Int) ≤ total l ∧ total l ≤ 8 * l.length := by
  induction l with
  | nil => simp [total]
  | cons y ys ih =>
    simp only [List.all_cons, Bool.and_eq_true, szOk, decide_eq_true_eq] at h
    have := ih h.2
    rw [total_cons, List.length_cons]
    omega

/-- Fields: the error's number and the bytes. -/
def fieldsE (list sizes : List Int) : Int :=
  if szs sizes = true ∧ list.length = sizes.length then (if (list.zip sizes).all (fun p => fitB p.1 p.2) = true then 0 else 7) else 1
def fieldsTo (list sizes : List Int) (k : Nat) : List Int := ((list.zip sizes).take k).flatMap fun p => bytesOf p.1 p.2.toNat
def fieldsB (list sizes : List Int) : List Int := if fieldsE list sizes = 0 then (list.zip sizes).flatMap (fun p => bytesOf p.1 p.2.toNat) else []

/-- Get: the error's number and the number. -/
def getE (zs : List Int) (s : Int) : Int := if szOk s = true then (if (zs.length : Int) < s then 3 else 0) else 1
def getV (zs : List Int) (s : Int) : Int := if getE zs s = 0 then valOf (zs.take s.toNat) else 0
/-- Split: the error's number and the numbers. -/
def splitE (zs sizes : List Int) : Int := if szs sizes = true then (if (zs.length : Int) < total sizes then 3 else if total sizes < (zs.length : Int) then 2 else 0) else 1
def partsOf : List Int → List Int → List Int
  | _, [] => []
  | zs, s :: ss => valOf (zs.take s.toNat) :: partsOf (zs.drop s.toNat) ss
def splitL (zs sizes : List Int) : List Int := if splitE zs sizes = 0 then partsOf zs sizes else []
theorem szs_one (s : Int) : szs [s] = szOk s := by simp [szs]
theorem total_one (s : Int) : total [s] = s := by simp [total]
theorem partsOf_len (zs sizes : List Int) : (partsOf zs sizes).length = sizes.length := by
  induction sizes generalizing zs with
  | nil => rfl
  | cons s ss ih => simp [partsOf, ih]
theorem partsOf_append (zs a b : List Int) (h : a.all szOk = true) : partsOf zs (a ++ b) = partsOf zs a ++ partsOf (zs.drop (total a).toNat) b := by
  induction a generalizing zs with
  | nil => simp [partsOf, total]
  | cons s ss ih =>
    simp only [List.all_cons, Bool.and_eq_true] at h
    have hs : 1 ≤ s ∧ s ≤ 8 := by simpa only [szOk, decide_eq_true_eq] using h.1
    have ht := total_bd ss h.2
    rw [List.cons_append, partsOf, ih _ h.2, partsOf, List.cons_append, List.drop_drop, total_cons]
    congr 3
    congr 1
    omega
theorem zip_at (list sizes : List Int) (k : Nat) (h1 : k < list.length) (h2 : k < sizes.length) : (list.zip sizes)[k]? = some (list.getD k 0, sizes.getD k 0) := by
  rw [List.getElem?_eq_getElem (by simp; omega), List.getElem_zip]
  simp [List.getD, h1, h2]
theorem zip_take_snoc (list sizes : List Int) (k : Nat) (h1 : k < list.length) (h2 : k < sizes.length) : (list.zip sizes).take (k + 1) = (list.zip sizes).take k ++ [(list.getD k 0, sizes.getD k 0)] := by
  have hk : k < (list.zip sizes).length := by simp; omega
  have hz := zip_at list sizes k h1 h2
  rw [List.getElem?_eq_getElem hk] at hz
  rw [List.take_succ_eq_append_getElem hk]
  injection hz with hz
  rw [hz]
theorem fieldsTo_succ (list sizes : List Int) (k : Nat) (h1 : k < list.length) (h2 : k < sizes.length) :
    fieldsTo list sizes (k + 1) = fieldsTo list sizes k ++ bytesOf (list.getD k 0) (sizes.getD k 0).toNat := by
  unfold fieldsTo
  rw [zip_take_snoc list sizes k h1 h2, List.flatMap_append]
  simp
theorem fieldsTo_zero (list sizes : List Int) : fieldsTo list sizes 0 = [] := by simp [fieldsTo]
theorem fieldsTo_len (list sizes : List Int) (h : sizes.all szOk = true) : ∀ k, (fieldsTo list sizes k).length ≤ 8 * k := by
  intro k
  induction k with
  | zero => simp [fieldsTo]
  | succ k ih =>
    by_cases h1 : k < list.length ∧ k < sizes.length
    · rw [fieldsTo_succ list sizes k h1.1 h1.2, List.length_append, bytesOf_len]
      have hm : sizes.getD k 0 ∈ sizes := by simp [List.getD, h1.2]
      have := List.all_eq_true.1 h _ hm
      simp only [szOk, decide_eq_true_eq] at this
      omega
    · have hl : (list.zip sizes).length ≤ k := by simp; omega
      unfold fieldsTo at ih ⊢
      rw [List.take_of_length_le (by omega)]
      rw [List.take_of_length_le hl] at ih
      omega
theorem fieldsE_arg {list sizes : List Int} (h : szs sizes = false ∨ list.length ≠ sizes.length) : fieldsE list sizes = 1 ∧ fieldsB list sizes = [] := by
  have : fieldsE list sizes = 1 := by
    unfold fieldsE
    rw [if_neg]
    rintro ⟨a, b⟩
    rcases h with h | h
    · rw [h] at a; cases a
    · exact h b
  exact ⟨this, by unfold fieldsB; rw [this]; rfl⟩
theorem fieldsE_range {list sizes : List Int} (h : szs sizes = true) (hl : list.length = sizes.length) (k : Nat) (hk : k < list.length) (hf : fitB (list.getD k 0) (sizes.getD k 0) = false) : fieldsE list sizes = 7 ∧ fieldsB list sizes = [] := by
  have : fieldsE list sizes = 7 := by
    unfold fieldsE
    rw [if_pos ⟨h, hl⟩, if_neg]
    intro ha
    have hz := zip_at list sizes k hk (by omega)
    have := List.all_eq_true.1 ha _ (List.mem_of_getElem? hz)
    simp only [hf] at this
    cases this
  exact ⟨this, by unfold fieldsB; rw [this]; rfl⟩
theorem fieldsE_ok {list sizes : List Int} (h : szs sizes = true) (hl : list.length = sizes.length) (ha : ((list.zip sizes).take list.length).all (fun p => fitB p.1 p.2) = true) : fieldsE list sizes = 0 ∧ fieldsB list sizes = fieldsTo list sizes list.length := by
  have hz : (list.zip sizes).take list.length = list.zip sizes := List.take_of_length_le (by simp; omega)
  rw [hz] at ha
  have : fieldsE list sizes = 0 := by
    unfold fieldsE
    rw [if_pos ⟨h, hl⟩, if_pos ha]
  exact ⟨this, by unfold fieldsB fieldsTo; rw [this, hz]; rfl⟩

end Go.Proofs.Ytbmgiekiildaaaa

namespace Go.Proofs.Ytbmgiekiildaaaa
open Go.RowKit

theorem foldl_val (l : List Int) : ∀ a : Int, l.foldl (fun a x => a * 256 + x) a = a * 256 ^ l.length + valOf l := by
  induction l with
  | nil => intro a; simp [valOf]
  | cons x l ih =>
    intro a
    unfold valOf
    rw [List.foldl_cons, List.foldl_cons, ih, ih (0 * 256 + x), List.length_cons, Int.pow_succ]
    have e1 : (a * 256 + x) * 256 ^ l.length = a * 256 * 256 ^ l.length + x * 256 ^ l.length := by rw [Int.add_mul]
    have e2 : a * (256 ^ l.length * 256) = a * 256 * 256 ^ l.length := by rw [Int.mul_comm (256 ^ l.length) 256, Int.mul_assoc]
    rw [e1, e2, Int.zero_mul, Int.zero_add]
    omega
theorem valOf_cons (x : Int) (l : List Int) : valOf (x :: l) = x * 256 ^ l.length + valOf l := by
  show (x :: l).foldl (fun a x => a * 256 + x) 0 = _
  rw [List.foldl_cons, foldl_val, Int.zero_mul, Int.zero_add]
theorem valOf_bytesTo (n : Int) (s : Nat) (h0 : 0 ≤ n) (h : n < 256 ^ s) : ∀ k, k ≤ s → valOf (bytesTo n s k) = n / 256 ^ (s - k) := by
  intro k
  induction k with
  | zero => intro _; rw [bytesTo_zero, valOf_nil, Nat.sub_zero, Int.ediv_eq_zero_of_lt h0 h]
  | succ k ih =>
    intro hk
    rw [bytesTo_succ, valOf_snoc, ih (by omega)]
    have e : s - k = (s - 1 - k) + 1 := by omega
    have e2 : s - (k + 1) = s - 1 - k := by omega
    rw [e2, e, Int.pow_succ, ← Int.ediv_ediv_of_nonneg (Int.le_of_lt (pow_pos _))]
    omega
theorem valOf_bytesOf (n : Int) (s : Nat) (h0 : 0 ≤ n) (h : n < 256 ^ s) : valOf (bytesOf n s) = n := by
  have := valOf_bytesTo n s h0 h s (Nat.le_refl _)
  rw [Nat.sub_self, Int.pow_zero, Int.ediv_one] at this
  exact this
theorem val_step {x y v u p : Int} (hv : 0 ≤ v ∧ v < p) (hu : 0 ≤ u ∧ u < p) (h : x < y) : x * p + v < y * p + u := by
  have h1 : (x + 1) * p ≤ y * p := Int.mul_le_mul_of_nonneg_right (by omega) (by omega)
  rw [Int.add_mul, Int.one_mul] at h1
  omega
theorem byte_lt {a b : Int} (ha : 0 ≤ a ∧ a ≤ 255) (hb : 0 ≤ b ∧ b ≤ 255) : (UInt8.ofNat a.toNat < UInt8.ofNat b.toNat) ↔ a < b := by
  rw [UInt8.lt_iff_toNat_lt, UInt8.toNat_ofNat', UInt8.toNat_ofNat']
  omega
theorem byte_eq {a b : Int} (ha : 0 ≤ a ∧ a ≤ 255) (hb : 0 ≤ b ∧ b ≤ 255) : (UInt8.ofNat a.toNat = UInt8.ofNat b.toNat) ↔ a = b := by
  rw [← UInt8.toNat_inj, UInt8.toNat_ofNat', UInt8.toNat_ofNat']
  omega
theorem less_val : ∀ (a b : List Int), a.length = b.length → (∀ z ∈ a, 0 ≤ z ∧ z ≤ 255) → (∀ z ∈ b, 0 ≤ z ∧ z ≤ 255) →
    Op.bytesLess (a.map fun n => UInt8.ofNat n.toNat) (b.map fun n => UInt8.ofNat n.toNat) = decide (valOf a < valOf b) := by
  intro a
  induction a with
  | nil =>
    intro b hl _ _
    have : b = [] := List.eq_nil_of_length_eq_zero (by simpa using hl.symm)
    subst this
    rfl
  | cons x a ih =>
    intro b hl ha hb
    cases b with
    | nil => simp at hl
    | cons y b =>
      have hl' : a.length = b.length := by simpa using hl
      have hx := ha x (by simp)
      have hy := hb y (by simp)
      have ha' := fun z hz => ha z (List.mem_cons_of_mem _ hz)
      have hb' := fun z hz => hb z (List.mem_cons_of_mem _ hz)
      have va := valOf_bd a ha'
      have vb := valOf_bd b hb'
      rw [List.map_cons, List.map_cons, Op.bytesLess, ih b hl' ha' hb', valOf_cons, valOf_cons, hl']
      rw [hl'] at va
      rw [Bool.eq_iff_iff]
      simp only [Bool.or_eq_true, Bool.and_eq_true, decide_eq_true_eq, beq_iff_eq, byte_lt hx hy, byte_eq hx hy]
      constructor
      · rintro (h | ⟨rfl, h⟩)
        · exact val_step va vb h
        · omega
      · intro h
        rcases Int.lt_trichotomy x y with h1 | h1 | h1
        · exact .inl h1
        · subst h1; exact .inr ⟨rfl, by omega⟩
        · have := val_step vb va h1
          omega
theorem val_inj : ∀ (a b : List Int), a.length = b.length → (∀ z ∈ a, 0 ≤ z ∧ z ≤ 255) → (∀ z ∈ b, 0 ≤ z ∧ z ≤ 255) → valOf a = valOf b → a = b := by
  intro a
  induction a with
  | nil =>
    intro b hl _ _ _
    exact (List.eq_nil_of_length_eq_zero (by simpa using hl.symm)).symm
  | cons x a ih =>
    intro b hl ha hb h
    cases b with
    | nil => simp at hl
    | cons y b =>
      have hl' : a.length = b.length := by simpa using hl
      have ha' := fun z hz => ha z (List.mem_cons_of_mem _ hz)
      have hb' := fun z hz => hb z (List.mem_cons_of_mem _ hz)
      have va := valOf_bd a ha'
      have vb := valOf_bd b hb'
      rw [valOf_cons, valOf_cons, hl'] at h
      rw [hl'] at va
      have hxy : x = y := by
        rcases Int.lt_trichotomy x y with h1 | h1 | h1
        · have := val_step va vb h1; omega
        · exact h1
        · have := val_step vb va h1; omega
      subst hxy
      rw [ih b hl' ha' hb' (by omega)]
theorem bytesOf_valOf (l : List Int) (h : ∀ z ∈ l, 0 ≤ z ∧ z ≤ 255) : bytesOf (valOf l) l.length = l :=
  val_inj _ _ (bytesOf_len _ _) (bytesOf_mem _ _) h (valOf_bytesOf _ _ (valOf_bd l h).1 (valOf_bd l h).2)
/-- A byte more: a byte 0 ahead. -/
theorem bytesOf_more (n : Int) (s : Nat) (h0 : 0 ≤ n) (h : n < 256 ^ s) : bytesOf n (s + 1) = 0 :: bytesOf n s := by
  have hp := pow_pos s
  have h2 : n < 256 ^ (s + 1) := by rw [Int.pow_succ]; omega
  refine val_inj _ _ ?_ (bytesOf_mem _ _) ?_ ?_
  · rw [List.length_cons, bytesOf_len, bytesOf_len]
  · intro z hz
    rcases List.mem_cons.1 hz with rfl | hz
    · omega
    · exact bytesOf_mem _ _ z hz
  · rw [valOf_bytesOf n (s + 1) h0 h2, valOf_cons, Int.zero_mul, Int.zero_add, valOf_bytesOf n s h0 h]

theorem strList (l : List Int) : (strOfNums l).toList = l.map fun n => UInt8.ofNat n.toNat := ByteArray.toList_mk _
theorem strCat (a b : List Int) : strOfNums a ++ strOfNums b = strOfNums (a ++ b) := by
  apply ByteArray.ext
  rw [ByteArray.data_append]
  simp [strOfNums]
theorem strZero (l : List Int) : (⟨#[0]⟩ : ByteArray) ++ strOfNums l = strOfNums (0 :: l) := strCat [0] l

end Go.Proofs.Ytbmgiekiildaaaa
