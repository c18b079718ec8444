/-
  Words for memory, for whatever slices of integers: a slice that reads as a list of integers, and what a function leaves that hands back a new slice of bytes and an error's number.
-/
import Derived.WalkKit
import Derived.Laws.BytesArg
import Derived.Deep.AppendLies
import Derived.Maps.AppendAt
import Derived.Lib.Hide
import Derived.Deep.Draws
import Derived.Deep.QuietTactic
namespace Go.Proofs.Ytbmgiekiildaaaa
open Go.RowKit

/-- The slice at address A reads as the integers zs, each in a block ahead of block B. -/
def Ints (w : World) (B : Nat) (k : IntKind) (A : Option Addr) (zs : List Int) : Prop :=
  ∀ i, i < zs.length → ∃ b off, A = some ⟨b, off, none⟩ ∧ b < B ∧ w.cell? ⟨b, off + i, none⟩ = some (.int k (zs.getD i 0))

section
variable {w w' : World} {B B' : Nat} {k : IntKind} {A : Option Addr} {zs : List Int}
theorem Ints.nil (w : World) (B : Nat) (k : IntKind) (A : Option Addr) : Ints w B k A [] := fun i h => absurd h (by simp)
theorem Ints.keep (h : Ints w B k A zs) (hk : ∀ p : Addr, p.block < B → w'.cell? p = w.cell? p) : Ints w' B k A zs := fun i hi => by
  obtain ⟨b, off, e, hb, hc⟩ := h i hi
  exact ⟨b, off, e, hb, (hk ⟨b, off + i, none⟩ hb).trans hc⟩
theorem Ints.below (h : Ints w B k A zs) (hb : Below B w w') : Ints w' B k A zs := h.keep fun _ hp => hb.cell hp
theorem Ints.more (h : Ints w B k A zs) (hB : B ≤ B') : Ints w B' k A zs := fun i hi => by
  obtain ⟨b, off, e, hb, hc⟩ := h i hi
  exact ⟨b, off, e, by omega, hc⟩
theorem Ints.drewN (h : Ints w B k A zs) (n : Nat) : Ints (w.drewN n) B k A zs := h
theorem Ints.drew (h : Ints w B k A zs) : Ints w.drew B k A zs := h
theorem Ints.alloc (h : Ints w B k A zs) (hB : B ≤ w.heap.size) (o : Obj) : Ints (w.alloc o) B k A zs := h.keep fun p hp => World.cell?_alloc_lt w o p (by omega)
/-- At least one: the address is written out, and all cells are known. -/
theorem Ints.at_ (h : Ints w B k A zs) (h0 : 0 < zs.length) : ∃ b off, A = some ⟨b, off, none⟩ ∧ b < B ∧ ∀ i, i < zs.length → w.cell? ⟨b, off + i, none⟩ = some (.int k (zs.getD i 0)) := by
  obtain ⟨b, off, rfl, hb, _⟩ := h 0 h0
  refine ⟨b, off, rfl, hb, fun i hi => ?_⟩
  obtain ⟨b', off', e, _, hc⟩ := h i hi
  injection e with e
  injection e with e1 e2
  subst e1 e2
  exact hc
/-- A new block of integers, seen from behind. -/
theorem Ints.new (w : World) (t : TypeId) (k : IntKind) (zs : List Int) (cs : Array Value) (hcs : cs.toList = zs.map (Value.int k)) : Ints (w.alloc (.cells cs t)) (w.heap.size + 1) k (some ⟨w.heap.size, 0, none⟩) zs := fun i hi => by
  refine ⟨w.heap.size, 0, rfl, by omega, ?_⟩
  rw [World.cell?_alloc_at _ _ _ _ rfl, ← Array.getElem?_toList, hcs]
  simp [List.getD, hi]
theorem Ints.newMark (w : World) (t : TypeId) (k : IntKind) (zs : List Int) (cs : Array Value) (fr : Nat × Nat) (hcs : cs.toList = zs.map (Value.int k)) : Ints (w.alloc (.cells cs t fr)) (w.heap.size + 1) k (some ⟨w.heap.size, 0, none⟩) zs := fun i hi => by
  refine ⟨w.heap.size, 0, rfl, by omega, ?_⟩
  rw [Nat.zero_add, World.cell?_alloc_mark, ← Array.getElem?_toList, hcs]
  simp [List.getD, hi]
theorem Ints.of_own {base t : Nat} {c n : Nat} (h : w.ownsRow base t 1 (.slice A n c) zs.length (zs.map (Value.int k))) : Ints w w.heap.size k A zs := fun i hi => by
  obtain ⟨g, cap, hv, _, hlt⟩ := h.form (by omega)
  injection hv with hA _ _
  subst hA
  refine ⟨g, 0, rfl, hlt, ?_⟩
  have hx := h.cells (g := g) rfl i (.int k (zs.getD i 0)) (by simp [List.getD, hi])
  have hadd : (⟨g, 0, none⟩ : Addr).add i = ⟨g, 0 + i, none⟩ := by unfold Addr.add; split <;> simp_all
  rwa [hadd] at hx
theorem Ints.take (h : Ints w B k A zs) (n : Nat) : Ints w B k A (zs.take n) := fun i hi => by
  have h1 : i < n ∧ i < zs.length := by rw [List.length_take] at hi; omega
  obtain ⟨b, off, e, hb, hc⟩ := h i h1.2
  refine ⟨b, off, e, hb, ?_⟩
  rw [hc]
  simp [List.getD, h1.1]
/-- 's[n:]'. -/
theorem Ints.cut (h : Ints w B k A zs) {n c : Nat} (hn : n ≤ zs.length) (hc : zs.length ≤ c) : Ints w B k (if c = n then A else A.map (·.add n)) (zs.drop n) := fun i hi => by
  have hi' : n + i < zs.length := by rw [List.length_drop] at hi; omega
  obtain ⟨b, off, rfl, hb, hcell⟩ := h (n + i) hi'
  rw [if_neg (by omega)]
  refine ⟨b, off + n, by unfold Addr.add; split <;> simp_all, hb, ?_⟩
  rw [Nat.add_assoc, hcell]
  simp [List.getD]
/-- 'string(b)'. -/
theorem Ints.text {P : Program} {src e dst : TypeId} (h : Ints w B .u8 A zs) (hs : P.underlying src = some (.slice e)) (he : P.underlying e = some (.int .u8)) (hd : P.underlying dst = some .string) (c : Nat) :
    (convert src dst (.slice A zs.length c)).run P w = .ok (.string (strOfNums zs)) w := by
  rcases Nat.eq_zero_or_pos zs.length with h0 | h0
  · have hz : zs = [] := List.eq_nil_of_length_eq_zero h0
    subst hz
    rw [run_convert_bytes_string w src dst e _ _ c hs he hd]
    rcases A with _ | a
    · simp [Conv.bytesToString, strOfNums, ByteArray.empty, ByteArray.emptyWithCapacity]; rfl
    · have hl : (loadCells a 0).run P w = .ok (([] : List Int).map (Value.int .u8)).toArray w := by
        simpa using run_loadCells_list (P := P) w a [] (fun j v hj => by simp at hj)
      rw [List.length_nil, run_bytesToString w a 0 c [] hl]
      rfl
  · obtain ⟨b, off, rfl, _, hc⟩ := h.at_ h0
    exact run_convert_bytes_arg w src e hs he b off zs.length c zs rfl hc dst hd
/-- 'string(b)', the length and the text spelled as wanted. -/
theorem Ints.textAs {P : Program} {src e dst : TypeId} {n : Nat} {t : ByteArray} (h : Ints w B .u8 A zs) (hs : P.underlying src = some (.slice e)) (he : P.underlying e = some (.int .u8)) (hd : P.underlying dst = some .string) (hn : zs.length = n) (ht : strOfNums zs = t) (c : Nat) :
    (convert src dst (.slice A n c)).run P w = .ok (.string t) w := by
  subst hn ht
  exact h.text hs he hd c
end

/-- A slice that came in, in the words of a row's frame, as Ints. -/
theorem ints_of_row {k : IntKind} {w : World} {a : Option Addr} {len cap : Nat} {zs : List Int}
    (h : (a = none ∧ len = 0 ∧ cap = 0 ∧ zs = []) ∨ ∃ x, a = some x ∧ len ≤ cap ∧ cap ≤ maxLen ∧ zs.length = cap ∧ (∀ i, i < zs.length → w.cell? (x.add i) = some (.int k (zs.getD i 0))) ∧ ∀ n ∈ zs, (Lit.int k n).wf = true) :
    ∃ l : List Int, l.length = len ∧ len ≤ cap ∧ cap ≤ maxLen ∧ Ints w w.heap.size k a l ∧ ∀ n ∈ l, (Lit.int k n).wf = true := by
  rcases h with ⟨rfl, rfl, rfl, rfl⟩ | ⟨x, rfl, hl, hm, hz, hc, hw⟩
  · exact ⟨[], rfl, Nat.le_refl _, Nat.zero_le _, Ints.nil _ _ _ _, by simp⟩
  · refine ⟨zs.take len, by rw [List.length_take]; omega, hl, hm, fun i hi => ?_, fun n hn => hw n (List.mem_of_mem_take hn)⟩
    have hi2 : i < len ∧ i < zs.length := by rw [List.length_take] at hi; omega
    obtain ⟨b, off, spot⟩ := x
    have hci := hc i hi2.2
    have hspot : spot = none := by simpa [Addr.add] using World.cell?_spot (hc 0 (by omega))
    subst hspot
    have hadd : (⟨b, off, none⟩ : Addr).add i = ⟨b, off + i, none⟩ := by unfold Addr.add; split <;> simp_all
    rw [hadd] at hci
    refine ⟨b, off, rfl, World.block_lt_of_cell? w _ hci, ?_⟩
    rw [hci]
    simp [List.getD, hi2.1]

theorem nil_of_row {k : IntKind} {w : World} {a : Option Addr} {len cap : Nat} {zs : List Int}
    (h : (a = none ∧ len = 0 ∧ cap = 0 ∧ zs = []) ∨ ∃ x, a = some x ∧ len ≤ cap ∧ cap ≤ maxLen ∧ zs.length = cap ∧ (∀ i, i < zs.length → w.cell? (x.add i) = some (.int k (zs.getD i 0))) ∧ ∀ n ∈ zs, (Lit.int k n).wf = true) :
    a = none → cap = 0 := by
  rcases h with ⟨_, _, h, _⟩ | ⟨x, h, _⟩
  · exact fun _ => h
  · intro e; rw [e] at h; cases h
theorem nat_u32 {n : Int} (h : (Lit.int .u32 n).wf = true) : ∃ s : Nat, n = s ∧ s < 2 ^ 32 := by
  have : 0 ≤ n ∧ n ≤ 4294967295 := by simpa [Lit.wf, IntKind.min, IntKind.max, IntKind.signed, IntKind.bits] using h
  exact ⟨n.toNat, by omega, by omega⟩
theorem nat_u16 {n : Int} (h : (Lit.int .u16 n).wf = true) : ∃ s : Nat, n = s ∧ s < 65536 := by
  have : 0 ≤ n ∧ n ≤ 65535 := by simpa [Lit.wf, IntKind.min, IntKind.max, IntKind.signed, IntKind.bits] using h
  exact ⟨n.toNat, by omega, by omega⟩
theorem int_i64 {n : Int} (h : (Lit.int .i64 n).wf = true) : -9223372036854775808 ≤ n ∧ n ≤ 9223372036854775807 := by
  simpa [Lit.wf, IntKind.min, IntKind.max, IntKind.signed, IntKind.bits] using h

/-! ### Small laws -/
theorem ret_int {k : IntKind} {a b : Int} (h : a = b) : Ending.returned (.int k a) = .returned (.int k b) := by rw [h]
theorem ret_bool {a b : Bool} (h : a = b) : Ending.returned (.bool a) = .returned (.bool b) := by rw [h]
theorem getD_mem {l : List Int} {i : Nat} (h : i < l.length) : l.getD i 0 ∈ l := by
  simp [List.getD, h]
theorem take_snoc (l : List Int) (k : Nat) (h : k < l.length) : l.take (k + 1) = l.take k ++ [l.getD k 0] := by
  rw [List.take_succ_eq_append_getElem h]; simp [List.getD, h]
theorem own_slice {w : World} {base e n : Nat} {v : Value} {xs : List Value} (h : w.ownsRow base e 1 v n xs) : ∃ A c, v = .slice A n c := by
  rcases h.2 with ⟨rfl, rfl⟩ | ⟨g, cap, cur, rfl, _⟩
  · exact ⟨none, 0, rfl⟩
  · exact ⟨_, _, rfl⟩
theorem own_le {w : World} {base e n c : Nat} {A : Option Addr} {xs : List Value} (h : w.ownsRow base e 1 (.slice A n c) n xs) : n ≤ c := by
  rcases h.2 with ⟨hv, _⟩ | ⟨g, cap, cur, hv, _, _, hle, _⟩
  · injection hv; omega
  · injection hv; omega
theorem below_drewN {B : Nat} {a w : World} (h : Below B a w) (n : Nat) : Below B a (w.drewN n) := ⟨h.os, h.tape, h.output, h.size, h.block⟩
theorem own_ne {w : World} {base e size n b : Nat} {v : Value} {xs : List Value} (h : w.ownsRow base e size v n xs) (hb : b < base) : some b ≠ v.ownBlock := fun e => by
  have := (h.lt b e.symm).1
  omega
theorem Ints.cell {w : World} {B : Nat} {k : IntKind} {b off : Nat} {zs : List Int} (h : Ints w B k (some ⟨b, off, none⟩) zs) {i : Nat} (hi : i < zs.length) : w.cell? ⟨b, off + i, none⟩ = some (.int k (zs.getD i 0)) := by
  obtain ⟨b', off', e, _, hc⟩ := h i hi
  injection e with e
  injection e with e1 e2
  subst e1 e2
  exact hc
theorem quiet_left {P : Program} {f : FuncId} {args : Array Value} {w : World} {n : Nat} {v : Value}
    (h : Calls P f args (w.drewN n) fun e w' => e = .returned v ∧ w.drewN n = w') : Calls P f args (w.drewN n) fun e w'' => e = .returned v ∧ ∃ m, w'' = w.drewN m :=
  h.mono fun _ _ ⟨he, hm⟩ => ⟨he, n, hm.symm⟩
theorem chain {a b c : World} (h1 : Below a.heap.size a b) (h2 : Below b.heap.size b c) : Below a.heap.size a c := h1.trans (h2.mono h1.size)
theorem below_drawn (w : World) (n : Nat) : Below w.heap.size w (w.drewN n) := below_drewN (Below.refl _ _) n

/-! ### append of a slice that came in, nil or not, onto a slice of the call's own -/
theorem run_append_ints {P : Program} (w : World) (base : Nat) (t ty e : TypeId) (i : TypeInfo) (z : Value) (bytes : Nat) (ht : P.underlying t = some (.slice e)) (hi : P.info? e = some i) (hz : i.zero = some z)
    (hsize : i.size = 1) (hby : i.bytes = bytes) (hzs : z.cells.size = 1) {k : IntKind} {v : Value} {xs zs : List Int} {B c : Nat} {A : Option Addr}
    (hown : w.ownsRow base e 1 v xs.length (xs.map (Value.int k))) (hr : Ints w B k A zs) (hA : A = none → c = 0) (h63 : xs.length + zs.length ≤ maxLen) (hbytes : (xs.length + zs.length) * bytes ≤ 140737488355328) (hbase : base ≤ w.heap.size) :
    ∃ v' w', (Builtin.append_ #[t, t] ty #[v, .slice A zs.length c]).run P w = .ok v' w' ∧ w'.ownsRow base e 1 v' (xs ++ zs).length ((xs ++ zs).map (Value.int k)) ∧ w.grownBy w' v.ownBlock := by
  rcases A with _ | ad
  · have h0 : zs = [] := by
      rcases Nat.eq_zero_or_pos zs.length with h | h
      · exact List.eq_nil_of_length_eq_zero h
      · obtain ⟨b, off, e', _⟩ := hr 0 h
        cases e'
    subst h0
    rw [hA rfl]
    exact ⟨v, w, run_append_owned_none w base t ty e i 1 ht hi v _ _ hown, by simpa using hown, ⟨rfl, rfl, rfl, Nat.le_refl _, fun _ _ _ => rfl⟩⟩
  · have hcells : ∀ j u, (zs.map (Value.int k))[j]? = some u → w.cell? (ad.add j) = some u := by
      intro j u hu
      have hj : j < zs.length := by
        rcases Nat.lt_or_ge j zs.length with h | h
        · exact h
        · rw [List.getElem?_eq_none (by simpa using h)] at hu; cases hu
      obtain ⟨b, off, e', _, hc⟩ := hr j hj
      injection e' with e'
      subst e'
      have hadd : (⟨b, off, none⟩ : Addr).add j = ⟨b, off + j, none⟩ := by unfold Addr.add; split <;> simp_all
      rw [hadd, hc]
      simp [hj] at hu
      rw [← hu]
      simp [List.getD, hj]
    obtain ⟨v', w', hrun, h2, h3, _⟩ := run_append_own_at (P := P) w base t ty e i z 1 bytes ht hi hz hsize hby hzs (by decide) v xs.length _ hown ad zs.length c (zs.map (Value.int k)) (by simp) hcells (ints_oneCell k zs) h63 hbytes hbase
    exact ⟨v', w', hrun, by rw [List.length_append, List.map_append]; exact h2, h3⟩

theorem wpList_append_ints {P : Program} (w : World) {ops : Array Oper} {rest : List Oper} {o : Oper} {a : Act} {Q : Exit → Act → World → Prop} (hgd : o.guard = none) (s x : Operand) (t : TypeId)
    (ho : o.op = .call { callee := .builtin .append, args := #[s, x], argTypes := #[t, t] })
    (base e : Nat) (i : TypeInfo) (z : Value) (bytes : Nat) (ht : P.underlying t = some (.slice e)) (hi : P.info? e = some i) (hz : i.zero = some z)
    (hsize : i.size = 1) (hby : i.bytes = bytes) (hzs : z.cells.size = 1) (k : IntKind) (v : Value) (xs zs : List Int) (B c n : Nat) (A : Option Addr) (hn : zs.length = n) (hs : a.eval s = v) (hx : a.eval x = .slice A n c)
    (hown : w.ownsRow base e 1 v xs.length (xs.map (Value.int k))) (hr : Ints w B k A zs) (hA : A = none → c = 0) (h63 : xs.length + zs.length ≤ maxLen) (hbytes : (xs.length + zs.length) * bytes ≤ 140737488355328) (hbase : base ≤ w.heap.size)
    (h : ∀ v' w', w'.ownsRow base e 1 v' (xs ++ zs).length ((xs ++ zs).map (Value.int k)) → w.grownBy w' v.ownBlock → wpList P ops Q rest (a.put o.dst v') w') :
    wpList P ops Q (o :: rest) a w := by
  refine wpList_plain hgd fun K hK => ?_
  subst hn
  obtain ⟨v', w', hrun, h2, h3⟩ := run_append_ints (P := P) w base t o.type e i z bytes ht hi hz hsize hby hzs hown hr hA h63 hbytes hbase
  unfold Oper.wp execOp
  simp only [ho, resolve, invoke, builtin, Sem.run_bind, Sem.run_pure, Result.andThen_ok, List.map_toArray, List.map_cons, List.map_nil, hs, hx, hrun]
  exact hK _ _ (h v' w' h2 h3)

/-- What a function leaves that hands back new bytes and an error's number: the bytes l, the number E; nothing that was there has turned. -/
def Made (w : World) (E : Int) (l : List Int) (e : Ending) (w' : World) : Prop :=
  ∃ A c, e = .returned (.tuple #[.slice A l.length c, .int .i64 E]) ∧ l.length ≤ c ∧ Ints w' w'.heap.size .u8 A l ∧ Below w.heap.size w w'

end Go.Proofs.Ytbmgiekiildaaaa
