/-
  A row of integers that lies whole in a block of one's own: what it holds, a store into it, a store elsewhere; a cut of a slice of one's own from its beginning. No program is spoken of here. The landed header: within, check, sizes; what a head's box holds. A row of things of some cells each that lies in a block of one's own (ownsRow): what it holds; a thing or a cell of it written; its beginning. No program is spoken of here. Plain: which heads are good for a volume, how far its versions go, which heads count. No program is spoken of here. Rows of heads: that came in, and of one's own.
-/
import Derived.Test.YtbmgiekiildaaaaWordsG
import Derived.Deep.OwnRows
import Derived.Test.YtbmgiekiildaaaaCrcNumsG
import Derived.Test.YtbmgiekiildaaaaTableRef2G
import Derived.Deep.TreeCalls
import Derived.Deep.RegionHeld3
import Derived.BigQuiet
import Derived.Deep.MidRow
import Derived.Test.YtbmgiekiildaaaaTableNumsG
namespace Go.Proofs.Ytbmgiekiildaaaa
open Go.RowKit

def ICs (l : List Int) : Array Value := (l.map (Value.int .i64)).toArray
theorem ICs_set (l : List Int) (i : Nat) (x : Int) : (ICs l).setIfInBounds i (.int .i64 x) = ICs (l.set i x) := by
  unfold ICs
  rw [List.setIfInBounds_toArray, List.map_set]
theorem ICs_at {l : List Int} {i : Nat} (h : i < l.length) : (ICs l)[i]? = some (.int .i64 (l.getD i 0)) := by
  simp [ICs, List.getD_eq_getElem?_getD, h]
theorem ICs_zero (n : Nat) : madeCells #[Value.int .i64 0] n = ICs (List.replicate n 0) := Array.toList_inj.1 (by rw [toList_madeCells_one]; simp [ICs])
/-- The list l, whole, in block g. -/
def IRow (t : TypeId) (g : Nat) (l : List Int) (w : World) : Prop := w.heap[g]? = some (.cells (ICs l) t (0, 0))
section
variable {t : TypeId} {g : Nat} {l : List Int} {w w' : World}
theorem IRow.cell (h : IRow t g l w) {i : Nat} (hi : i < l.length) : w.cell? ⟨g, i, none⟩ = some (.int .i64 (l.getD i 0)) := by
  rw [cell_of_row _ _ _ _ _ _ h, ICs_at hi]
theorem IRow.thaw (h : IRow t g l w) (i : Nat) : w.frozen? ⟨g, i, none⟩ = false := frozen_of_row _ _ _ _ _ h
theorem IRow.set (h : IRow t g l w) (i : Nat) (x : Int) : IRow t g (l.set i x) (w.setCell ⟨g, i, none⟩ (.int .i64 x)) := by
  show _ = _
  have e : (w.setCell ⟨g, i, none⟩ (.int .i64 x)).heap[g]? = some (.cells ((ICs l).setIfInBounds i (.int .i64 x)) t (0, 0)) := by
    have h' : w.heap[g]? = some (.cells (ICs l) t (0, 0)) := h
    simp [World.setCell, Array.getElem?_modify, h']
  rw [e, ICs_set]
theorem IRow.other (h : IRow t g l w) {k : Nat} (hk : g ≠ k) (i : Nat) (v : Value) : IRow t g l (w.setCell ⟨k, i, none⟩ v) := by
  show _ = _
  rw [Below.heap_setCell _ _ _ _ (show g ≠ (⟨k, i, none⟩ : Addr).block from hk)]; exact h
theorem IRow.lt (h : IRow t g l w) : g < w.heap.size := (Array.getElem?_eq_some_iff.1 h).1
theorem IRow.ints (h : IRow t g l w) : Ints w w.heap.size .i64 (some ⟨g, 0, none⟩) l := fun i hi =>
  ⟨g, 0, rfl, h.lt, by rw [Nat.zero_add]; exact h.cell hi⟩
theorem IRow.below {B : Nat} (h : IRow t g l w) (hb : Below B w w') (hg : g < B) : IRow t g l w' := by
  show _ = _
  rw [hb.block g hg]; exact h
theorem IRow.new (w : World) (t : TypeId) (l : List Int) : IRow t w.heap.size l (w.alloc (.cells (ICs l) t)) := heap_alloc_new w (.cells (ICs l) t)
end
/-- 's[:m]' of a slice of one's own. -/
theorem own_head {w : World} {base e n c m : Nat} {A : Option Addr} {xs : List Value} (h : w.ownsRow base e 1 (.slice A n c) n xs) (hm : m ≤ n) : w.ownsRow base e 1 (.slice A m c) m (xs.take m) := by
  refine ⟨by have := h.1; rw [List.length_take]; omega, ?_⟩
  rcases h.2 with ⟨hv, hn⟩ | ⟨g, cap, cur, hv, hb, hg, hle, hmax, hs, ht⟩
  · injection hv with h1 h2 h3
    subst h1 h2 h3
    exact Or.inl ⟨by rw [show m = 0 by omega], by omega⟩
  · injection hv with h1 h2 h3
    subst h1 h3
    refine Or.inr ⟨g, c, cur, rfl, hb, hg, by omega, hmax, hs, ?_⟩
    rw [← ht, List.take_take]
    congr 1; omega

end Go.Proofs.Ytbmgiekiildaaaa

namespace Go.Proofs.Ytbmgiekiildaaaa
open Go.RowKit

theorem hd_box (w : World) (h : Rc) (T : TypeId) : ((w.alloc (.cells (rcV h) T)).cell? ⟨w.heap.size, 0, none⟩ = some (.int .i64 h.k) ∧ (w.alloc (.cells (rcV h) T)).cell? ⟨w.heap.size, 1, none⟩ = some (.int .i64 h.a) ∧ (w.alloc (.cells (rcV h) T)).cell? ⟨w.heap.size, 2, none⟩ = some (.int .i64 h.b) ∧
    (w.alloc (.cells (rcV h) T)).cell? ⟨w.heap.size, 3, none⟩ = some (.int .i64 h.c) ∧ (w.alloc (.cells (rcV h) T)).cell? ⟨w.heap.size, 4, none⟩ = some (.int .i64 h.d) ∧ (w.alloc (.cells (rcV h) T)).cell? ⟨w.heap.size, 5, none⟩ = some (.string h.key)) ∧ Below w.heap.size w (w.alloc (.cells (rcV h) T)) :=
  ⟨cells6 (heap_alloc_new w (.cells (rcV h) T)), (Below.refl _ _).alloc (Nat.le_refl _) _⟩
theorem Try.infoHead : (Try.prog.info? 23).map (·.size) = some 6 := by kernel_rfl

/-- 'within'. -/
theorem hwithin_any (x n y : Int) (w : World) : Calls Try.prog 30 #[.int .i64 x, .int .i64 n, .int .i64 y] w fun e w' => e = .returned (.bool (decide (x ≤ n ∧ n ≤ y))) ∧ w' = w := by
  by_cases h0 : x ≤ n
  · by_cases h1 : n ≤ y
    · rw [decide_eq_true ⟨h0, h1⟩]
      have d0 : decide (x ≤ n) = true := decide_eq_true h0
      have d1 : decide (n ≤ y) = true := decide_eq_true h1
      go_enter Try.func30, Try.ntmps30
      go_wp2
      go_ret
      exact ⟨rfl, rfl⟩
    · rw [decide_eq_false (fun h => h1 h.2)]
      have d0 : decide (x ≤ n) = true := decide_eq_true h0
      have d1 : decide (n ≤ y) = false := decide_eq_false h1
      go_enter Try.func30, Try.ntmps30
      go_wp2
      go_ret
      exact ⟨rfl, rfl⟩
  · rw [decide_eq_false (fun h => h0 h.1)]
    have d0 : decide (x ≤ n) = false := decide_eq_false h0
    go_enter Try.func30, Try.ntmps30
    go_wp2
    go_ret
    exact ⟨rfl, rfl⟩

def hSz : List Int := [2, 1, 1, 1, 1, 8]
/-- 'sizes'. -/
theorem hsizes_any (w : World) : Calls Try.prog 20 #[] w fun e w' => e = .returned (.slice (some ⟨w.heap.size, 0, none⟩) 6 6) ∧ w' = w.alloc (.cells (ICs hSz) 3) := by
  go_enter Try.func20, Try.ntmps20
  go_wp2
  go_ret
  exact ⟨rfl, rfl⟩

theorem hErr_if (k a b c d : Int) (key : ByteArray) : hErr ⟨k, a, b, c, d, key⟩ = if (decide (1 ≤ k ∧ k ≤ 7) && (decide (0 ≤ a ∧ a ≤ 7) && (decide (0 ≤ b ∧ b ≤ 31) && (decide (0 ≤ c ∧ c ≤ 63) && decide (1 ≤ d ∧ d ≤ 1099511627776))))) = true then (if key.size = 16 then 0 else 1) else 7 := by
  unfold hErr hRng
  simp only [Bool.and_eq_true, decide_eq_true_eq]

set_option maxHeartbeats 1600000 in
set_option maxRecDepth 20000 in
/-- 'check'. -/
theorem hcheck_any (h : Rc) (w : World) : Calls Try.prog 17 #[.agg (rcV h)] w fun e w' => e = .returned (.int .i64 (hErr h)) ∧ Below w.heap.size w w' := by
  obtain ⟨⟨F0, F1, F2, F3, F4, F5⟩, hb0⟩ := hd_box w h 23
  obtain ⟨k, a, b, c, d, key⟩ := h
  rw [hErr_if]
  have H1 := Lib.hid (fun W => hwithin_any 1 k 7 W)
  have H2 := Lib.hid (fun W => hwithin_any 0 a 7 W)
  have H3 := Lib.hid (fun W => hwithin_any 0 b 31 W)
  have H4 := Lib.hid (fun W => hwithin_any 0 c 63 W)
  have H5 := Lib.hid (fun W => hwithin_any 1 d 1099511627776 W)
  obtain ⟨B1, hB1⟩ : ∃ B, B = decide (1 ≤ k ∧ k ≤ 7) := ⟨_, rfl⟩
  obtain ⟨B2, hB2⟩ : ∃ B, B = decide (0 ≤ a ∧ a ≤ 7) := ⟨_, rfl⟩
  obtain ⟨B3, hB3⟩ : ∃ B, B = decide (0 ≤ b ∧ b ≤ 31) := ⟨_, rfl⟩
  obtain ⟨B4, hB4⟩ : ∃ B, B = decide (0 ≤ c ∧ c ≤ 63) := ⟨_, rfl⟩
  obtain ⟨B5, hB5⟩ : ∃ B, B = decide (1 ≤ d ∧ d ≤ 1099511627776) := ⟨_, rfl⟩
  rw [← hB1] at H1 ⊢
  rw [← hB2] at H2 ⊢
  rw [← hB3] at H3 ⊢
  rw [← hB4] at H4 ⊢
  rw [← hB5] at H5 ⊢
  clear hB1 hB2 hB3 hB4 hB5
  simp only [rcV] at F0 F1 F2 F3 F4 F5 hb0 ⊢
  have HB := Lib.hid hb0
  clear hb0
  have e1 : (((key.size : Nat) : Int) != 16) = !decide (key.size = 16) := by
    by_cases q : key.size = 16
    · rw [decide_eq_true q, q]; rfl
    · rw [decide_eq_false q]
      show _ = true
      rw [bne_iff_ne]; omega
  obtain ⟨K, hK⟩ : ∃ K, K = decide (key.size = 16) := ⟨_, rfl⟩
  rw [← hK] at e1
  rw [show (if key.size = 16 then (0 : Int) else 1) = if K = true then 0 else 1 by rw [hK]; simp]
  clear hK
  cases B1
  case' true => cases B2
  case' true.true => cases B3
  case' true.true.true => cases B4
  case' true.true.true.true => cases B5
  case' true.true.true.true.true => cases K
  all_goals
    simp only [Bool.and_true, Bool.and_false, Bool.false_and, if_true, if_false, Bool.false_eq_true, Bool.not_true, Bool.not_false] at e1 ⊢
    go_enter Try.func17, Try.ntmps17
    go_wp2_with (go_at_call 30; with_reducible (first | refine Calls.mono (H1.out _) ?_ | refine Calls.mono (H2.out _) ?_ | refine Calls.mono (H3.out _) ?_ | refine Calls.mono (H4.out _) ?_ | refine Calls.mono (H5.out _) ?_); rintro e wq ⟨rfl, hwq⟩; obtain rfl := hwq.symm)
    go_ret
    exact ⟨rfl, HB.out⟩

end Go.Proofs.Ytbmgiekiildaaaa

namespace Go.Proofs.Ytbmgiekiildaaaa
open Go.RowKit

def flat {α : Type} (E : α → List Value) (l : List α) : List Value := l.flatMap E
section
variable {α : Type} {E : α → List Value} {e : Nat}
theorem flat_len (hE : ∀ x, (E x).length = e) : ∀ l : List α, (flat E l).length = l.length * e
  | [] => by simp [flat]
  | x :: l => by
    have ih := flat_len hE l
    unfold flat at ih ⊢
    rw [List.flatMap_cons, List.length_append, ih, hE, List.length_cons, Nat.add_mul]
    omega
theorem flat_snoc (l : List α) (x : α) : flat E (l ++ [x]) = flat E l ++ E x := by simp [flat]
theorem flat_append (l r : List α) : flat E (l ++ r) = flat E l ++ flat E r := by simp [flat]
theorem flat_at (hE : ∀ x, (E x).length = e) : ∀ (l : List α) (k : Nat) (h : k < l.length) (j : Nat), j < e → (flat E l)[k * e + j]? = (E l[k])[j]?
  | x :: l, 0, _, j, hj => by
    unfold flat
    rw [List.flatMap_cons, Nat.zero_mul, Nat.zero_add, List.getElem?_append_left (by rw [hE]; exact hj)]
    simp
  | x :: l, k + 1, h, j, hj => by
    have ih := flat_at hE l k (by simpa using h) j hj
    unfold flat at ih ⊢
    rw [List.flatMap_cons, List.getElem?_append_right (by rw [hE, Nat.add_mul]; omega), hE, Nat.add_mul, show k * e + 1 * e + j - e = k * e + j by omega, ih]
    rfl
theorem flat_cells (hE : ∀ x, (E x).length = e) (l : List α) {i : Nat} (hi : i < l.length * e) : ∃ k j, ∃ h : k < l.length, j < e ∧ i = k * e + j ∧ (flat E l)[i]? = (E l[k])[j]? := by
  have he : 0 < e := Nat.pos_of_ne_zero fun h => by subst h; omega
  have hk : i / e < l.length := (Nat.div_lt_iff_lt_mul he).2 hi
  have hd := Nat.div_add_mod i e
  have hm := Nat.mod_lt i he
  have hi2 : i = i / e * e + i % e := by rw [Nat.mul_comm]; exact hd.symm
  refine ⟨i / e, i % e, hk, hm, hi2, ?_⟩
  have h := flat_at hE l _ hk _ hm
  rwa [← hi2] at h

theorem setCells_heap (g : Nat) (t : TypeId) : ∀ (vs : List Value) (o : Nat) (w : World) (C : Array Value), w.heap[g]? = some (.cells C t (0, 0)) → o + vs.length ≤ C.size →
    ∃ C' : Array Value, (w.setCells g o vs).heap[g]? = some (.cells C' t (0, 0)) ∧ C'.size = C.size ∧ ∀ i, C'[i]? = if o ≤ i ∧ i < o + vs.length then vs[i - o]? else C[i]?
  | [], o, w, C, h, _ => ⟨C, h, rfl, fun i => by rw [if_neg (by have : ([] : List Value).length = 0 := rfl; omega)]⟩
  | v :: r, o, w, C, h, hl => by
    have h1 : (w.setCell ⟨g, o, none⟩ v).heap[g]? = some (.cells (C.setIfInBounds o v) t (0, 0)) := by simp [World.setCell, Array.getElem?_modify, h]
    simp only [List.length_cons] at hl
    obtain ⟨C', a, b, c⟩ := setCells_heap g t r (o + 1) _ _ h1 (by rw [Array.size_setIfInBounds]; omega)
    refine ⟨C', a, b.trans Array.size_setIfInBounds, fun i => ?_⟩
    rw [c i]
    by_cases h2 : o + 1 ≤ i ∧ i < o + 1 + r.length
    · rw [if_pos h2, if_pos (by simp only [List.length_cons]; omega), show i - o = (i - (o + 1)) + 1 by omega, List.getElem?_cons_succ]
    · rw [if_neg h2, Array.getElem?_setIfInBounds]
      by_cases h3 : o = i
      · subst h3
        rw [if_pos rfl, if_pos (by omega), if_pos (by simp only [List.length_cons]; omega), Nat.sub_self]
        rfl
      · rw [if_neg h3, if_neg (by simp only [List.length_cons]; omega)]
theorem setCells_other (g k : Nat) (hne : k ≠ g) : ∀ (vs : List Value) (o : Nat) (w : World), (w.setCells g o vs).heap[k]? = w.heap[k]?
  | [], _, _ => rfl
  | v :: r, o, w => by
    refine (setCells_other g k hne r (o + 1) _).trans ?_
    show (w.heap.modify g _)[k]? = _
    rw [Array.getElem?_modify, if_neg (Ne.symm hne)]
theorem setCells_size (g : Nat) : ∀ (vs : List Value) (o : Nat) (w : World), (w.setCells g o vs).heap.size = w.heap.size ∧ (w.setCells g o vs).os = w.os ∧ (w.setCells g o vs).tape = w.tape ∧ (w.setCells g o vs).output = w.output
  | [], _, _ => ⟨rfl, rfl, rfl, rfl⟩
  | v :: r, o, w => by
    obtain ⟨a, b, c, d⟩ := setCells_size g r (o + 1) (w.setCell ⟨g, o, none⟩ v)
    exact ⟨a.trans (by simp [World.setCell]), b, c, d⟩
theorem setCells_grown (w : World) (g o : Nat) (vs : List Value) : w.grownBy (w.setCells g o vs) (some g) := by
  obtain ⟨a, b, c, d⟩ := setCells_size g vs o w
  exact ⟨b, c, d, by omega, fun k _ hk => setCells_other g k (fun e => hk (by rw [e])) vs o w⟩

/-- The row's cells turn; it lies where it lay. -/
theorem own_turn {w w' : World} {base t n g c : Nat} {A : Option Addr} {l l' : List α} (hE : ∀ x, (E x).length = e) (h : w.ownsRow base t e (.slice A n c) n (flat E l)) (hA : A = some ⟨g, 0, none⟩) (hn : n = l.length) (hl : l'.length = l.length)
    (hc : ∀ C : Array Value, w.heap[g]? = some (.cells C t (0, 0)) → l.length * e ≤ C.size → ∃ C' : Array Value, w'.heap[g]? = some (.cells C' t (0, 0)) ∧ C'.size = C.size ∧ ∀ i, i < l.length * e → (∀ j, j < l.length * e → C[j]? = (flat E l)[j]?) → C'[i]? = (flat E l')[i]?) : w'.ownsRow base t e (.slice A n c) n (flat E l') := by
  subst hn hA
  refine ⟨by rw [flat_len hE, hl], ?_⟩
  rcases h.2 with ⟨hv, hn⟩ | ⟨g2, cap, cur, hv, hbg, hg, hle, hmax, hs, ht⟩
  · cases hv
  · injection hv with q1 _ q2
    injection q1 with q1
    injection q1 with q1 _
    subst q1 q2
    have hfit : l.length * e ≤ cur.size := by rw [hs]; exact Nat.mul_le_mul_right _ hle
    have hcur : ∀ j, j < l.length * e → cur[j]? = (flat E l)[j]? := fun j hj => by
      rw [← ht, List.getElem?_take, if_pos hj, Array.getElem?_toList]
    obtain ⟨C', a, b, d⟩ := hc cur hg hfit
    refine .inr ⟨g, c, C', rfl, hbg, a, hle, hmax, b.trans hs, ?_⟩
    refine List.ext_getElem? fun i => ?_
    rw [List.getElem?_take]
    by_cases hi : i < l.length * e
    · rw [if_pos hi, Array.getElem?_toList, d i hi hcur]
    · rw [if_neg hi, List.getElem?_eq_none (by rw [flat_len hE, hl]; omega)]
/-- A thing of it is written. -/
theorem own_put {w : World} {base t n g c k : Nat} {A : Option Addr} {l : List α} (hE : ∀ x, (E x).length = e) (h : w.ownsRow base t e (.slice A n c) n (flat E l)) (hA : A = some ⟨g, 0, none⟩) (hn : n = l.length) (hk : k < l.length) (y : α) :
    (w.setCells g (k * e) (E y)).ownsRow base t e (.slice A n c) n (flat E (l.set k y)) := by
  refine own_turn hE h hA hn (by simp) fun C hC hfit => ?_
  have hb : k * e + e ≤ l.length * e := by
    have := Nat.mul_le_mul_right e (show k + 1 ≤ l.length from hk)
    rw [Nat.add_mul] at this; omega
  obtain ⟨C', a, b, d⟩ := setCells_heap g t (E y) (k * e) w C hC (by rw [hE]; omega)
  refine ⟨C', a, b, fun i hi hcur => ?_⟩
  rw [d i, hE]
  obtain ⟨k2, j, hk2, hj, hij, _⟩ := flat_cells hE l hi
  have h2 := flat_at hE (l.set k y) k2 (by simpa using hk2) j hj
  rw [← hij] at h2
  rw [h2]
  by_cases hkk : k2 = k
  · subst hkk
    rw [if_pos (by omega), List.getElem_set_self, show i - k2 * e = j by omega]
  · rw [List.getElem_set_ne (Ne.symm hkk), if_neg, hcur i hi, hij, flat_at hE l k2 hk2 j hj]
    rintro ⟨q1, q2⟩
    rcases Nat.lt_or_ge k2 k with q | q
    · have := Nat.mul_le_mul_right e (show k2 + 1 ≤ k from q)
      rw [Nat.add_mul] at this; omega
    · have := Nat.mul_le_mul_right e (show k + 1 ≤ k2 by omega)
      rw [Nat.add_mul] at this; omega
/-- A cell of it is written. -/
theorem own_field {w : World} {base t n g c k j : Nat} {A : Option Addr} {l : List α} {v : Value} (hE : ∀ x, (E x).length = e) (h : w.ownsRow base t e (.slice A n c) n (flat E l)) (hA : A = some ⟨g, 0, none⟩) (hn : n = l.length) (hk : k < l.length) (hj : j < e) (y : α)
    (hy : E y = (E l[k]).set j v) : (w.setCell ⟨g, k * e + j, none⟩ v).ownsRow base t e (.slice A n c) n (flat E (l.set k y)) := by
  refine own_turn hE h hA hn (by simp) fun C hC hfit => ?_
  have hb : k * e + e ≤ l.length * e := by
    have := Nat.mul_le_mul_right e (show k + 1 ≤ l.length from hk)
    rw [Nat.add_mul] at this; omega
  have h1 : (w.setCell ⟨g, k * e + j, none⟩ v).heap[g]? = some (.cells (C.setIfInBounds (k * e + j) v) t (0, 0)) := by simp [World.setCell, Array.getElem?_modify, hC]
  refine ⟨_, h1, Array.size_setIfInBounds, fun i hi hcur => ?_⟩
  rw [Array.getElem?_setIfInBounds]
  obtain ⟨k2, j2, hk2, hj2, hij, _⟩ := flat_cells hE l hi
  have h2 := flat_at hE (l.set k y) k2 (by simpa using hk2) j2 hj2
  rw [← hij] at h2
  rw [h2]
  by_cases hkk : k2 = k
  · subst hkk
    rw [List.getElem_set_self, hy, List.getElem?_set]
    by_cases hjj : j = j2
    · subst hjj
      rw [if_pos hij.symm, if_pos (by omega), if_pos rfl, if_pos (by rw [hE]; exact hj)]
    · rw [if_neg (by omega), if_neg hjj, hcur i hi, hij, flat_at hE l k2 hk2 j2 hj2]
  · rw [List.getElem_set_ne (Ne.symm hkk), if_neg, hcur i hi, hij, flat_at hE l k2 hk2 j2 hj2]
    intro q
    rcases Nat.lt_or_ge k2 k with q2 | q2
    · have := Nat.mul_le_mul_right e (show k2 + 1 ≤ k from q2)
      rw [Nat.add_mul] at this; omega
    · have := Nat.mul_le_mul_right e (show k + 1 ≤ k2 by omega)
      rw [Nat.add_mul] at this; omega
/-- Its beginning. -/
theorem own_take {w : World} {base t n c m : Nat} {A : Option Addr} {l : List α} (hE : ∀ x, (E x).length = e) (h : w.ownsRow base t e (.slice A n c) n (flat E l)) (hn : n = l.length) (hm : m ≤ n) : w.ownsRow base t e (.slice A m c) m (flat E (l.take m)) := by
  subst hn
  have hme : m * e ≤ l.length * e := Nat.mul_le_mul_right _ hm
  have hflat : flat E (l.take m) = (flat E l).take (m * e) := by
    have h1 : flat E l = flat E (l.take m) ++ flat E (l.drop m) := by rw [← flat_append, List.take_append_drop]
    have h2 : (flat E (l.take m)).length = m * e := by rw [flat_len hE, List.length_take, Nat.min_eq_left hm]
    rw [h1, List.take_append_of_le_length (Nat.le_of_eq h2.symm), List.take_of_length_le (Nat.le_of_eq h2)]
  refine ⟨by rw [flat_len hE, List.length_take, Nat.min_eq_left hm], ?_⟩
  rcases h.2 with ⟨hv, hn⟩ | ⟨g, cap, cur, hv, hb, hg, hle, hmax, hs, ht⟩
  · injection hv with h1 h2 h3
    subst h1 h3
    exact .inl ⟨by rw [show m = 0 by omega], by omega⟩
  · injection hv with h1 h2 h3
    subst h1 h3
    refine .inr ⟨g, c, cur, rfl, hb, hg, by omega, hmax, hs, ?_⟩
    rw [hflat, ← ht, List.take_take, Nat.min_eq_left hme]
/-- Where it lies, and what it holds. -/
theorem own_at {w : World} {base t n c k : Nat} {A : Option Addr} {l : List α} (hE : ∀ x, (E x).length = e) (h : w.ownsRow base t e (.slice A n c) n (flat E l)) (hn : n = l.length) (hk : k < l.length) :
    ∃ g, A = some ⟨g, 0, none⟩ ∧ base ≤ g ∧ g < w.heap.size ∧ n ≤ c ∧ (∀ j v, (E l[k])[j]? = some v → w.cell? ⟨g, k * e + j, none⟩ = some v) ∧ ∀ i, w.frozen? ⟨g, i, none⟩ = false := by
  subst hn
  rcases h.2 with ⟨hv, h0⟩ | ⟨g, cap, cur, hv, hbg, hg, hle, hmax, hs, ht⟩
  · omega
  · injection hv with h1 h2 h3
    subst h1 h3
    refine ⟨g, rfl, hbg, (Array.getElem?_eq_some_iff.1 hg).1, hle, fun j v hv => ?_, fun i => frozen_of_row _ _ _ _ _ hg⟩
    have hj : j < e := by rw [← hE l[k]]; exact (List.getElem?_eq_some_iff.1 hv).1
    have hb : k * e + e ≤ l.length * e := by
      have := Nat.mul_le_mul_right e (show k + 1 ≤ l.length from hk)
      rw [Nat.add_mul] at this; omega
    rw [cell_of_row _ _ _ _ _ _ hg, ← Array.getElem?_toList]
    have h4 : cur.toList[k * e + j]? = (cur.toList.take (l.length * e))[k * e + j]? := by rw [List.getElem?_take, if_pos (by omega)]
    rw [h4, ht, flat_at hE l k hk j hj, hv]
theorem own_grown {w w' : World} {base t n : Nat} {v : Value} {xs : List Value} {row : Option Nat} (h : w.ownsRow base t e v n xs) (hg : w.grownBy w' row) (hne : ∀ b, v.ownBlock = some b → row ≠ some b) : w'.ownsRow base t e v n xs := by
  refine h.kept hg ?_
  cases hv : v.ownBlock with
  | none => exact .inl rfl
  | some b => exact .inr fun q => hne b hv q.symm
theorem own_keep {w w' : World} {base t n : Nat} {v : Value} {xs : List Value} (h : w.ownsRow base t e v n xs) (hb : Below w.heap.size w w') : w'.ownsRow base t e v n xs :=
  own_grown (row := none) h ⟨hb.os, hb.tape, hb.output, hb.size, fun k hk _ => hb.block k hk⟩ (by intro b _ q; cases q)
end
theorem grown_below {B : Nat} {w0 w w' : World} {g : Nat} (hb : Below B w0 w) (h : w.grownBy w' (some g)) (hB : B ≤ w.heap.size) (hg : B ≤ g) : Below B w0 w' := hb.grown h hB fun q hq => by injection hq with hq; omega
theorem grown_refl (w : World) (row : Option Nat) : w.grownBy w row := ⟨rfl, rfl, rfl, Nat.le_refl _, fun _ _ _ => rfl⟩
theorem grown_of_below {w w' : World} (hb : Below w.heap.size w w') (row : Option Nat) : w.grownBy w' row := ⟨hb.os, hb.tape, hb.output, hb.size, fun k hk _ => hb.block k hk⟩

end Go.Proofs.Ytbmgiekiildaaaa

namespace Go.Proofs.Ytbmgiekiildaaaa
open Go.RowKit

/-- A head is good for a volume, at a slot. -/
def goodB (v : Vol) (os : List Int) (s : Nat) (h : Rc) : Bool := decide (h.c = (s : Int) ∧ h.k = os.getD s 0 ∧ h.a = v.id ∧ h.k = v.ten ∧ h.b < v.blocks ∧ 1 ≤ h.d)
theorem goodB_iff {v : Vol} {os : List Int} {s : Nat} {h : Rc} : goodB v os s h = true ↔ (h.c = (s : Int) ∧ h.k = os.getD s 0 ∧ h.a = v.id ∧ h.k = v.ten ∧ h.b < v.blocks ∧ 1 ≤ h.d) := decide_eq_true_iff
def goodTo (v : Vol) (os : List Int) (hs : List Rc) : Nat → List Rc
  | 0 => []
  | n + 1 => if goodB v os n (hs.getD n hZero) = true then goodTo v os hs n ++ [hs.getD n hZero] else goodTo v os hs n
theorem goodTo_len (v : Vol) (os : List Int) (hs : List Rc) : ∀ n, (goodTo v os hs n).length ≤ n
  | 0 => Nat.le_refl _
  | n + 1 => by
    have := goodTo_len v os hs n
    unfold goodTo
    split
    · rw [List.length_append]; simp; omega
    · omega
theorem goodTo_yes {v : Vol} {os : List Int} {hs : List Rc} {n : Nat} (h : goodB v os n (hs.getD n hZero) = true) : goodTo v os hs (n + 1) = goodTo v os hs n ++ [hs.getD n hZero] := by
  conv => lhs; unfold goodTo
  rw [if_pos h]
theorem goodTo_no {v : Vol} {os : List Int} {hs : List Rc} {n : Nat} (h : goodB v os n (hs.getD n hZero) = false) : goodTo v os hs (n + 1) = goodTo v os hs n := by
  conv => lhs; unfold goodTo
  rw [if_neg (by rw [h]; decide)]
theorem goodTo_mem {v : Vol} {os : List Int} {hs : List Rc} {x : Rc} : ∀ n, x ∈ goodTo v os hs n ↔ ∃ s, s < n ∧ hs.getD s hZero = x ∧ goodB v os s x = true
  | 0 => by simp [goodTo]
  | n + 1 => by
    have ih := goodTo_mem (v := v) (os := os) (hs := hs) (x := x) n
    cases hg : goodB v os n (hs.getD n hZero)
    · rw [goodTo_no hg, ih]
      constructor
      · rintro ⟨s, a, b, c⟩; exact ⟨s, by omega, b, c⟩
      · rintro ⟨s, a, b, c⟩
        refine ⟨s, ?_, b, c⟩
        rcases Nat.lt_or_ge s n with q | q
        · exact q
        · have : s = n := by omega
          subst this
          rw [b, c] at hg; cases hg
    · rw [goodTo_yes hg, List.mem_append, ih, List.mem_singleton]
      constructor
      · rintro (⟨s, a, b, c⟩ | h)
        · exact ⟨s, by omega, b, c⟩
        · exact ⟨n, by omega, h.symm, by rw [h]; exact hg⟩
      · rintro ⟨s, a, b, c⟩
        rcases Nat.lt_or_ge s n with q | q
        · exact .inl ⟨s, q, b, c⟩
        · have : s = n := by omega
          subst this
          exact .inr b.symm
def goodL (v : Vol) (os : List Int) (hs : List Rc) : List Rc := goodTo v os hs hs.length

/-- The heads of a version. -/
def cntV (l : List Rc) (x : Int) : Nat := (l.filter fun h => decide (h.d = x)).length
theorem cntV_nil (x : Int) : cntV [] x = 0 := rfl
theorem cntV_snoc (l : List Rc) (h : Rc) (x : Int) : cntV (l ++ [h]) x = cntV l x + if h.d = x then 1 else 0 := by
  unfold cntV
  rw [List.filter_append, List.length_append, List.filter_cons, List.filter_nil]
  by_cases q : h.d = x
  · rw [if_pos q, if_pos (decide_eq_true q)]; rfl
  · rw [if_neg q, if_neg (by simpa using q)]; rfl
theorem cntV_pos {l : List Rc} {x : Int} : 0 < cntV l x ↔ ∃ h ∈ l, h.d = x := by
  unfold cntV
  rw [List.length_pos_iff_exists_mem]
  constructor
  · rintro ⟨h, hm⟩
    obtain ⟨a, b⟩ := List.mem_filter.1 hm
    exact ⟨h, a, of_decide_eq_true b⟩
  · rintro ⟨h, a, b⟩; exact ⟨h, List.mem_filter.2 ⟨a, decide_eq_true b⟩⟩
theorem cntV_le (l : List Rc) (x : Int) : cntV l x ≤ l.length := List.length_filter_le _ _
/-- How many are above. -/
def aboveV (l : List Rc) (x : Int) : Nat := (l.filter fun h => decide (x < h.d)).length
theorem aboveV_le (l : List Rc) (x : Int) : aboveV l x ≤ l.length := List.length_filter_le _ _
theorem aboveV_next : ∀ {l : List Rc} {x : Int}, aboveV l x = aboveV l (x + 1) + cntV l (x + 1)
  | [], _ => rfl
  | h :: l, x => by
    have ih := aboveV_next (l := l) (x := x)
    unfold aboveV cntV at ih ⊢
    rw [List.filter_cons, List.filter_cons, List.filter_cons]
    by_cases q : h.d = x + 1
    · rw [if_pos (decide_eq_true (by omega)), if_neg (by simp; omega), if_pos (decide_eq_true q), List.length_cons, List.length_cons]; omega
    · rw [if_neg (c := decide (h.d = x + 1) = true) (by simpa using q)]
      by_cases q2 : x < h.d
      · rw [if_pos (decide_eq_true q2), if_pos (decide_eq_true (by omega)), List.length_cons, List.length_cons]; omega
      · rw [if_neg (by simpa using q2), if_neg (by simp; omega)]; exact ih
/-- How far versions go. -/
structure ReachOK (base : Int) (l : List Rc) (r : Int) : Prop where
  le : base ≤ r
  all : ∀ n, base < n → n ≤ r → ∃ h ∈ l, h.d = n
  end_ : ¬ ∃ h ∈ l, h.d = r + 1

/-- The newest head of a block, up to a version. -/
def newTo (blk most : Int) (l : List Rc) : Nat → Rc
  | 0 => hZero
  | n + 1 => if (l.getD n hZero).b = blk ∧ (l.getD n hZero).d ≤ most ∧ (newTo blk most l n).d < (l.getD n hZero).d then l.getD n hZero else newTo blk most l n
theorem newTo_yes {blk most : Int} {l : List Rc} {n : Nat} (h : (l.getD n hZero).b = blk ∧ (l.getD n hZero).d ≤ most ∧ (newTo blk most l n).d < (l.getD n hZero).d) : newTo blk most l (n + 1) = l.getD n hZero := by
  conv => lhs; unfold newTo
  rw [if_pos h]
theorem newTo_no {blk most : Int} {l : List Rc} {n : Nat} (h : ¬ ((l.getD n hZero).b = blk ∧ (l.getD n hZero).d ≤ most ∧ (newTo blk most l n).d < (l.getD n hZero).d)) : newTo blk most l (n + 1) = newTo blk most l n := by
  conv => lhs; unfold newTo
  rw [if_neg h]
theorem newTo_is {blk most : Int} {l : List Rc} : ∀ n, newTo blk most l n = hZero ∨ ∃ i, i < n ∧ newTo blk most l n = l.getD i hZero ∧ (newTo blk most l n).b = blk ∧ (newTo blk most l n).d ≤ most
  | 0 => .inl rfl
  | n + 1 => by
    by_cases q : (l.getD n hZero).b = blk ∧ (l.getD n hZero).d ≤ most ∧ (newTo blk most l n).d < (l.getD n hZero).d
    · rw [newTo_yes q]; exact .inr ⟨n, by omega, rfl, q.1, q.2.1⟩
    · rw [newTo_no q]
      rcases newTo_is (blk := blk) (most := most) (l := l) n with h | ⟨i, a, b⟩
      · exact .inl h
      · exact .inr ⟨i, by omega, b⟩
theorem newTo_most {blk most : Int} {l : List Rc} : ∀ n i, i < n → (l.getD i hZero).b = blk → (l.getD i hZero).d ≤ most → (l.getD i hZero).d ≤ (newTo blk most l n).d
  | n + 1, i, hi, hb, hd => by
    by_cases q : (l.getD n hZero).b = blk ∧ (l.getD n hZero).d ≤ most ∧ (newTo blk most l n).d < (l.getD n hZero).d
    · rw [newTo_yes q]
      rcases Nat.lt_or_ge i n with h | h
      · have := newTo_most (blk := blk) (most := most) (l := l) n i h hb hd; omega
      · have : i = n := by omega
        subst this; exact Int.le_refl _
    · rw [newTo_no q]
      rcases Nat.lt_or_ge i n with h | h
      · exact newTo_most n i h hb hd
      · have : i = n := by omega
        subst this
        refine Int.not_lt.1 fun q2 => q ⟨hb, hd, q2⟩
def newL (blk most : Int) (l : List Rc) : Rc := newTo blk most l l.length
def blkTo (most : Int) (l : List Rc) : Nat → List Rc
  | 0 => []
  | n + 1 => if newL n most l = hZero then blkTo most l n else blkTo most l n ++ [newL n most l]
theorem blkTo_no {most : Int} {l : List Rc} {n : Nat} (h : newL n most l = hZero) : blkTo most l (n + 1) = blkTo most l n := by
  conv => lhs; unfold blkTo
  rw [if_pos h]
theorem blkTo_yes {most : Int} {l : List Rc} {n : Nat} (h : newL n most l ≠ hZero) : blkTo most l (n + 1) = blkTo most l n ++ [newL n most l] := by
  conv => lhs; unfold blkTo
  rw [if_neg h]
theorem blkTo_len (most : Int) (l : List Rc) : ∀ n, (blkTo most l n).length ≤ n
  | 0 => Nat.le_refl _
  | n + 1 => by
    have := blkTo_len most l n
    unfold blkTo
    split
    · omega
    · rw [List.length_append]; simp; omega
/-- Those that count, of the first volumes. -/
def cntTo (t : Tab) (hs : List Rc) (ls : List Int) : Nat → List Rc
  | 0 => []
  | k + 1 => cntTo t hs ls k ++ blkTo (ls.getD k 0) (goodL (t.vs.getD k ⟨0, 0, 0, 0⟩) t.os hs) (t.vs.getD k ⟨0, 0, 0, 0⟩).blocks.toNat
theorem cntTo_more (t : Tab) (hs : List Rc) (ls : List Int) (x : Int) : ∀ k, k ≤ ls.length → cntTo t hs (ls ++ [x]) k = cntTo t hs ls k
  | 0, _ => rfl
  | k + 1, h => by
    unfold cntTo
    rw [cntTo_more t hs ls x k (by omega), show (ls ++ [x]).getD k 0 = ls.getD k 0 by rw [List.getD_eq_getElem?_getD, List.getD_eq_getElem?_getD, List.getElem?_append_left (by omega)]]
/-- What versions last, of the first volumes. -/
def LastOK (t : Tab) (hs : List Rc) (ls : List Int) : Prop := ∀ k, k < ls.length → ReachOK (t.vs.getD k ⟨0, 0, 0, 0⟩).base (goodL (t.vs.getD k ⟨0, 0, 0, 0⟩) t.os hs) (ls.getD k 0)

end Go.Proofs.Ytbmgiekiildaaaa

namespace Go.Proofs.Ytbmgiekiildaaaa
open Go.RowKit

def hdC (r : Rc) : List Value := (rcV r).toList
theorem hdC_len (r : Rc) : (hdC r).length = 6 := rfl
theorem hdC_one (r : Rc) : ∀ u ∈ hdC r, u.oneCell' = true := by
  intro u hu
  simp [hdC, rcV] at hu
  rcases hu with rfl | rfl | rfl | rfl | rfl | rfl <;> rfl
theorem hdC_new (W : World) (t : TypeId) (r : Rc) : ∀ j u, (hdC r)[j]? = some u → (W.alloc (.cells (rcV r) t)).cell? ((⟨W.heap.size, 0, none⟩ : Addr).add j) = some u := fun j u hj => by
  have hadd : (⟨W.heap.size, 0, none⟩ : Addr).add j = ⟨W.heap.size, j, none⟩ := by unfold Addr.add; split <;> simp_all
  rw [hadd, cell_of_row _ _ _ _ _ _ (heap_alloc_new W (.cells (rcV r) t)), ← hj]
  simp [hdC]
theorem hdC_new6 (W : World) (t : TypeId) (k a b c d : Int) (key : ByteArray) : ∀ j u, ([.int .i64 k, .int .i64 a, .int .i64 b, .int .i64 c, .int .i64 d, .string key] : List Value)[j]? = some u → (W.alloc (.cells #[.int .i64 k, .int .i64 a, .int .i64 b, .int .i64 c, .int .i64 d, .string key] t)).cell? ((⟨W.heap.size, 0, none⟩ : Addr).add j) = some u := hdC_new W t ⟨k, a, b, c, d, key⟩
theorem hown_nil (w : World) (base e : Nat) : w.ownsRow base e 6 (.slice none 0 0) 0 (flat hdC []) := ⟨rfl, .inl ⟨rfl, rfl⟩⟩
theorem hrecs_of_own {w : World} {base e n c : Nat} {A : Option Addr} {rs : List Rc} (h : w.ownsRow base e 6 (.slice A n c) n (flat hdC rs)) (hn : n = rs.length) : RecsAt w w.heap.size A rs := fun k hk => by
  obtain ⟨g, hA, _, hlt, _, hc, _⟩ := own_at hdC_len h hn hk
  subst hA
  refine ⟨g, 0, rfl, hlt, ?_, ?_, ?_, ?_, ?_, ?_⟩
  · rw [Nat.zero_add, Nat.mul_comm]; exact hc 0 _ rfl
  · rw [Nat.zero_add, Nat.mul_comm]; exact hc 1 _ rfl
  · rw [Nat.zero_add, Nat.mul_comm]; exact hc 2 _ rfl
  · rw [Nat.zero_add, Nat.mul_comm]; exact hc 3 _ rfl
  · rw [Nat.zero_add, Nat.mul_comm]; exact hc 4 _ rfl
  · rw [Nat.zero_add, Nat.mul_comm]; exact hc 5 _ rfl
/-- A head of a row, whole. -/
theorem recs_mid {w : World} {B : Nat} {A : Option Addr} {rs : List Rc} (h : RecsAt w B A rs) {k : Nat} (hk : k < rs.length) : ∃ b off, A = some ⟨b, off, none⟩ ∧ b < B ∧ w.rangeAt b (off + k * 6) (hdC (rs.getD k hZero)) := by
  obtain ⟨b, off, e, hl, c0, c1, c2, c3, c4, c5⟩ := h k hk
  refine ⟨b, off, e, hl, fun j v hj => ?_⟩
  have hg : rs.getD k hZero = rs[k] := by rw [List.getD_eq_getElem?_getD, List.getElem?_eq_getElem hk]; rfl
  rw [hg] at hj
  rw [Nat.mul_comm k 6]
  match j, hj with
  | 0, hj => rw [← hj]; exact c0
  | 1, hj => rw [← hj]; exact c1
  | 2, hj => rw [← hj]; exact c2
  | 3, hj => rw [← hj]; exact c3
  | 4, hj => rw [← hj]; exact c4
  | 5, hj => rw [← hj]; exact c5
  | j + 6, hj => simp [hdC, rcV] at hj
theorem hown_le {w : World} {base e n c : Nat} {A : Option Addr} {xs : List Value} (h : w.ownsRow base e 6 (.slice A n c) n xs) : n ≤ c := by
  rcases h.2 with ⟨hv, h0⟩ | ⟨g, cap, cur, hv, hbg, hg, hle, hmax, hs, ht⟩
  · injection hv with _ h1 h2; omega
  · injection hv with _ _ h3; omega
theorem hown_slice {w : World} {base e n : Nat} {v : Value} {xs : List Value} (h : w.ownsRow base e 6 v n xs) : ∃ A c, v = .slice A n c := by
  rcases h.2 with ⟨hv, h0⟩ | ⟨g, cap, cur, hv, _⟩
  · exact ⟨none, 0, by rw [hv, h0]⟩
  · exact ⟨_, _, hv⟩
theorem hvol_box (w : World) (v : Vol) (T : TypeId) : ((w.alloc (.cells (volV v) T)).cell? ⟨w.heap.size, 0, none⟩ = some (.int .i64 v.id) ∧ (w.alloc (.cells (volV v) T)).cell? ⟨w.heap.size, 1, none⟩ = some (.int .i64 v.ten) ∧ (w.alloc (.cells (volV v) T)).cell? ⟨w.heap.size, 2, none⟩ = some (.int .i64 v.blocks) ∧
    (w.alloc (.cells (volV v) T)).cell? ⟨w.heap.size, 3, none⟩ = some (.int .i64 v.base)) ∧ Below w.heap.size w (w.alloc (.cells (volV v) T)) :=
  ⟨cells4 (heap_alloc_new w (.cells (volV v) T)), (Below.refl _ _).alloc (Nat.le_refl _) _⟩
theorem Try.infoHeadF : (Try.prog.info? 23).map (fun i => (i.zero, i.size, i.bytes)) = some (some (.agg #[.int .i64 0, .int .i64 0, .int .i64 0, .int .i64 0, .int .i64 0, .string ⟨#[]⟩]), 6, 56) := by kernel_rfl

end Go.Proofs.Ytbmgiekiildaaaa
