/-
  A row of things of some cells each that lies in a block of one's own (ownsRow): what it holds; a thing or a cell of it written; its beginning. No program is spoken of here. The landed vault: the sectors of an area. The document's own check sums (stowageref02): what they answer; nothing that was there is changed. The document's own: in, put, get, and the check sum (stowageref15, stowageref02). The document's own Encode (stowageref15). Written by wip/gen/line_ref2.py. The document's own Encode (stowageref15), where it refuses nothing. Written by wip/gen/line_ref3.py. The document's own Decode (stowageref15).
-/
import Derived.Test.YtbnhkplhmanmoaaGreatWordsG
import Derived.Deep.MidRow
import Derived.Test.YtbnhkplhmanmoaaGreatTableSpecG
import Derived.Test.YtbnhkplhmanmoaaGreatCrcNumsG
import Derived.Test.YtbnhkplhmanmoaaGreatChecked
import Derived.Tactics
import Derived.Tactics2
import Derived.LoopTactic
import Derived.OpenShut
import Derived.WalkLawsBesides
import Derived.Test.YtbnhkplhmanmoaaGreatDiskAskG
import Derived.BigQuiet
import Derived.Lib.AppendStr
import Derived.Deep.RegionHeld3
import Derived.Deep.DeepCutAuto
import Derived.Deep.TreeCalls
namespace Go.Proofs.YtbnhkplhmanmoaaGreat
open Go.RowKit

def flat {α : Type} (E : α → List Value) (l : List α) : List Value := l.flatMap E
section
variable {α : Type} {E : α → List Value} {e : Nat}
theorem flat_len (hE : ∀ x, (E x).length = e) : ∀ l : List α, (flat E l).length = l.length * e
  | [] => by simp [flat]
  | x :: l => by
    have ih := flat_len hE l
    unfold flat at ih ⊢
    rw [List.flatMap_cons, List.length_append, ih, hE, List.length_cons, Nat.add_mul]
    omega
theorem flat_snoc (l : List α) (x : α) : flat E (l ++ [x]) = flat E l ++ E x := by simp [flat]
theorem flat_append (l r : List α) : flat E (l ++ r) = flat E l ++ flat E r := by simp [flat]
theorem flat_at (hE : ∀ x, (E x).length = e) : ∀ (l : List α) (k : Nat) (h : k < l.length) (j : Nat), j < e → (flat E l)[k * e + j]? = (E l[k])[j]?
  | x :: l, 0, _, j, hj => by
    unfold flat
    rw [List.flatMap_cons, Nat.zero_mul, Nat.zero_add, List.getElem?_append_left (by rw [hE]; exact hj)]
    simp
  | x :: l, k + 1, h, j, hj => by
    have ih := flat_at hE l k (by simpa using h) j hj
    unfold flat at ih ⊢
    rw [List.flatMap_cons, List.getElem?_append_right (by rw [hE, Nat.add_mul]; omega), hE, Nat.add_mul, show k * e + 1 * e + j - e = k * e + j by omega, ih]
    rfl
theorem flat_cells (hE : ∀ x, (E x).length = e) (l : List α) {i : Nat} (hi : i < l.length * e) : ∃ k j, ∃ h : k < l.length, j < e ∧ i = k * e + j ∧ (flat E l)[i]? = (E l[k])[j]? := by
  have he : 0 < e := Nat.pos_of_ne_zero fun h => by subst h; omega
  have hk : i / e < l.length := (Nat.div_lt_iff_lt_mul he).2 hi
  have hd := Nat.div_add_mod i e
  have hm := Nat.mod_lt i he
  have hi2 : i = i / e * e + i % e := by rw [Nat.mul_comm]; exact hd.symm
  refine ⟨i / e, i % e, hk, hm, hi2, ?_⟩
  have h := flat_at hE l _ hk _ hm
  rwa [← hi2] at h

theorem setCells_heap (g : Nat) (t : TypeId) : ∀ (vs : List Value) (o : Nat) (w : World) (C : Array Value), w.heap[g]? = some (.cells C t (0, 0)) → o + vs.length ≤ C.size →
    ∃ C' : Array Value, (w.setCells g o vs).heap[g]? = some (.cells C' t (0, 0)) ∧ C'.size = C.size ∧ ∀ i, C'[i]? = if o ≤ i ∧ i < o + vs.length then vs[i - o]? else C[i]?
  | [], o, w, C, h, _ => ⟨C, h, rfl, fun i => by rw [if_neg (by have : ([] : List Value).length = 0 := rfl; omega)]⟩
  | v :: r, o, w, C, h, hl => by
    have h1 : (w.setCell ⟨g, o, none⟩ v).heap[g]? = some (.cells (C.setIfInBounds o v) t (0, 0)) := by simp [World.setCell, Array.getElem?_modify, h]
    simp only [List.length_cons] at hl
    obtain ⟨C', a, b, c⟩ := setCells_heap g t r (o + 1) _ _ h1 (by rw [Array.size_setIfInBounds]; omega)
    refine ⟨C', a, b.trans Array.size_setIfInBounds, fun i => ?_⟩
    rw [c i]
    by_cases h2 : o + 1 ≤ i ∧ i < o + 1 + r.length
    · rw [if_pos h2, if_pos (by simp only [List.length_cons]; omega), show i - o = (i - (o + 1)) + 1 by omega, List.getElem?_cons_succ]
    · rw [if_neg h2, Array.getElem?_setIfInBounds]
      by_cases h3 : o = i
      · subst h3
        rw [if_pos rfl, if_pos (by omega), if_pos (by simp only [List.length_cons]; omega), Nat.sub_self]
        rfl
      · rw [if_neg h3, if_neg (by simp only [List.length_cons]; omega)]
theorem setCells_other (g k : Nat) (hne : k ≠ g) : ∀ (vs : List Value) (o : Nat) (w : World), (w.setCells g o vs).heap[k]? = w.heap[k]?
  | [], _, _ => rfl
  | v :: r, o, w => by
    refine (setCells_other g k hne r (o + 1) _).trans ?_
    show (w.heap.modify g _)[k]? = _
    rw [Array.getElem?_modify, if_neg (Ne.symm hne)]
theorem setCells_size (g : Nat) : ∀ (vs : List Value) (o : Nat) (w : World), (w.setCells g o vs).heap.size = w.heap.size ∧ (w.setCells g o vs).os = w.os ∧ (w.setCells g o vs).tape = w.tape ∧ (w.setCells g o vs).output = w.output
  | [], _, _ => ⟨rfl, rfl, rfl, rfl⟩
  | v :: r, o, w => by
    obtain ⟨a, b, c, d⟩ := setCells_size g r (o + 1) (w.setCell ⟨g, o, none⟩ v)
    exact ⟨a.trans (by simp [World.setCell]), b, c, d⟩
theorem setCells_grown (w : World) (g o : Nat) (vs : List Value) : w.grownBy (w.setCells g o vs) (some g) := by
  obtain ⟨a, b, c, d⟩ := setCells_size g vs o w
  exact ⟨b, c, d, by omega, fun k _ hk => setCells_other g k (fun e => hk (by rw [e])) vs o w⟩

/-- The row's cells turn; it lies where it lay. -/
theorem own_turn {w w' : World} {base t n g c : Nat} {A : Option Addr} {l l' : List α} (hE : ∀ x, (E x).length = e) (h : w.ownsRow base t e (.slice A n c) n (flat E l)) (hA : A = some ⟨g, 0, none⟩) (hn : n = l.length) (hl : l'.length = l.length)
    (hc : ∀ C : Array Value, w.heap[g]? = some (.cells C t (0, 0)) → l.length * e ≤ C.size → ∃ C' : Array Value, w'.heap[g]? = some (.cells C' t (0, 0)) ∧ C'.size = C.size ∧ ∀ i, i < l.length * e → (∀ j, j < l.length * e → C[j]? = (flat E l)[j]?) → C'[i]? = (flat E l')[i]?) : w'.ownsRow base t e (.slice A n c) n (flat E l') := by
  subst hn hA
  refine ⟨by rw [flat_len hE, hl], ?_⟩
  rcases h.2 with ⟨hv, hn⟩ | ⟨g2, cap, cur, hv, hbg, hg, hle, hmax, hs, ht⟩
  · cases hv
  · injection hv with q1 _ q2
    injection q1 with q1
    injection q1 with q1 _
    subst q1 q2
    have hfit : l.length * e ≤ cur.size := by rw [hs]; exact Nat.mul_le_mul_right _ hle
    have hcur : ∀ j, j < l.length * e → cur[j]? = (flat E l)[j]? := fun j hj => by
      rw [← ht, List.getElem?_take, if_pos hj, Array.getElem?_toList]
    obtain ⟨C', a, b, d⟩ := hc cur hg hfit
    refine .inr ⟨g, c, C', rfl, hbg, a, hle, hmax, b.trans hs, ?_⟩
    refine List.ext_getElem? fun i => ?_
    rw [List.getElem?_take]
    by_cases hi : i < l.length * e
    · rw [if_pos hi, Array.getElem?_toList, d i hi hcur]
    · rw [if_neg hi, List.getElem?_eq_none (by rw [flat_len hE, hl]; omega)]
/-- A thing of it is written. -/
theorem own_put {w : World} {base t n g c k : Nat} {A : Option Addr} {l : List α} (hE : ∀ x, (E x).length = e) (h : w.ownsRow base t e (.slice A n c) n (flat E l)) (hA : A = some ⟨g, 0, none⟩) (hn : n = l.length) (hk : k < l.length) (y : α) :
    (w.setCells g (k * e) (E y)).ownsRow base t e (.slice A n c) n (flat E (l.set k y)) := by
  refine own_turn hE h hA hn (by simp) fun C hC hfit => ?_
  have hb : k * e + e ≤ l.length * e := by
    have := Nat.mul_le_mul_right e (show k + 1 ≤ l.length from hk)
    rw [Nat.add_mul] at this; omega
  obtain ⟨C', a, b, d⟩ := setCells_heap g t (E y) (k * e) w C hC (by rw [hE]; omega)
  refine ⟨C', a, b, fun i hi hcur => ?_⟩
  rw [d i, hE]
  obtain ⟨k2, j, hk2, hj, hij, _⟩ := flat_cells hE l hi
  have h2 := flat_at hE (l.set k y) k2 (by simpa using hk2) j hj
  rw [← hij] at h2
  rw [h2]
  by_cases hkk : k2 = k
  · subst hkk
    rw [if_pos (by omega), List.getElem_set_self, show i - k2 * e = j by omega]
  · rw [List.getElem_set_ne (Ne.symm hkk), if_neg, hcur i hi, hij, flat_at hE l k2 hk2 j hj]
    rintro ⟨q1, q2⟩
    rcases Nat.lt_or_ge k2 k with q | q
    · have := Nat.mul_le_mul_right e (show k2 + 1 ≤ k from q)
      rw [Nat.add_mul] at this; omega
    · have := Nat.mul_le_mul_right e (show k + 1 ≤ k2 by omega)
      rw [Nat.add_mul] at this; omega
/-- A cell of it is written. -/
theorem own_field {w : World} {base t n g c k j : Nat} {A : Option Addr} {l : List α} {v : Value} (hE : ∀ x, (E x).length = e) (h : w.ownsRow base t e (.slice A n c) n (flat E l)) (hA : A = some ⟨g, 0, none⟩) (hn : n = l.length) (hk : k < l.length) (hj : j < e) (y : α)
    (hy : E y = (E l[k]).set j v) : (w.setCell ⟨g, k * e + j, none⟩ v).ownsRow base t e (.slice A n c) n (flat E (l.set k y)) := by
  refine own_turn hE h hA hn (by simp) fun C hC hfit => ?_
  have hb : k * e + e ≤ l.length * e := by
    have := Nat.mul_le_mul_right e (show k + 1 ≤ l.length from hk)
    rw [Nat.add_mul] at this; omega
  have h1 : (w.setCell ⟨g, k * e + j, none⟩ v).heap[g]? = some (.cells (C.setIfInBounds (k * e + j) v) t (0, 0)) := by simp [World.setCell, Array.getElem?_modify, hC]
  refine ⟨_, h1, Array.size_setIfInBounds, fun i hi hcur => ?_⟩
  rw [Array.getElem?_setIfInBounds]
  obtain ⟨k2, j2, hk2, hj2, hij, _⟩ := flat_cells hE l hi
  have h2 := flat_at hE (l.set k y) k2 (by simpa using hk2) j2 hj2
  rw [← hij] at h2
  rw [h2]
  by_cases hkk : k2 = k
  · subst hkk
    rw [List.getElem_set_self, hy, List.getElem?_set]
    by_cases hjj : j = j2
    · subst hjj
      rw [if_pos hij.symm, if_pos (by omega), if_pos rfl, if_pos (by rw [hE]; exact hj)]
    · rw [if_neg (by omega), if_neg hjj, hcur i hi, hij, flat_at hE l k2 hk2 j2 hj2]
  · rw [List.getElem_set_ne (Ne.symm hkk), if_neg, hcur i hi, hij, flat_at hE l k2 hk2 j2 hj2]
    intro q
    rcases Nat.lt_or_ge k2 k with q2 | q2
    · have := Nat.mul_le_mul_right e (show k2 + 1 ≤ k from q2)
      rw [Nat.add_mul] at this; omega
    · have := Nat.mul_le_mul_right e (show k + 1 ≤ k2 by omega)
      rw [Nat.add_mul] at this; omega
/-- Its beginning. -/
theorem own_take {w : World} {base t n c m : Nat} {A : Option Addr} {l : List α} (hE : ∀ x, (E x).length = e) (h : w.ownsRow base t e (.slice A n c) n (flat E l)) (hn : n = l.length) (hm : m ≤ n) : w.ownsRow base t e (.slice A m c) m (flat E (l.take m)) := by
  subst hn
  have hme : m * e ≤ l.length * e := Nat.mul_le_mul_right _ hm
  have hflat : flat E (l.take m) = (flat E l).take (m * e) := by
    have h1 : flat E l = flat E (l.take m) ++ flat E (l.drop m) := by rw [← flat_append, List.take_append_drop]
    have h2 : (flat E (l.take m)).length = m * e := by rw [flat_len hE, List.length_take, Nat.min_eq_left hm]
    rw [h1, List.take_append_of_le_length (Nat.le_of_eq h2.symm), List.take_of_length_le (Nat.le_of_eq h2)]
  refine ⟨by rw [flat_len hE, List.length_take, Nat.min_eq_left hm], ?_⟩
  rcases h.2 with ⟨hv, hn⟩ | ⟨g, cap, cur, hv, hb, hg, hle, hmax, hs, ht⟩
  · injection hv with h1 h2 h3
    subst h1 h3
    exact .inl ⟨by rw [show m = 0 by omega], by omega⟩
  · injection hv with h1 h2 h3
    subst h1 h3
    refine .inr ⟨g, c, cur, rfl, hb, hg, by omega, hmax, hs, ?_⟩
    rw [hflat, ← ht, List.take_take, Nat.min_eq_left hme]
/-- Where it lies, and what it holds. -/
theorem own_at {w : World} {base t n c k : Nat} {A : Option Addr} {l : List α} (hE : ∀ x, (E x).length = e) (h : w.ownsRow base t e (.slice A n c) n (flat E l)) (hn : n = l.length) (hk : k < l.length) :
    ∃ g, A = some ⟨g, 0, none⟩ ∧ base ≤ g ∧ g < w.heap.size ∧ n ≤ c ∧ (∀ j v, (E l[k])[j]? = some v → w.cell? ⟨g, k * e + j, none⟩ = some v) ∧ ∀ i, w.frozen? ⟨g, i, none⟩ = false := by
  subst hn
  rcases h.2 with ⟨hv, h0⟩ | ⟨g, cap, cur, hv, hbg, hg, hle, hmax, hs, ht⟩
  · omega
  · injection hv with h1 h2 h3
    subst h1 h3
    refine ⟨g, rfl, hbg, (Array.getElem?_eq_some_iff.1 hg).1, hle, fun j v hv => ?_, fun i => frozen_of_row _ _ _ _ _ hg⟩
    have hj : j < e := by rw [← hE l[k]]; exact (List.getElem?_eq_some_iff.1 hv).1
    have hb : k * e + e ≤ l.length * e := by
      have := Nat.mul_le_mul_right e (show k + 1 ≤ l.length from hk)
      rw [Nat.add_mul] at this; omega
    rw [cell_of_row _ _ _ _ _ _ hg, ← Array.getElem?_toList]
    have h4 : cur.toList[k * e + j]? = (cur.toList.take (l.length * e))[k * e + j]? := by rw [List.getElem?_take, if_pos (by omega)]
    rw [h4, ht, flat_at hE l k hk j hj, hv]
theorem own_grown {w w' : World} {base t n : Nat} {v : Value} {xs : List Value} {row : Option Nat} (h : w.ownsRow base t e v n xs) (hg : w.grownBy w' row) (hne : ∀ b, v.ownBlock = some b → row ≠ some b) : w'.ownsRow base t e v n xs := by
  refine h.kept hg ?_
  cases hv : v.ownBlock with
  | none => exact .inl rfl
  | some b => exact .inr fun q => hne b hv q.symm
theorem own_keep {w w' : World} {base t n : Nat} {v : Value} {xs : List Value} (h : w.ownsRow base t e v n xs) (hb : Below w.heap.size w w') : w'.ownsRow base t e v n xs :=
  own_grown (row := none) h ⟨hb.os, hb.tape, hb.output, hb.size, fun k hk _ => hb.block k hk⟩ (by intro b _ q; cases q)
end
theorem grown_below {B : Nat} {w0 w w' : World} {g : Nat} (hb : Below B w0 w) (h : w.grownBy w' (some g)) (hB : B ≤ w.heap.size) (hg : B ≤ g) : Below B w0 w' := hb.grown h hB fun q hq => by injection hq with hq; omega
theorem grown_refl (w : World) (row : Option Nat) : w.grownBy w row := ⟨rfl, rfl, rfl, Nat.le_refl _, fun _ _ _ => rfl⟩
theorem grown_of_below {w w' : World} (hb : Below w.heap.size w w') (row : Option Nat) : w.grownBy w' row := ⟨hb.os, hb.tape, hb.output, hb.size, fun k hk _ => hb.block k hk⟩

end Go.Proofs.YtbnhkplhmanmoaaGreat

namespace Go.Proofs.YtbnhkplhmanmoaaGreat
open Go.RowKit

def vsecV (p : LSec) : Value := .slice p.A p.b.length p.c
/-- Texts in a row of one's own, of which none lies in that row's block. -/
structure SecO (t : TypeId) (w wr : World) (v : Value) (ps : List LSec) : Prop where
  below : Below w.heap.size w wr
  row : wr.ownsRow w.heap.size t 1 v ps.length (ps.map vsecV)
  ok : ∀ p ∈ ps, p.ok wr wr.heap.size ∧ ∀ b o, p.A = some ⟨b, o, none⟩ → some b ≠ v.ownBlock
section
variable {t : TypeId} {w wr w' : World} {v v' : Value} {ps : List LSec}
theorem SecO.void (t : TypeId) (w : World) : SecO t w w (.slice none 0 0) [] := ⟨Below.refl _ _, ⟨rfl, .inl ⟨rfl, rfl⟩⟩, fun p hp => by cases hp⟩
theorem SecO.later (h : SecO t w wr v ps) (hb : Below wr.heap.size wr w') : SecO t w w' v ps :=
  ⟨chain h.below hb, own_keep h.row hb, fun p hp => ⟨((h.ok p hp).1.below hb).more hb.size, (h.ok p hp).2⟩⟩
/-- A block of a text that lies somewhere. -/
theorem lsec_block {w : World} {B : Nat} {p : LSec} (h : p.ok w B) (hl : 0 < p.b.length) {b o : Nat} (e : p.A = some ⟨b, o, none⟩) : b < B := by
  obtain ⟨b', o', e', hb, _⟩ := h.ints 0 hl
  rw [e] at e'
  injection e' with e'
  injection e' with e1 _
  omega
/-- One more, that lies in new memory. -/
theorem SecO.push (h : SecO t w wr v ps) {w2 : World} {p : LSec} (hb : Below wr.heap.size wr w2) (hp : p.ok w2 w2.heap.size) (hl : ∀ q ∈ ps ++ [p], 0 < q.b.length) (hnew : ∀ b o, p.A = some ⟨b, o, none⟩ → wr.heap.size ≤ b)
    (x : Value) (T : TypeId) (hown : w'.ownsRow w.heap.size t 1 v' (ps.length + 1) (ps.map vsecV ++ [vsecV p])) (hg : (w2.alloc (.cells #[x] T)).grownBy w' v.ownBlock) (hv : v'.ownBlock = v.ownBlock ∨ v'.ownBlock = some (w2.alloc (.cells #[x] T)).heap.size) : SecO t w w' v' (ps ++ [p]) := by
  have hba : Below w2.heap.size w2 (w2.alloc (.cells #[x] T)) := (Below.refl _ _).alloc (Nat.le_refl _) _
  have h2 := (h.later hb).later hba
  have key : ∀ q : LSec, q.ok w2 w2.heap.size → 0 < q.b.length → (∀ b o, q.A = some ⟨b, o, none⟩ → some b ≠ v.ownBlock) → q.ok w' w'.heap.size ∧ ∀ b o, q.A = some ⟨b, o, none⟩ → some b ≠ v'.ownBlock := fun q hq hql hne => by
    refine ⟨⟨fun i hi => ?_, hq.byte, hq.le, hq.len⟩, fun b o e => ?_⟩
    · obtain ⟨b, o, e, hlt, hc⟩ := hq.ints i hi
      have hlt2 : b < (w2.alloc (.cells #[x] T)).heap.size := Nat.lt_of_lt_of_le hlt hba.size
      refine ⟨b, o, e, Nat.lt_of_lt_of_le hlt2 hg.size, ?_⟩
      rw [World.cell?_of_block (hg.block b hlt2 (hne b o e)), World.cell?_of_block (hba.block b hlt)]
      exact hc
    · have hlt := lsec_block hq hql e
      rcases hv with hv | hv
      · rw [hv]; exact hne b o e
      · rw [hv]
        intro q; injection q with q
        have := hba.size; omega
  refine ⟨h2.below.grown hg h2.below.size fun q hq => (h.row.lt q hq).1, by rw [List.length_append, List.map_append]; exact hown, fun q hq => ?_⟩
  rcases List.mem_append.1 hq with hq | hq
  · have := (h.later hb).ok q hq
    exact key q this.1 (hl q (List.mem_append_left _ hq)) this.2
  · rw [List.mem_singleton.1 hq]
    exact key p hp (hl p (by simp)) fun b o e q => by
      have h3 := (h.row.lt b q.symm).2
      have := hnew b o e; omega
theorem SecO.secs {n c : Nat} {A : Option Addr} (h : SecO t w wr (.slice A n c) ps) : Secs wr wr.heap.size A ps := fun i hi => by
  obtain ⟨g, cap, hv, _, hlt⟩ := h.row.form (by omega)
  injection hv with hA _ _
  subst hA
  have e1 : (ps.map vsecV)[i]? = some (vsecV ps[i]) := by simp [hi]
  have hx := h.row.cells (g := g) rfl i _ e1
  have hadd : (⟨g, 0, none⟩ : Addr).add i = ⟨g, 0 + i, none⟩ := by unfold Addr.add; split <;> simp_all
  rw [hadd] at hx
  exact ⟨g, 0, rfl, hlt, hx, (h.ok _ (List.getElem_mem hi)).1⟩
end
theorem Tryz.infoSecs : (Tryz.prog.info? 54).map (fun i => (i.zero, i.size, i.bytes)) = some (some (.slice none 0 0), 1, 24) := by kernel_rfl

section
variable {Rep : World → Nat → (Nat → Prop) → Dk → Prop} (L : Lows Rep)
include L
set_option maxHeartbeats 1600000 in
set_option maxRecDepth 20000 in
theorem sectors_any (p : Nat) (F : Nat → Prop) (s : Dk) (a : Nat) (w : World) (h : Rep w p F s) (ho : s.off = false) (hpe : s.pend = []) (hl : 384 ≤ s.last.length) (ha : a < 2) :
    Calls Tryz.prog 76 #[.pointer (some ⟨p, 0, none⟩), .int .i64 (a : Int)] w fun e w' => ∃ A c, e = .returned (.tuple #[.slice A 192 c, .int .i64 0]) ∧ 192 ≤ c ∧ ∃ ps, ps.length = 192 ∧ Secs w' w'.heap.size A ps ∧ secsB ps = areaT s.last a ∧ Below w.heap.size w w' := by
  obtain ⟨i1, hf1, hz10, hz11, hz12⟩ := info_parts Tryz.infoSecs
  have hnow : ∀ i, nowD s i = s.last.getD i [] := fun i => by unfold nowD; rw [hpe]; rfl
  have hok := (L.d w).ok w p F s h
  have HSEC : Hid (∀ k, k < 192 → Sec (s.last.getD (a * 192 + k) [])) := fun k hk => hok.sec _ (by omega)
  have HPL : Hid (∀ (k : Nat) (W : World), k < 192 → Calls Tryz.prog 82 #[.int .i64 (a : Int), .int .i64 (k : Int)] W fun e w' => e = .returned (.int .i64 ((a * 192 + k : Nat) : Int)) ∧ W = w') := fun k W hk => place_any a k W ha (by omega)
  have HRD : Hid (∀ (k : Nat) (W : World), k < 192 → Below w.heap.size w W → Calls Tryz.prog 106 #[.pointer (some ⟨p, 0, none⟩), .int .i64 ((a * 192 + k : Nat) : Int)] W fun e w' => ∃ A c, e = .returned (.tuple #[.slice A 64 c, .int .i64 0]) ∧ Below W.heap.size W w' ∧ (⟨A, c, up (s.last.getD (a * 192 + k) [])⟩ : LSec).ok w' w'.heap.size ∧ ∀ b o, A = some ⟨b, o, none⟩ → W.heap.size ≤ b) := fun k W hk hb => by
    have hs := HSEC.out k hk
    refine (L.read (i := a * 192 + k) (L.keep h hb) (by unfold readE; rw [ho, if_neg (by decide), if_neg (in_not (by omega))])).mono fun e w' ⟨A, c, q1, q2, q3, q4⟩ => ⟨A, c, q1, q4, ⟨?_, ?_, ?_, ?_⟩, fun b o e => ?_⟩
    · rw [← hnow]; exact q3.ints
    · intro z hz
      unfold up at hz
      obtain ⟨y, hy, rfl⟩ := List.mem_map.1 hz
      have := hs.2 y hy
      omega
    · show (up _).length ≤ c
      rw [up_len, hs.1]; exact q2
    · show (up _).length ≤ _
      rw [up_len, hs.1]; decide
    · obtain ⟨g, o', hA, hg, _⟩ := q3
      rw [hA] at e
      injection e with e
      injection e with e1 _
      omega
  have HST : Hid (SecO 54 w w (.slice none 0 0) []) := SecO.void _ w
  obtain ⟨T, hT⟩ : ∃ T : Nat → List Int, T = fun k => up (s.last.getD (a * 192 + k) []) := ⟨_, rfl⟩
  have HTL : Hid (∀ k, k < 192 → (T k).length = 64) := fun k hk => by rw [hT]; show (up _).length = 64; rw [up_len, (HSEC.out k hk).1]
  have HEND : Hid (areaT s.last a = (List.range 192).map T) := by unfold Hid; rw [hT]; rfl
  have HRD : Hid (∀ (k : Nat) (W : World), k < 192 → Below w.heap.size w W → Calls Tryz.prog 106 #[.pointer (some ⟨p, 0, none⟩), .int .i64 ((a * 192 + k : Nat) : Int)] W fun e w' => ∃ A c, e = .returned (.tuple #[.slice A 64 c, .int .i64 0]) ∧ Below W.heap.size W w' ∧ (⟨A, c, T k⟩ : LSec).ok w' w'.heap.size ∧ ∀ b o, A = some ⟨b, o, none⟩ → W.heap.size ≤ b) := by rw [hT]; exact HRD
  clear hT h ho hpe hl ha hnow hok HSEC
  go_enter Tryz.func76, Tryz.ntmps76
  go_wp2
  go_loopw [6, 10] (fun v i wr => ∃ k : Nat, k ≤ 192 ∧ i = .int .i64 k ∧ (∃ A c, v = .slice A k c) ∧ Hid (∃ ps, SecO 54 w wr v ps ∧ ps.length = k ∧ secsB ps = (List.range k).map T)) (fun _ i _ => 192 - (intOf i).toNat)
  case atStart => exact ⟨0, Nat.zero_le _, rfl, ⟨none, 0, rfl⟩, [], HST.out, rfl, rfl⟩
  case round =>
    clear HST
    obtain ⟨k, hk, rfl, ⟨A1, c1, rfl⟩, hR⟩ := hrel
    by_cases hlt : k < 192
    · have k1 : (k : Int) < 192 := by omega
      have k0 : (0 : Int) ≤ (k : Int) := by omega
      obtain ⟨ps, hS, hpl, hps⟩ := hR.out
      have hpos : ∀ q ∈ ps, 0 < q.b.length := fun q hq => by
        have : q.b ∈ secsB ps := List.mem_map.2 ⟨q, hq, rfl⟩
        rw [hps] at this
        obtain ⟨j, hj, e⟩ := List.mem_map.1 this
        have hj := List.mem_range.1 hj
        rw [← e, HTL.out j (by omega)]; decide
      have HPP := Lib.hid hpos
      have HS := Lib.hid hS
      have HPS := Lib.hid hps
      have HPN := Lib.hid hpl
      have HP := Lib.hid (HPL.out k wr hlt)
      have HR := Lib.hid (HRD.out k wr hlt hS.below)
      have HTK := Lib.hid (HTL.out k hlt)
      have HROW : Hid (∀ W, Below wr.heap.size wr W → W.ownsRow w.heap.size 54 1 (.slice A1 k c1) k (ps.map vsecV)) := fun W hb => by have := (hS.later hb).row; rwa [hpl] at this
      have hsz := hS.below.size
      clear hR hS hps hpl hpos HPL HRD HTL HEND
      obtain ⟨pk, hpk⟩ : ∃ x : Int, x = ((a * 192 + k : Nat) : Int) := ⟨_, rfl⟩
      rw [← hpk] at HP HR
      clear hpk
      go_wp2_with (first
        | (go_at_call 82; with_reducible (refine Calls.mono HP.out ?_); rintro e w1 ⟨rfl, rfl⟩)
        | (go_at_call 106; with_reducible (refine Calls.mono HR.out ?_); rintro e w2 ⟨A2, c2, rfl, hb2, hok2, hnew2⟩; have HO2 := Lib.hid hok2; have HN2 := Lib.hid hnew2; have HB2 := Lib.hid hb2; have how := HROW.out w2 hb2; have hsz2 := Nat.le_trans hsz hb2.size; clear hok2 hnew2 hb2)
        | (at_builtin; refine wpList_append_own_at _ rfl _ _ 126 rfl w.heap.size 54 i1 (.slice none 0 0) 1 24 Tryz.underlying126 hf1 hz10 hz11 hz12 rfl (by decide) _ _ _ rfl (how.alloc _) ⟨w2.heap.size, 0, none⟩ 1 1 [.slice A2 64 c2] rfl rfl (cell_one_new _ _ _) ?d1 ?d2 ?d3 ?d4 ?_))
      case d1 => intro u hu; simp at hu; subst hu; rfl
      case d2 => unfold maxLen; omega
      case d3 => omega
      case d4 => simp; omega
      intro v5 w5 hown5 hg5 _ hob5
      obtain ⟨A5, c5, rfl⟩ := own_slice hown5
      have R9 : Hid (∃ ps, SecO 54 w w5 (.slice A5 (k + 1) c5) ps ∧ ps.length = k + 1 ∧ secsB ps = (List.range (k + 1)).map T) := by
        have hv : vsecV ⟨A2, c2, T k⟩ = .slice A2 64 c2 := by unfold vsecV; rw [HTK.out]
        refine ⟨ps ++ [⟨A2, c2, T k⟩], HS.out.push HB2.out HO2.out (fun q hq => ?_) HN2.out _ _ (by rw [HPN.out, hv]; exact hown5) hg5 (hob5.imp id fun q => by rw [q]; simp), by rw [List.length_append, HPN.out]; rfl, ?_⟩
        · rcases List.mem_append.1 hq with hq | hq
          · exact HPP.out q hq
          · rw [List.mem_singleton.1 hq]; show 0 < (T k).length; rw [HTK.out]; decide
        · have := HPS.out
          unfold secsB at this ⊢
          rw [List.map_append, this, List.range_succ, List.map_append]; rfl
      clear hown5 hg5 hob5 how HS HPP HPS HPN HO2 HN2 HB2 HROW HP HR HTK
      go_wp2
      go_roundw
      case rel => first | exact ⟨k + 1, by omega, by go_num, ⟨A5, c5, rfl⟩, R9⟩ | ((repeat apply Exists.intro); exact ⟨⟨k + 1, by omega, by go_num, ⟨A5, c5, rfl⟩, R9⟩, rfl⟩)
      case measure => first | (simp [intOf]; done) | (simp [intOf]; omega)
    · have hk9 : k = 192 := by omega
      subst hk9
      have k1 : ¬ ((192 : Nat) : Int) < 192 := by omega
      clear HPL HRD HTL
      go_wp2
      go_ret2
      obtain ⟨ps, hS, hpl, hps⟩ := hR.out
      rw [← hpl] at hS
      have hle := own_le hS.row
      rw [hpl] at hle
      exact ⟨A1, c1, rfl, hle, ps, hpl, hS.secs, by rw [hps, HEND.out], hS.below⟩
end

end Go.Proofs.YtbnhkplhmanmoaaGreat

namespace Go.Proofs.YtbnhkplhmanmoaaGreat
open Go.RowKit

theorem u32_x (a b : Nat) (ha : a < 2 ^ 32) (hb : b < 2 ^ 32) : bits .xor .u32 (a : Int) (b : Int) = ((a ^^^ b : Nat) : Int) := u32_xor_nat a b (by omega) (by omega)

theorem inv_bits (s : Nat) (hs : s < 2 ^ 32) : bits .xor .u32 IntKind.u32.max (s : Int) = ((inv32 s : Nat) : Int) := by
  rw [show IntKind.u32.max = ((4294967295 : Nat) : Int) from rfl, u32_x _ _ (by decide) hs, inv32_xor hs, Nat.xor_comm]
theorem nb_take_snoc (zs : List Int) (k : Nat) (h : k < zs.length) : nb (zs.take (k + 1)) = nb (zs.take k) ++ [(zs.getD k 0).toNat] := by
  rw [take_snoc zs k h]; simp [nb]
theorem bitStep_odd {r : Nat} (h : r % 2 = 1) : bitStep r = r / 2 ^^^ crcPoly := by unfold bitStep; rw [if_pos h]
theorem bitStep_even {r : Nat} (h : r % 2 = 0) : bitStep r = r / 2 := by unfold bitStep; rw [if_neg (by omega)]

end Go.Proofs.YtbnhkplhmanmoaaGreat

namespace Go.Proofs.YtbnhkplhmanmoaaGreat
open Go.RowKit

theorem Tryz.infoU8L : (Tryz.prog.info? 5).map (fun i => (i.zero, i.size, i.bytes)) = some (some (.int .u8 0), 1, 1) := by kernel_rfl

theorem pow_le6 (s : Nat) (h : s ≤ 6) : (256 : Int) ^ s ≤ 281474976710656 := by
  have : s = 0 ∨ s = 1 ∨ s = 2 ∨ s = 3 ∨ s = 4 ∨ s = 5 ∨ s = 6 := by omega
  rcases this with h | h | h | h | h | h | h <;> subst h <;> decide
end Go.Proofs.YtbnhkplhmanmoaaGreat

namespace Go.Proofs.YtbnhkplhmanmoaaGreat
open Go.RowKit

/-- The cells of a line, and of its record. -/
theorem ln_cells {W W' : World} {q : Nat} {l : Ln} {t : TypeId} (h : W.heap[q]? = some (.cells (lnV l) t (0, 0))) (hb : Below W.heap.size W W') :
    W'.cell? ⟨q, 0, none⟩ = some (.int .i64 l.g) ∧ W'.cell? ⟨q, 1, none⟩ = some (.int .i64 l.s) ∧ W'.cell? ⟨q, 2, none⟩ = some (.bool l.last) ∧ W'.rangeAt q 3 (rcV l.r).toList := by
  have h := (hb.block q (Array.getElem?_eq_some_iff.1 h).1).trans h
  refine ⟨?_, ?_, ?_, ?_⟩
  · rw [cell_of_row _ _ _ _ _ _ h]; rfl
  · rw [cell_of_row _ _ _ _ _ _ h]; rfl
  · rw [cell_of_row _ _ _ _ _ _ h]; rfl
  · intro j v hj
    rw [cell_of_row _ _ _ _ _ _ h]
    match j, hj with
    | 0, hj => exact hj
    | 1, hj => exact hj
    | 2, hj => exact hj
    | 3, hj => exact hj
    | 4, hj => exact hj
    | 5, hj => exact hj
    | j + 6, hj => simp [rcV] at hj
theorem rc_cells {W W' : World} {q : Nat} {r : Rc} {t : TypeId} (h : W.heap[q]? = some (.cells (rcV r) t (0, 0))) (hb : Below W.heap.size W W') :
    W'.cell? ⟨q, 0, none⟩ = some (.int .i64 r.k) ∧ W'.cell? ⟨q, 1, none⟩ = some (.int .i64 r.a) ∧ W'.cell? ⟨q, 2, none⟩ = some (.int .i64 r.b) ∧ W'.cell? ⟨q, 3, none⟩ = some (.int .i64 r.c) ∧ W'.cell? ⟨q, 4, none⟩ = some (.int .i64 r.d) ∧ W'.cell? ⟨q, 5, none⟩ = some (.string r.key) := by
  have h := (hb.block q (Array.getElem?_eq_some_iff.1 h).1).trans h
  refine ⟨?_, ?_, ?_, ?_, ?_, ?_⟩ <;> (rw [cell_of_row _ _ _ _ _ _ h]; rfl)
theorem Tryz.infoRec : (Tryz.prog.info? 56).map (·.size) = some 6 := by kernel_rfl
theorem rcV_one (r : Rc) : (rcV r).all (·.oneCell') = true := by simp [rcV, Value.oneCell']

theorem strCells_keyI (s : ByteArray) : Lib.strCells s = (keyI s).map (Value.int .u8) := by
  unfold Lib.strCells keyI; rw [List.map_map]; rfl
/-- Which number is the first one out of range. -/
theorem range_first {l : Ln} (h : rangeL l = false) : (inN l.g 2147483647 = false) ∨ (inN l.g 2147483647 = true ∧ inN l.s 2147483647 = false) ∨ (inN l.g 2147483647 = true ∧ inN l.s 2147483647 = true ∧ inN l.r.k 9 = false) ∨ (inN l.g 2147483647 = true ∧ inN l.s 2147483647 = true ∧ inN l.r.k 9 = true ∧ inN l.r.a 1099511627776 = false) ∨ (inN l.g 2147483647 = true ∧ inN l.s 2147483647 = true ∧ inN l.r.k 9 = true ∧ inN l.r.a 1099511627776 = true ∧ inN l.r.b 1099511627776 = false) ∨ (inN l.g 2147483647 = true ∧ inN l.s 2147483647 = true ∧ inN l.r.k 9 = true ∧ inN l.r.a 1099511627776 = true ∧ inN l.r.b 1099511627776 = true ∧ inN l.r.c 1099511627776 = false) ∨ (inN l.g 2147483647 = true ∧ inN l.s 2147483647 = true ∧ inN l.r.k 9 = true ∧ inN l.r.a 1099511627776 = true ∧ inN l.r.b 1099511627776 = true ∧ inN l.r.c 1099511627776 = true ∧ inN l.r.d 1099511627776 = false) := by
  unfold rangeL at h
  cases h0 : inN l.g 2147483647
  · exact .inl rfl
  cases h1 : inN l.s 2147483647
  · exact .inr (.inl ⟨rfl, rfl⟩)
  cases h2 : inN l.r.k 9
  · exact .inr (.inr (.inl ⟨rfl, rfl, rfl⟩))
  cases h3 : inN l.r.a 1099511627776
  · exact .inr (.inr (.inr (.inl ⟨rfl, rfl, rfl, rfl⟩)))
  cases h4 : inN l.r.b 1099511627776
  · exact .inr (.inr (.inr (.inr (.inl ⟨rfl, rfl, rfl, rfl, rfl⟩))))
  cases h5 : inN l.r.c 1099511627776
  · exact .inr (.inr (.inr (.inr (.inr (.inl ⟨rfl, rfl, rfl, rfl, rfl, rfl⟩)))))
  cases h6 : inN l.r.d 1099511627776
  · exact .inr (.inr (.inr (.inr (.inr (.inr (⟨rfl, rfl, rfl, rfl, rfl, rfl, rfl⟩))))))
  rw [h0, h1, h2, h3, h4, h5, h6] at h
  cases h

end Go.Proofs.YtbnhkplhmanmoaaGreat

namespace Go.Proofs.YtbnhkplhmanmoaaGreat
open Go.RowKit

/-- A step more of what is written. -/
def nextX (X : List Int) (n : Int) (s : Nat) : List Int := X ++ bytesOf n s
theorem nextX_len (X : List Int) (n : Int) (s : Nat) : (nextX X n s).length = X.length + s := by unfold nextX; rw [List.length_append, bytesOf_len]
end Go.Proofs.YtbnhkplhmanmoaaGreat

namespace Go.Proofs.YtbnhkplhmanmoaaGreat
open Go.RowKit

def zeroV : Array Value := #[.int .i64 0, .int .i64 0, .bool false, .int .i64 0, .int .i64 0, .int .i64 0, .int .i64 0, .int .i64 0, .string ⟨#[]⟩]
theorem Ints.subAt {w : World} {B b o : Nat} {zs : List Int} (h : Ints w B .u8 (some ⟨b, o, none⟩) zs) {i j : Nat} (hij : i < j) (hj : j ≤ zs.length) : Ints w B .u8 (some ⟨b, o + i, none⟩) (sub zs i j) := fun k hk => by
  have hl : (sub zs i j).length = j - i := by unfold sub; rw [List.length_take, List.length_drop]; omega
  rw [hl] at hk
  obtain ⟨b', o', e, hb, hc⟩ := h (i + k) (by omega)
  injection e with e
  injection e with e1 e2
  subst e1 e2
  refine ⟨b, o + i, rfl, hb, ?_⟩
  rw [Nat.add_assoc, hc]
  unfold sub
  simp [List.getD, List.getElem?_drop, hk]
theorem sub_len {zs : List Int} {i j : Nat} (hij : i ≤ j) (hj : j ≤ zs.length) : (sub zs i j).length = j - i := by unfold sub; rw [List.length_take, List.length_drop]; omega
theorem sub_mem {zs : List Int} (hz : ∀ z ∈ zs, 0 ≤ z ∧ z ≤ 255) (i j : Nat) : ∀ z ∈ sub zs i j, 0 ≤ z ∧ z ≤ 255 := fun z h => hz z (List.mem_of_mem_drop (List.mem_of_mem_take h))

theorem results_row_tmpL {P : Program} {fn : Func} {p u : Tmp} {ty : TypeId} (h : fn.results = #[.cell p ty, .tmp u]) (tmps : Array Value) (w : World) (g : Nat) (t : TypeId) (cs : Array Value) (fr : Nat × Nat) (d : TypeDesc)
    (hp : tmps.getD p undef = .pointer (some ⟨g, 0, none⟩)) (hg : w.heap[g]? = some (.cells cs t fr))
    (hu : P.underlying ty = some d) (hd : (match d with | .struct _ | .array _ _ => true | _ => false) = true) (hi : (P.info? ty).map (·.size) = some cs.size) :
    (results fn tmps).run P w = .ok (.tuple #[.agg cs, tmps.getD u undef]) w := by
  have hp' : tmps[p]?.getD undef = .pointer (some ⟨g, 0, none⟩) := by simpa using hp
  simp [results, h, hp', asAddr, run_loadVar_row w g t ty cs fr d hg hu hd hi]
theorem Tryz.infoLine : (Tryz.prog.info? 135).map (·.size) = some 9 := by kernel_rfl
theorem lnV_one (l : Ln) : (lnV l).all (·.oneCell') = true := by simp [lnV, Value.oneCell']
theorem lnV_zero : lnV zeroL = zeroV := rfl

end Go.Proofs.YtbnhkplhmanmoaaGreat
