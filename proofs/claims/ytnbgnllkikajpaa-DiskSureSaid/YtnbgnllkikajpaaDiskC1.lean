/-
  The landed disk: what a disk is in memory (DiskRep): its struct, its map of what lasts, its map of the newest writes, its row of pending writes.
-/
import Derived.Test.YtnbgnllkikajpaaDiskAsk
import Derived.Maps.OwnSet
namespace Go.Proofs.Ytnbgnllkikajpaa
open Go.RowKit
open Go.Maps (IsMap Tidy atKey_put_same atKey_put_other has_put_same has_put_other atKey_del_same atKey_del_other has_del_same has_del_other)

/-- A sector, as a value. -/
def secV (t : List Nat) : Value := .agg (BA t)
/-- A write's cells. -/
def wrV (q : Nat × List Nat) : List Value := (BA q.2).toList ++ [.int .i64 (q.1 : Int)]
def pendC (ps : List (Nat × List Nat)) : List Value := ps.flatMap wrV
theorem pendC_app (ps : List (Nat × List Nat)) (q : Nat × List Nat) : pendC (ps ++ [q]) = pendC ps ++ wrV q := by simp [pendC]
/-- A map's value is what it is. -/
def heldElem (v : Value) : Option (DataW Value × List MemPlace) := some (.held v, [])

theorem isKey (x : Int) : WideAt.IsKeyLit (.int .i64 x) := by first | trivial | simp [WideAt.IsKeyLit]
theorem key_ne {x y : Int} (h : x ≠ y) : (Lit.int .i64 x) ≠ .int .i64 y := fun e => by injection e with _ e; exact h e

/-- Numbers below N, none twice: no more than N. -/
theorem few_of : ∀ (N : Nat) (l : List Int), l.Nodup → (∀ x ∈ l, 0 ≤ x ∧ x < (N : Int)) → l.length ≤ N
  | 0, [], _, _ => Nat.le_refl _
  | 0, x :: l, _, h => by have := h x (List.mem_cons_self ..); omega
  | N + 1, l, hn, h => by
    by_cases hm : (N : Int) ∈ l
    · have h1 := few_of N (l.erase (N : Int)) (hn.erase _) (fun x hx => by
        have hx1 := (hn.mem_erase_iff).1 hx
        have := h x hx1.2
        have h3 := hx1.1
        omega)
      rw [List.length_erase_of_mem hm] at h1
      omega
    · have h1 := few_of N l hn (fun x hx => by
        have := h x hx
        have h3 : x ≠ (N : Int) := fun e => hm (e ▸ hx)
        omega)
      omega
def keyInt : Lit → Int
  | .int _ x => x
  | _ => 0
def okKey (N : Nat) : Lit → Bool
  | .int .i64 x => decide (0 ≤ x ∧ x < (N : Int))
  | _ => false
theorem okKey_is {N : Nat} {k : Lit} (h : okKey N k = true) : k = .int .i64 (keyInt k) ∧ 0 ≤ keyInt k ∧ keyInt k < (N : Int) := by
  unfold okKey at h
  split at h
  · exact ⟨rfl, of_decide_eq_true h⟩
  · cases h
/-- All its keys are places. -/
def KeysIn (N : Nat) : DataW Value → Prop
  | .map es => es.any (fun p => !okKey N p.1) = false
  | _ => False
theorem KeysIn.put {N : Nat} {D : DataW Value} (h : KeysIn N D) {k : Lit} (hk : okKey N k = true) (d : DataW Value) : KeysIn N (D.put k d) := by
  cases D with
  | map es =>
    show (DataW.insert (k, d) (es.filter fun p => !p.1.sameKey k)).any _ = false
    rw [Maps.any_insert]
    have h1 : (es.filter fun p => !p.1.sameKey k).any (fun p => !okKey N p.1) = false := by
      rw [List.any_eq_false] at *
      exact fun p hp => (List.any_eq_false.1 h) p (List.mem_filter.1 hp).1
    rw [h1]; simp [hk]
  | _ => exact h.elim
theorem KeysIn.del {N : Nat} {D : DataW Value} (h : KeysIn N D) (k : Lit) : KeysIn N (D.del k) := by
  cases D with
  | map es =>
    show (es.filter fun p => !p.1.sameKey k).any _ = false
    rw [List.any_eq_false]
    exact fun p hp => (List.any_eq_false.1 h) p (List.mem_filter.1 hp).1
  | _ => exact h.elim
theorem KeysIn.size {N : Nat} {D : DataW Value} (h : KeysIn N D) (hD : Tidy D) : Maps.size D ≤ N := by
  obtain ⟨es, rfl, hp⟩ := hD
  have hk : ∀ p ∈ es, okKey N p.1 = true := fun p hpm => by
    have := (List.any_eq_false.1 h) p hpm
    simpa using this
  have h1 := few_of N (es.map fun p => keyInt p.1) (by
    show List.Pairwise _ _
    rw [List.pairwise_map]
    refine List.Pairwise.imp_of_mem ?_ hp
    intro a b ha hb hne e
    exact hne (by rw [(okKey_is (hk a ha)).1, (okKey_is (hk b hb)).1, e])) (fun x hx => by
    obtain ⟨p, hp1, rfl⟩ := List.mem_map.1 hx
    exact (okKey_is (hk p hp1)).2)
  rw [List.length_map] at h1
  exact h1

/-- The map says of each sector what lasts there. -/
structure SecMap (D : DataW Value) (l : List (List Nat)) : Prop where
  here : ∀ i, i < l.length → D.atKey (.int .i64 (i : Int)) (.held (secV zeroSec)) = .held (secV (l.getD i []))
  keys : KeysIn l.length D
theorem secMap_none (n : Nat) : SecMap (.map []) (List.replicate n zeroSec) := ⟨fun i hi => by
  have : i < n := by simpa using hi
  rw [List.getD_eq_getElem?_getD, List.getElem?_replicate, if_pos this]; rfl, rfl⟩
section
variable {D : DataW Value} {l : List (List Nat)}
theorem SecMap.put (h : SecMap D l) (hD : IsMap D) {i : Nat} (hi : i < l.length) (t : List Nat) : SecMap (D.put (.int .i64 (i : Int)) (.held (secV t))) (l.set i t) := by
  refine ⟨fun j hj => ?_, by rw [List.length_set]; exact h.keys.put (by show decide _ = true; exact decide_eq_true ⟨by omega, by omega⟩) _⟩
  rw [List.length_set] at hj
  rw [set_getD _ _ _ _ hj]
  by_cases e : i = j
  · subst e
    rw [if_pos rfl]
    exact atKey_put_same hD (isKey _) _ _
  · rw [if_neg e, atKey_put_other (key_ne (by omega))]
    exact h.here j hj
theorem SecMap.del (h : SecMap D l) {i : Nat} : SecMap (D.del (.int .i64 (i : Int))) (l.set i zeroSec) := by
  refine ⟨fun j hj => ?_, by rw [List.length_set]; exact h.keys.del _⟩
  rw [List.length_set] at hj
  rw [set_getD _ _ _ _ hj]
  by_cases e : i = j
  · subst e
    rw [if_pos rfl]
    exact atKey_del_same _
  · rw [if_neg e, atKey_del_other (key_ne (by omega))]
    exact h.here j hj
end

/-- The map says of each sector where its newest write is. -/
def NewMap (D : DataW Unit) (ps : List (Nat × List Nat)) : Prop := ∀ i : Nat,
  (Maps.has D (.int .i64 (i : Int)) = false ∧ ∀ t, seenP i ps t = t) ∨
  ∃ j, j < ps.length ∧ Maps.has D (.int .i64 (i : Int)) = true ∧ D.atKey (.int .i64 (i : Int)) (.lit (.int .i64 0)) = .lit (.int .i64 (j : Int)) ∧ ∀ t, seenP i ps t = (ps.getD j (0, [])).2
theorem newMap_none : NewMap (.map []) [] := fun _ => .inl ⟨rfl, fun _ => rfl⟩
theorem NewMap.put {D : DataW Unit} {ps : List (Nat × List Nat)} (h : NewMap D ps) (hD : IsMap D) (n : Nat) (t : List Nat) : NewMap (D.put (.int .i64 (n : Int)) (.lit (.int .i64 (ps.length : Int)))) (ps ++ [(n, t)]) := fun i => by
  by_cases e : n = i
  · subst e
    refine .inr ⟨ps.length, by simp, has_put_same hD (isKey _) _, atKey_put_same hD (isKey _) _ _, fun u => ?_⟩
    rw [seenP_app, if_pos rfl, List.getD_eq_getElem?_getD, List.getElem?_append_right (Nat.le_refl _)]
    simp
  · have hne := key_ne (x := (i : Int)) (y := (n : Int)) (by omega)
    rw [has_put_other hne, atKey_put_other hne]
    rcases h i with ⟨h1, h2⟩ | ⟨j, hj, h1, h2, h3⟩
    · exact .inl ⟨h1, fun u => by rw [seenP_app, if_neg e]; exact h2 u⟩
    · refine .inr ⟨j, by rw [List.length_append]; omega, h1, h2, fun u => ?_⟩
      rw [seenP_app, if_neg e, h3 u, List.getD_eq_getElem?_getD, List.getD_eq_getElem?_getD, List.getElem?_append_left hj]

theorem Try.undMapN : Try.prog.underlying 57 = some (.map 3 3) := by kernel_rfl
theorem Try.undMapL : Try.prog.underlying 56 = some (.map 3 65) := by kernel_rfl
theorem Try.undIntD : Try.prog.underlying 3 = some (.int .i64) := by kernel_rfl
theorem keyD : Maps.Keyed Try.prog 3 := Maps.int_keyed Try.undIntD
theorem zeroN (w : World) : (zeroValue 3).run Try.prog w = .ok (.int .i64 0) w := by kernel_rfl
theorem Try.infoSec : (Try.prog.info? 65).map (fun i => (i.zero, i.size)) = some (some (secV zeroSec), 64) := by kernel_rfl
theorem zeroL (w : World) : (zeroValue 65).run Try.prog w = .ok (secV zeroSec) w := (zero_of_info Try.infoSec).1 w
theorem keyOfD {x : Int} (h : I64c x) : keyOf Try.prog 3 (.int .i64 x) = some (.int .i64 x) := Maps.keyOf_int_mk Try.undIntD (by unfold I64c at h; simp [Lit.wf, IntKind.min, IntKind.max, IntKind.signed, IntKind.bits]; omega)

/-- What a disk is in memory. -/
structure DiskIn (w : World) (p gl gn : Nat) (V : Value) (z : Int) (DL : DataW Value) (DN : DataW Unit) (s : Dk) : Prop where
  ok : s.ok
  box : w.heap[p]? = some (.cells #[.int .i64 (s.last.length : Int), .map (some gl), V, .map (some gn), .int .i64 z, .bool s.off] 60 (0, 0))
  last : w.ownsMap Try.prog 3 heldElem gl (Maps.size DL) DL
  lsays : SecMap DL s.last
  new : w.ownsMap Try.prog 3 (plainElem Try.prog 3) gn s.pend.length DN
  nsays : NewMap DN s.pend
  pend : w.ownsRow 0 67 65 V s.pend.length (pendC s.pend)
  lim : (s.lim = none ∧ z < 0) ∨ ∃ m : Nat, s.lim = some m ∧ z = (m : Int)
  zi : I64c z
  a1 : p ≠ gl ∧ p ≠ gn ∧ gl ≠ gn
  a2 : V.ownBlock ≠ some p ∧ V.ownBlock ≠ some gl ∧ V.ownBlock ≠ some gn
def ownD (p gl gn : Nat) (V : Value) (b : Nat) : Prop := b = p ∨ b = gl ∨ b = gn ∨ V.ownBlock = some b
def DiskRep (w : World) (p : Nat) (F : Nat → Prop) (s : Dk) : Prop := ∃ gl gn V z DL DN, F = ownD p gl gn V ∧ DiskIn w p gl gn V z DL DN s

theorem mapTight {H : Type} {k : TypeId} {R : Value → Option (DataW H × List MemPlace)} {w : World} {P : Program} {b n : Nat} {D : DataW H} (h : w.ownsMap P k R b n D) : w.ownsMap P k R b (Maps.size D) D := by
  obtain ⟨es, clock, hb, F, hs, rfl⟩ := h
  exact ⟨es, clock, hb, F, by simp [Maps.size, length_sorted], rfl⟩
theorem mapHeap {H : Type} {k : TypeId} {R : Value → Option (DataW H × List MemPlace)} {w w' : World} {P : Program} {b n : Nat} {D : DataW H} (h : w.ownsMap P k R b n D) (he : w'.heap[b]? = w.heap[b]?) : w'.ownsMap P k R b n D := by
  obtain ⟨es, clock, hb, r⟩ := h
  exact ⟨es, clock, he.trans hb, r⟩
section
variable {w w' : World} {p gl gn : Nat} {V : Value} {z : Int} {DL : DataW Value} {DN : DataW Unit} {s : Dk}
theorem own_p : ownD p gl gn V p := .inl rfl
theorem own_l : ownD p gl gn V gl := .inr (.inl rfl)
theorem own_n : ownD p gl gn V gn := .inr (.inr (.inl rfl))
theorem DiskIn.keep (h : DiskIn w p gl gn V z DL DN s) (hk : ∀ b, ownD p gl gn V b → w'.heap[b]? = w.heap[b]?) : DiskIn w' p gl gn V z DL DN s :=
  ⟨h.ok, (hk p own_p).trans h.box, mapHeap h.last (hk gl own_l), h.lsays, mapHeap h.new (hk gn own_n), h.nsays, own_same h.pend (fun g e => hk g (.inr (.inr (.inr e)))), h.lim, h.zi, h.a1, h.a2⟩
theorem DiskIn.lt (h : DiskIn w p gl gn V z DL DN s) (b : Nat) (hb : ownD p gl gn V b) : b < w.heap.size := by
  rcases hb with e | e | e | e
  · rw [e]; exact (Array.getElem?_eq_some_iff.1 h.box).1
  · rw [e]; exact h.last.lt
  · rw [e]; exact h.new.lt
  · exact (h.pend.lt b e).2
theorem DiskIn.later (h : DiskIn w p gl gn V z DL DN s) (hb : Below w.heap.size w w') : DiskIn w' p gl gn V z DL DN s := h.keep fun b q => hb.block b (h.lt b q)
theorem disk_keep (w w' : World) (p : Nat) (F : Nat → Prop) (s : Dk) (h : DiskRep w p F s) (hk : ∀ b, F b → w'.heap[b]? = w.heap[b]?) : DiskRep w' p F s := by
  obtain ⟨gl, gn, V, z, DL, DN, e, hi⟩ := h
  exact ⟨gl, gn, V, z, DL, DN, e, hi.keep (fun b q => hk b (by rw [e]; exact q))⟩
theorem disk_lt (w : World) (p : Nat) (F : Nat → Prop) (s : Dk) (h : DiskRep w p F s) (b : Nat) (hb : F b) : b < w.heap.size := by
  obtain ⟨gl, gn, V, z, DL, DN, e, hi⟩ := h
  exact hi.lt b (by rw [← e]; exact hb)
/-- The struct's cells. -/
theorem DiskIn.cells (h : DiskIn w p gl gn V z DL DN s) : w.cell? ⟨p, 0, none⟩ = some (.int .i64 (s.last.length : Int)) ∧ w.cell? ⟨p, 1, none⟩ = some (.map (some gl)) ∧ w.cell? ⟨p, 2, none⟩ = some V ∧ w.cell? ⟨p, 3, none⟩ = some (.map (some gn)) ∧ w.cell? ⟨p, 4, none⟩ = some (.int .i64 z) ∧ w.cell? ⟨p, 5, none⟩ = some (.bool s.off) :=
  ⟨cell_of_row _ _ _ _ _ _ h.box, cell_of_row _ _ _ _ _ _ h.box, cell_of_row _ _ _ _ _ _ h.box, cell_of_row _ _ _ _ _ _ h.box, cell_of_row _ _ _ _ _ _ h.box, cell_of_row _ _ _ _ _ _ h.box⟩
theorem DiskIn.thaw (h : DiskIn w p gl gn V z DL DN s) (i : Nat) : w.frozen? ⟨p, i, none⟩ = false := frozen_of_row _ _ _ _ _ h.box
theorem DiskIn.len (h : DiskIn w p gl gn V z DL DN s) : ∃ A c, V = .slice A s.pend.length c ∧ s.pend.length ≤ c ∧ c ≤ maxLen := by
  rcases h.pend.2 with ⟨e, h0⟩ | ⟨g, cap, cur, e, _, _, h1, h2, _⟩
  · exact ⟨none, 0, by rw [h0]; exact e, by omega, Nat.zero_le _⟩
  · exact ⟨_, cap, e, h1, h2⟩
/-- The limit, or the darkness, turns. -/
theorem DiskIn.turn (h : DiskIn w p gl gn V z DL DN s) (z' : Int) (o : Bool) (l' : Option Nat) (hl : (l' = none ∧ z' < 0) ∨ ∃ m : Nat, l' = some m ∧ z' = (m : Int)) (hz : I64c z') (hb : w'.heap[p]? = some (.cells #[.int .i64 (s.last.length : Int), .map (some gl), V, .map (some gn), .int .i64 z', .bool o] 60 (0, 0))) (hk : ∀ b, b ≠ p → w'.heap[b]? = w.heap[b]?) :
    DiskIn w' p gl gn V z' DL DN ⟨s.last, s.pend, l', o⟩ :=
  ⟨⟨h.ok.pos, h.ok.le, h.ok.sec, h.ok.pen⟩, hb, mapHeap h.last (hk gl (Ne.symm h.a1.1)), h.lsays, mapHeap h.new (hk gn (Ne.symm h.a1.2.1)), h.nsays, own_same h.pend (fun g e => hk g (fun e2 => h.a2.1 (e2 ▸ e))), hl, hz, h.a1, h.a2⟩
end

end Go.Proofs.Ytnbgnllkikajpaa
