/-
  The landed disk: what a disk is in memory (DiskRep): its struct, its map of what lasts, its map of the newest writes, its row of pending writes. The landed disk: demand, has, spend, bytes; attempt. 'v, ok := m[x]' of a map from integers to integers, what is there told. No program is spoken of here.
-/
import Derived.Test.YtbnhkplhmanmoaaGreatDiskAskG
import Derived.Maps.OwnSet
import Derived.Tactics
import Derived.Tactics2
import Derived.Defers
import Derived.Recover
import Derived.Laws.Pointers
import Derived.OpenShut
import Derived.WalkLawsBesides
import Derived.BigQuiet
import Derived.Shelf.RegionOpenPlain
import Derived.Deep.WholeRow
import Derived.Test.YtbnhkplhmanmoaaGreatWordsG
namespace Go.Proofs.YtbnhkplhmanmoaaGreat
open Go.RowKit
open Go.Maps (IsMap Tidy atKey_put_same atKey_put_other has_put_same has_put_other atKey_del_same atKey_del_other has_del_same has_del_other)

/-- A sector, as a value. -/
def secV (t : List Nat) : Value := .agg (BA t)
/-- A write's cells. -/
def wrV (q : Nat × List Nat) : List Value := (BA q.2).toList ++ [.int .i64 (q.1 : Int)]
def pendC (ps : List (Nat × List Nat)) : List Value := ps.flatMap wrV
theorem pendC_app (ps : List (Nat × List Nat)) (q : Nat × List Nat) : pendC (ps ++ [q]) = pendC ps ++ wrV q := by simp [pendC]
/-- A map's value is what it is. -/
def heldElem (v : Value) : Option (DataW Value × List MemPlace) := some (.held v, [])

theorem isKey (x : Int) : WideAt.IsKeyLit (.int .i64 x) := by first | trivial | simp [WideAt.IsKeyLit]
theorem key_ne {x y : Int} (h : x ≠ y) : (Lit.int .i64 x) ≠ .int .i64 y := fun e => by injection e with _ e; exact h e

/-- Numbers below N, none twice: no more than N. -/
theorem few_of : ∀ (N : Nat) (l : List Int), l.Nodup → (∀ x ∈ l, 0 ≤ x ∧ x < (N : Int)) → l.length ≤ N
  | 0, [], _, _ => Nat.le_refl _
  | 0, x :: l, _, h => by have := h x (List.mem_cons_self ..); omega
  | N + 1, l, hn, h => by
    by_cases hm : (N : Int) ∈ l
    · have h1 := few_of N (l.erase (N : Int)) (hn.erase _) (fun x hx => by
        have hx1 := (hn.mem_erase_iff).1 hx
        have := h x hx1.2
        have h3 := hx1.1
        omega)
      rw [List.length_erase_of_mem hm] at h1
      omega
    · have h1 := few_of N l hn (fun x hx => by
        have := h x hx
        have h3 : x ≠ (N : Int) := fun e => hm (e ▸ hx)
        omega)
      omega
def keyInt : Lit → Int
  | .int _ x => x
  | _ => 0
def okKey (N : Nat) : Lit → Bool
  | .int .i64 x => decide (0 ≤ x ∧ x < (N : Int))
  | _ => false
theorem okKey_is {N : Nat} {k : Lit} (h : okKey N k = true) : k = .int .i64 (keyInt k) ∧ 0 ≤ keyInt k ∧ keyInt k < (N : Int) := by
  unfold okKey at h
  split at h
  · exact ⟨rfl, of_decide_eq_true h⟩
  · cases h
/-- All its keys are places. -/
def KeysIn (N : Nat) : DataW Value → Prop
  | .map es => es.any (fun p => !okKey N p.1) = false
  | _ => False
theorem KeysIn.put {N : Nat} {D : DataW Value} (h : KeysIn N D) {k : Lit} (hk : okKey N k = true) (d : DataW Value) : KeysIn N (D.put k d) := by
  cases D with
  | map es =>
    show (DataW.insert (k, d) (es.filter fun p => !p.1.sameKey k)).any _ = false
    rw [Maps.any_insert]
    have h1 : (es.filter fun p => !p.1.sameKey k).any (fun p => !okKey N p.1) = false := by
      rw [List.any_eq_false] at *
      exact fun p hp => (List.any_eq_false.1 h) p (List.mem_filter.1 hp).1
    rw [h1]; simp [hk]
  | _ => exact h.elim
theorem KeysIn.del {N : Nat} {D : DataW Value} (h : KeysIn N D) (k : Lit) : KeysIn N (D.del k) := by
  cases D with
  | map es =>
    show (es.filter fun p => !p.1.sameKey k).any _ = false
    rw [List.any_eq_false]
    exact fun p hp => (List.any_eq_false.1 h) p (List.mem_filter.1 hp).1
  | _ => exact h.elim
theorem KeysIn.size {N : Nat} {D : DataW Value} (h : KeysIn N D) (hD : Tidy D) : Maps.size D ≤ N := by
  obtain ⟨es, rfl, hp⟩ := hD
  have hk : ∀ p ∈ es, okKey N p.1 = true := fun p hpm => by
    have := (List.any_eq_false.1 h) p hpm
    simpa using this
  have h1 := few_of N (es.map fun p => keyInt p.1) (by
    show List.Pairwise _ _
    rw [List.pairwise_map]
    refine List.Pairwise.imp_of_mem ?_ hp
    intro a b ha hb hne e
    exact hne (by rw [(okKey_is (hk a ha)).1, (okKey_is (hk b hb)).1, e])) (fun x hx => by
    obtain ⟨p, hp1, rfl⟩ := List.mem_map.1 hx
    exact (okKey_is (hk p hp1)).2)
  rw [List.length_map] at h1
  exact h1

/-- The map says of each sector what lasts there. -/
structure SecMap (D : DataW Value) (l : List (List Nat)) : Prop where
  here : ∀ i, i < l.length → D.atKey (.int .i64 (i : Int)) (.held (secV zeroSec)) = .held (secV (l.getD i []))
  keys : KeysIn l.length D
theorem secMap_none (n : Nat) : SecMap (.map []) (List.replicate n zeroSec) := ⟨fun i hi => by
  have : i < n := by simpa using hi
  rw [List.getD_eq_getElem?_getD, List.getElem?_replicate, if_pos this]; rfl, rfl⟩
section
variable {D : DataW Value} {l : List (List Nat)}
theorem SecMap.put (h : SecMap D l) (hD : IsMap D) {i : Nat} (hi : i < l.length) (t : List Nat) : SecMap (D.put (.int .i64 (i : Int)) (.held (secV t))) (l.set i t) := by
  refine ⟨fun j hj => ?_, by rw [List.length_set]; exact h.keys.put (by show decide _ = true; exact decide_eq_true ⟨by omega, by omega⟩) _⟩
  rw [List.length_set] at hj
  rw [set_getD _ _ _ _ hj]
  by_cases e : i = j
  · subst e
    rw [if_pos rfl]
    exact atKey_put_same hD (isKey _) _ _
  · rw [if_neg e, atKey_put_other (key_ne (by omega))]
    exact h.here j hj
theorem SecMap.del (h : SecMap D l) {i : Nat} : SecMap (D.del (.int .i64 (i : Int))) (l.set i zeroSec) := by
  refine ⟨fun j hj => ?_, by rw [List.length_set]; exact h.keys.del _⟩
  rw [List.length_set] at hj
  rw [set_getD _ _ _ _ hj]
  by_cases e : i = j
  · subst e
    rw [if_pos rfl]
    exact atKey_del_same _
  · rw [if_neg e, atKey_del_other (key_ne (by omega))]
    exact h.here j hj
end

/-- The map says of each sector where its newest write is. -/
def NewMap (D : DataW Unit) (ps : List (Nat × List Nat)) : Prop := ∀ i : Nat,
  (Maps.has D (.int .i64 (i : Int)) = false ∧ ∀ t, seenP i ps t = t) ∨
  ∃ j, j < ps.length ∧ Maps.has D (.int .i64 (i : Int)) = true ∧ D.atKey (.int .i64 (i : Int)) (.lit (.int .i64 0)) = .lit (.int .i64 (j : Int)) ∧ ∀ t, seenP i ps t = (ps.getD j (0, [])).2
theorem newMap_none : NewMap (.map []) [] := fun _ => .inl ⟨rfl, fun _ => rfl⟩
theorem NewMap.put {D : DataW Unit} {ps : List (Nat × List Nat)} (h : NewMap D ps) (hD : IsMap D) (n : Nat) (t : List Nat) : NewMap (D.put (.int .i64 (n : Int)) (.lit (.int .i64 (ps.length : Int)))) (ps ++ [(n, t)]) := fun i => by
  by_cases e : n = i
  · subst e
    refine .inr ⟨ps.length, by simp, has_put_same hD (isKey _) _, atKey_put_same hD (isKey _) _ _, fun u => ?_⟩
    rw [seenP_app, if_pos rfl, List.getD_eq_getElem?_getD, List.getElem?_append_right (Nat.le_refl _)]
    simp
  · have hne := key_ne (x := (i : Int)) (y := (n : Int)) (by omega)
    rw [has_put_other hne, atKey_put_other hne]
    rcases h i with ⟨h1, h2⟩ | ⟨j, hj, h1, h2, h3⟩
    · exact .inl ⟨h1, fun u => by rw [seenP_app, if_neg e]; exact h2 u⟩
    · refine .inr ⟨j, by rw [List.length_append]; omega, h1, h2, fun u => ?_⟩
      rw [seenP_app, if_neg e, h3 u, List.getD_eq_getElem?_getD, List.getD_eq_getElem?_getD, List.getElem?_append_left hj]

theorem Tryz.undMapN : Tryz.prog.underlying 59 = some (.map 3 3) := by kernel_rfl
theorem Tryz.undMapL : Tryz.prog.underlying 58 = some (.map 3 103) := by kernel_rfl
theorem Tryz.undIntD : Tryz.prog.underlying 3 = some (.int .i64) := by kernel_rfl
theorem keyD : Maps.Keyed Tryz.prog 3 := Maps.int_keyed Tryz.undIntD
theorem zeroN (w : World) : (zeroValue 3).run Tryz.prog w = .ok (.int .i64 0) w := by kernel_rfl
theorem Tryz.infoSec : (Tryz.prog.info? 103).map (fun i => (i.zero, i.size)) = some (some (secV zeroSec), 64) := by kernel_rfl
theorem zeroLD (w : World) : (zeroValue 103).run Tryz.prog w = .ok (secV zeroSec) w := (zero_of_info Tryz.infoSec).1 w
theorem keyOfD {x : Int} (h : I64c x) : keyOf Tryz.prog 3 (.int .i64 x) = some (.int .i64 x) := Maps.keyOf_int_mk Tryz.undIntD (by unfold I64c at h; simp [Lit.wf, IntKind.min, IntKind.max, IntKind.signed, IntKind.bits]; omega)

/-- What a disk is in memory. -/
structure DiskIn (w : World) (p gl gn : Nat) (V : Value) (z : Int) (DL : DataW Value) (DN : DataW Unit) (s : Dk) : Prop where
  ok : s.ok
  box : w.heap[p]? = some (.cells #[.int .i64 (s.last.length : Int), .map (some gl), V, .map (some gn), .int .i64 z, .bool s.off] 62 (0, 0))
  last : w.ownsMap Tryz.prog 3 heldElem gl (Maps.size DL) DL
  lsays : SecMap DL s.last
  new : w.ownsMap Tryz.prog 3 (plainElem Tryz.prog 3) gn s.pend.length DN
  nsays : NewMap DN s.pend
  pend : w.ownsRow 0 105 65 V s.pend.length (pendC s.pend)
  lim : (s.lim = none ∧ z < 0) ∨ ∃ m : Nat, s.lim = some m ∧ z = (m : Int)
  zi : I64c z
  a1 : p ≠ gl ∧ p ≠ gn ∧ gl ≠ gn
  a2 : V.ownBlock ≠ some p ∧ V.ownBlock ≠ some gl ∧ V.ownBlock ≠ some gn
def ownD (p gl gn : Nat) (V : Value) (b : Nat) : Prop := b = p ∨ b = gl ∨ b = gn ∨ V.ownBlock = some b
def DiskRep (w : World) (p : Nat) (F : Nat → Prop) (s : Dk) : Prop := ∃ gl gn V z DL DN, F = ownD p gl gn V ∧ DiskIn w p gl gn V z DL DN s

theorem mapTight {H : Type} {k : TypeId} {R : Value → Option (DataW H × List MemPlace)} {w : World} {P : Program} {b n : Nat} {D : DataW H} (h : w.ownsMap P k R b n D) : w.ownsMap P k R b (Maps.size D) D := by
  obtain ⟨es, clock, hb, F, hs, rfl⟩ := h
  exact ⟨es, clock, hb, F, by simp [Maps.size, length_sorted], rfl⟩
theorem mapHeap {H : Type} {k : TypeId} {R : Value → Option (DataW H × List MemPlace)} {w w' : World} {P : Program} {b n : Nat} {D : DataW H} (h : w.ownsMap P k R b n D) (he : w'.heap[b]? = w.heap[b]?) : w'.ownsMap P k R b n D := by
  obtain ⟨es, clock, hb, r⟩ := h
  exact ⟨es, clock, he.trans hb, r⟩
section
variable {w w' : World} {p gl gn : Nat} {V : Value} {z : Int} {DL : DataW Value} {DN : DataW Unit} {s : Dk}
theorem own_p : ownD p gl gn V p := .inl rfl
theorem own_l : ownD p gl gn V gl := .inr (.inl rfl)
theorem own_n : ownD p gl gn V gn := .inr (.inr (.inl rfl))
theorem DiskIn.keep (h : DiskIn w p gl gn V z DL DN s) (hk : ∀ b, ownD p gl gn V b → w'.heap[b]? = w.heap[b]?) : DiskIn w' p gl gn V z DL DN s :=
  ⟨h.ok, (hk p own_p).trans h.box, mapHeap h.last (hk gl own_l), h.lsays, mapHeap h.new (hk gn own_n), h.nsays, own_same h.pend (fun g e => hk g (.inr (.inr (.inr e)))), h.lim, h.zi, h.a1, h.a2⟩
theorem DiskIn.lt (h : DiskIn w p gl gn V z DL DN s) (b : Nat) (hb : ownD p gl gn V b) : b < w.heap.size := by
  rcases hb with e | e | e | e
  · rw [e]; exact (Array.getElem?_eq_some_iff.1 h.box).1
  · rw [e]; exact h.last.lt
  · rw [e]; exact h.new.lt
  · exact (h.pend.lt b e).2
theorem DiskIn.later (h : DiskIn w p gl gn V z DL DN s) (hb : Below w.heap.size w w') : DiskIn w' p gl gn V z DL DN s := h.keep fun b q => hb.block b (h.lt b q)
theorem disk_keep (w w' : World) (p : Nat) (F : Nat → Prop) (s : Dk) (h : DiskRep w p F s) (hk : ∀ b, F b → w'.heap[b]? = w.heap[b]?) : DiskRep w' p F s := by
  obtain ⟨gl, gn, V, z, DL, DN, e, hi⟩ := h
  exact ⟨gl, gn, V, z, DL, DN, e, hi.keep (fun b q => hk b (by rw [e]; exact q))⟩
theorem disk_lt (w : World) (p : Nat) (F : Nat → Prop) (s : Dk) (h : DiskRep w p F s) (b : Nat) (hb : F b) : b < w.heap.size := by
  obtain ⟨gl, gn, V, z, DL, DN, e, hi⟩ := h
  exact hi.lt b (by rw [← e]; exact hb)
/-- The struct's cells. -/
theorem DiskIn.cells (h : DiskIn w p gl gn V z DL DN s) : w.cell? ⟨p, 0, none⟩ = some (.int .i64 (s.last.length : Int)) ∧ w.cell? ⟨p, 1, none⟩ = some (.map (some gl)) ∧ w.cell? ⟨p, 2, none⟩ = some V ∧ w.cell? ⟨p, 3, none⟩ = some (.map (some gn)) ∧ w.cell? ⟨p, 4, none⟩ = some (.int .i64 z) ∧ w.cell? ⟨p, 5, none⟩ = some (.bool s.off) :=
  ⟨cell_of_row _ _ _ _ _ _ h.box, cell_of_row _ _ _ _ _ _ h.box, cell_of_row _ _ _ _ _ _ h.box, cell_of_row _ _ _ _ _ _ h.box, cell_of_row _ _ _ _ _ _ h.box, cell_of_row _ _ _ _ _ _ h.box⟩
theorem DiskIn.thaw (h : DiskIn w p gl gn V z DL DN s) (i : Nat) : w.frozen? ⟨p, i, none⟩ = false := frozen_of_row _ _ _ _ _ h.box
theorem DiskIn.len (h : DiskIn w p gl gn V z DL DN s) : ∃ A c, V = .slice A s.pend.length c ∧ s.pend.length ≤ c ∧ c ≤ maxLen := by
  rcases h.pend.2 with ⟨e, h0⟩ | ⟨g, cap, cur, e, _, _, h1, h2, _⟩
  · exact ⟨none, 0, by rw [h0]; exact e, by omega, Nat.zero_le _⟩
  · exact ⟨_, cap, e, h1, h2⟩
/-- The limit, or the darkness, turns. -/
theorem DiskIn.turn (h : DiskIn w p gl gn V z DL DN s) (z' : Int) (o : Bool) (l' : Option Nat) (hl : (l' = none ∧ z' < 0) ∨ ∃ m : Nat, l' = some m ∧ z' = (m : Int)) (hz : I64c z') (hb : w'.heap[p]? = some (.cells #[.int .i64 (s.last.length : Int), .map (some gl), V, .map (some gn), .int .i64 z', .bool o] 62 (0, 0))) (hk : ∀ b, b ≠ p → w'.heap[b]? = w.heap[b]?) :
    DiskIn w' p gl gn V z' DL DN ⟨s.last, s.pend, l', o⟩ :=
  ⟨⟨h.ok.pos, h.ok.le, h.ok.sec, h.ok.pen⟩, hb, mapHeap h.last (hk gl (Ne.symm h.a1.1)), h.lsays, mapHeap h.new (hk gn (Ne.symm h.a1.2.1)), h.nsays, own_same h.pend (fun g e => hk g (fun e2 => h.a2.1 (e2 ▸ e))), hl, hz, h.a1, h.a2⟩
end

end Go.Proofs.YtbnhkplhmanmoaaGreat

namespace Go.Proofs.YtbnhkplhmanmoaaGreat
open Go.RowKit

/-- What is given up with. -/
def upV (c : Int) : List PanicEntry := [{ v := .iface 24 (.int .i64 c), recovered := false }]

theorem demand_ok (c : Int) (w : World) : Calls Tryz.prog 55 #[.bool true, .int .i64 c] w fun e w' => e = .returned (.tuple #[]) ∧ w' = w := by
  have hnot : ∀ (x : Bool) (w : World), (Op.unary .not (.bool x)).run Tryz.prog w = .ok (.bool (!x)) w := fun _ _ => rfl
  go_enter Tryz.func55, Tryz.ntmps55
  go_wp2
  exact bodyPost_end (results_none rfl _ _ _) rfl ⟨rfl, rfl⟩
theorem demand_no (c : Int) (w : World) : Calls Tryz.prog 55 #[.bool false, .int .i64 c] w fun e w' => e = .panicked (upV c) ∧ w' = w := by
  have hnot : ∀ (x : Bool) (w : World), (Op.unary .not (.bool x)).run Tryz.prog w = .ok (.bool (!x)) w := fun _ _ => rfl
  go_enter Tryz.func55, Tryz.ntmps55
  go_wp2
  exact ⟨rfl, rfl, rfl⟩

theorem assertE (c : Int) (w : World) : (Instr.typeAssert (.iface 24 (.int .i64 c)) 20 24 false).run Tryz.prog w = .ok (.int .i64 c) w := by kernel_rfl

theorem catch_up (a : Addr) (x c : Int) (w : World) (hc : w.cell? a = some (.int .i64 x)) (hz : w.frozen? a = false) :
    CallsD Tryz.prog 85 #[.pointer (some a)] (.panicking (upV c)) w fun e u' w' =>
      e = .returned (.tuple #[]) ∧ u' = .panicking [{ v := .iface 24 (.int .i64 c), recovered := true }] ∧ w' = w.setCell a (.int .i64 c) := by
  refine callsD_of_wpS Tryz.func85 rfl fun c₀ cs hu => ?_
  unfold upV at hu
  apply wpS_seq
  apply wpS_region
  simp [wpOpsS, go_sem, recoverD, hu, Tryz.ntmps85, Exit.thenS]
  apply wpS_seq
  apply wpS_region
  simp [wpOpsS, go_sem, Exit.thenS]
  refine wpS_cond (t := true) (by simp [Act.eval, Array.replicate]) ?_
  simp only [if_true]
  apply wpS_region
  simp [wpOpsS, go_sem, assertE, hc, hz, bodyPostS, results, Tryz.results85]

theorem catch_idle (a : Addr) (w : World) :
    CallsD Tryz.prog 85 #[.pointer (some a)] .returning w fun e u' w' => e = .returned (.tuple #[]) ∧ u' = .returning ∧ w' = w := by
  refine callsD_of_wpS Tryz.func85 rfl fun c₀ cs hu => ?_
  apply wpS_seq
  apply wpS_region
  simp [wpOpsS, go_sem, recoverD, hu, Tryz.ntmps85, Exit.thenS]
  apply wpS_seq
  apply wpS_region
  simp [wpOpsS, go_sem, Exit.thenS]
  refine wpS_cond (t := false) (by simp [Act.eval, Array.replicate]) ?_
  simp only [Bool.false_eq_true, if_false]
  refine wpS_of_wp (wp_skip ?_)
  cases c₀
  simp_all [bodyPostS, results, Tryz.results85]

section
variable {p : Nat}
/-- What is done of a disk, and comes to its end. -/
theorem attempt_ok (fid : FuncId) (cap : Array Value) (Q : World → Prop) (w : World) (he : ∀ args w, (callFunc fid args).run Tryz.prog w = .ok (.enter fid args) w)
    (hcall : Calls Tryz.prog fid cap (w.alloc (.cells #[.int .i64 0] 24)) fun e w' => e = .returned (.tuple #[]) ∧ Q w')
    (hQ : ∀ W, Q W → W.heap[w.heap.size]? = some (.cells #[.int .i64 0] 24 (0, 0))) :
    Calls Tryz.prog 53 #[.pointer (some ⟨p, 0, none⟩), .func (.func fid) #[] cap] w fun e w' => e = .returned (.int .i64 0) ∧ ∃ W, Q W ∧ w' = W.setCell ⟨w.heap.size, 0, none⟩ (.int .i64 0) := by
  have hmf : ∀ (fn : Fn) (first cap : Array Value) (w : World), (Instr.makeFunc fn first cap).run Tryz.prog w = .ok (.func fn first cap) w := fun _ _ _ _ => rfl
  have HC := Lib.hid hcall
  have HQ := Lib.hid hQ
  clear hcall hQ
  have eg := he
  go_enter_defers Tryz.func53, Tryz.ntmps53
  go_wp2_with (go_at_fn fid; with_reducible (refine Calls.mono HC.out ?_); rintro e w2 ⟨rfl, hq2⟩
               have hc := HQ.out _ hq2
               have c0 : w2.cell? ⟨w.heap.size, 0, none⟩ = some (.int .i64 0) := cell_of_row _ _ _ _ _ _ hc
               have f0 : w2.frozen? ⟨w.heap.size, 0, none⟩ = false := frozen_of_row _ _ _ _ _ hc)
  refine leaves_cons (f := 85) (args := #[.pointer (some ⟨w.heap.size, 0, none⟩)]) (by simp) (by simp [go_sem]) ?_
  refine (catch_idle ⟨w.heap.size, 0, none⟩ _).mono ?_
  rintro e u' w'' ⟨rfl, rfl, rfl⟩
  have hc2 := setc_same w2 w.heap.size 0 (.int .i64 0) _ _ hc
  have c1 : (w2.setCell ⟨w.heap.size, 0, none⟩ (.int .i64 0)).cell? ⟨w.heap.size, 0, none⟩ = some (.int .i64 0) := cell_of_row _ _ _ _ _ _ hc2
  simp [Leaves, settle, results, Tryz.results53, go_sem, c1]
  exact ⟨w2, hq2, rfl⟩

/-- What is done of a disk, and is given up. -/
theorem attempt_no (fid : FuncId) (cap : Array Value) (c : Int) (Q : World → Prop) (w : World) (he : ∀ args w, (callFunc fid args).run Tryz.prog w = .ok (.enter fid args) w)
    (hcall : Calls Tryz.prog fid cap (w.alloc (.cells #[.int .i64 0] 24)) fun e w' => e = .panicked (upV c) ∧ Q w')
    (hQ : ∀ W, Q W → W.heap[w.heap.size]? = some (.cells #[.int .i64 0] 24 (0, 0))) :
    Calls Tryz.prog 53 #[.pointer (some ⟨p, 0, none⟩), .func (.func fid) #[] cap] w fun e w' => e = .returned (.int .i64 c) ∧ ∃ W, Q W ∧ w' = W.setCell ⟨w.heap.size, 0, none⟩ (.int .i64 c) := by
  have hmf : ∀ (fn : Fn) (first cap : Array Value) (w : World), (Instr.makeFunc fn first cap).run Tryz.prog w = .ok (.func fn first cap) w := fun _ _ _ _ => rfl
  have HC := Lib.hid hcall
  have HQ := Lib.hid hQ
  clear hcall hQ
  have eg := he
  go_enter_defers Tryz.func53, Tryz.ntmps53
  go_wp2_with (go_at_fn fid; with_reducible (refine Calls.mono HC.out ?_); rintro e w2 ⟨rfl, hq2⟩
               have hc := HQ.out _ hq2
               have c0 : w2.cell? ⟨w.heap.size, 0, none⟩ = some (.int .i64 0) := cell_of_row _ _ _ _ _ _ hc
               have f0 : w2.frozen? ⟨w.heap.size, 0, none⟩ = false := frozen_of_row _ _ _ _ _ hc)
  refine leaves_cons (f := 85) (args := #[.pointer (some ⟨w.heap.size, 0, none⟩)]) (by simp) (by simp [go_sem]) ?_
  refine (catch_up ⟨w.heap.size, 0, none⟩ 0 c _ c0 f0).mono ?_
  rintro e u' w'' ⟨rfl, rfl, rfl⟩
  have hc2 := setc_same w2 w.heap.size 0 (.int .i64 c) _ _ hc
  have c1 : (w2.setCell ⟨w.heap.size, 0, none⟩ (.int .i64 c)).cell? ⟨w.heap.size, 0, none⟩ = some (.int .i64 c) := cell_of_row _ _ _ _ _ _ hc2
  simp [Leaves, settle, results, Tryz.results53, go_sem, c1]
  exact ⟨w2, hq2, rfl⟩

/-- A disk that is none. -/
theorem attempt_nil (v : Value) (w : World) : Calls Tryz.prog 53 #[.pointer none, v] w fun e w' => e = .returned (.int .i64 11) ∧ Below w.heap.size w w' := by
  have hb : Hid (Below w.heap.size w (w.alloc (.cells #[.int .i64 11] 24))) := (Below.refl _ _).alloc (Nat.le_refl _) _
  go_enter_defers Tryz.func53, Tryz.ntmps53
  go_wp2
  simp [bodyPostD, Leaves, results, Tryz.results53, go_sem]
  exact hb.out
end

section
variable {w : World} {p gl gn : Nat} {V : Value} {z : Int} {DL : DataW Value} {DN : DataW Unit} {s : Dk}
theorem has_yes (h : DiskIn w p gl gn V z DL DN s) (n : Int) (ho : ¬ outD s n) : Calls Tryz.prog 56 #[.pointer (some ⟨p, 0, none⟩), .int .i64 n] w fun e w' => e = .returned (.bool true) ∧ w' = w := by
  obtain ⟨c0, _⟩ := h.cells
  obtain ⟨i, rfl, hi⟩ := not_out ho
  have k0 : (0 : Int) ≤ (i : Int) := by omega
  have k1 : (i : Int) < (s.last.length : Int) := by omega
  obtain ⟨N, hN⟩ : ∃ N : Int, N = (s.last.length : Int) := ⟨_, rfl⟩
  rw [← hN] at c0 k1
  clear h ho hi hN
  go_enter Tryz.func56, Tryz.ntmps56
  go_wp2
  go_ret
  exact ⟨rfl, rfl⟩
theorem has_no (h : DiskIn w p gl gn V z DL DN s) (n : Int) (ho : outD s n) : Calls Tryz.prog 56 #[.pointer (some ⟨p, 0, none⟩), .int .i64 n] w fun e w' => e = .returned (.bool false) ∧ w' = w := by
  obtain ⟨c0, _⟩ := h.cells
  obtain ⟨N, hN⟩ : ∃ N : Int, N = (s.last.length : Int) := ⟨_, rfl⟩
  unfold outD at ho
  rw [← hN] at c0 ho
  by_cases k0 : n < 0
  · have k1 : ¬ 0 ≤ n := by omega
    clear h hN ho k0
    go_enter Tryz.func56, Tryz.ntmps56
    go_wp2
    go_ret
    exact ⟨rfl, rfl⟩
  · have k1 : 0 ≤ n := by omega
    have k2 : ¬ n < N := by omega
    clear h hN ho k0
    go_enter Tryz.func56, Tryz.ntmps56
    go_wp2
    go_ret
    exact ⟨rfl, rfl⟩
end

theorem bytes_go (t : List Nat) (ht : t.length = 64) (w : World) : Calls Tryz.prog 57 #[secV t] w fun e w' => e = .returned (.slice (some ⟨w.heap.size, 0, none⟩) 64 64) ∧ w' = w.alloc (.cells (BA t) 103) := by
  unfold secV
  have hB : (BA t).size = 64 := by rw [BA_size, ht]
  obtain ⟨C, hC⟩ : ∃ C, C = BA t := ⟨_, rfl⟩
  rw [← hC] at hB ⊢
  clear hC ht
  go_enter Tryz.func57, Tryz.ntmps57
  go_wp2
  go_ret
  exact ⟨rfl, rfl⟩

theorem Tryz.und64 : Tryz.prog.underlying 103 = some (.array 64 5) := by kernel_rfl
/-- A struct or an array is built of values. -/
theorem wpList_buildL {P : Program} {w : World} {ops : Array Oper} {rest : List Oper} {o : Oper} {a : Act} {Q : Exit → Act → World → Prop} (hgd : o.guard = none) (t : TypeId) (parts : Array (Nat × Operand)) (ho : o.op = .build t parts)
    (vs : Array (Nat × Value)) (hv : parts.map (fun (i, x) => (i, a.eval x)) = vs) (cells : Array Value) (hb : (Instr.build t vs).run P w = .ok (.agg cells) w) (h : wpList P ops Q rest (a.put o.dst (.agg cells)) w) : wpList P ops Q (o :: rest) a w := by
  refine wpList_plain hgd fun K hK => ?_
  unfold Oper.wp execOp
  simp only [ho, hv, hb, Sem.run_bind, Sem.run_pure, Result.andThen_ok]
  exact hK _ _ h
theorem eqSec {t : List Nat} (ht : t.length = 64) {C Z : Array Value} (hC : C = BA t) (hZ : Z = BA zeroSec) (W : World) : (Op.equalIn 10000 103 (.agg C) (.agg Z)).run Tryz.prog W = .ok (t == zeroSec) W := by
  obtain ⟨i, hi, hs⟩ : ∃ i, Tryz.prog.info? 5 = some i ∧ i.size = 1 := by
    have e : (Tryz.prog.info? 5).map (fun i => i.size) = some 1 := by kernel_rfl
    simpa using e
  rw [hC, hZ]
  exact run_eqArrays (P := Tryz.prog) (t := 103) (e := 5) (n := 64) (i := i) (by kernel_rfl) (by kernel_rfl) (by kernel_rfl) hi hs t zeroSec ht (by simp [zeroSec]) W
theorem builtZ : Tryz.prog.built 103 [] = some (BA zeroSec) := by kernel_rfl
theorem buildZ {Z : Array Value} (hZ : Z = BA zeroSec) (W : World) : (Instr.build 103 #[]).run Tryz.prog W = .ok (.agg Z) W := by
  rw [hZ]
  exact run_build W _ #[] _ builtZ
set_option maxHeartbeats 800000 in
set_option maxRecDepth 20000 in
theorem blank_go (t : List Nat) (ht : t.length = 64) (w : World) : Calls Tryz.prog 84 #[secV t] w fun e w' => e = .returned (.bool (t == zeroSec)) ∧ w' = w.alloc (.cells (BA t) 103) := by
  unfold secV
  have hB : (BA t).size = 64 := by rw [BA_size, ht]
  obtain ⟨C, hC⟩ : ∃ C, C = BA t := ⟨_, rfl⟩
  obtain ⟨Z, hZ⟩ : ∃ Z, Z = BA zeroSec := ⟨_, rfl⟩
  have hq := eqSec ht hC hZ
  have hz := buildZ hZ
  obtain ⟨r, hr⟩ : ∃ r, r = (t == zeroSec) := ⟨_, rfl⟩
  rw [← hC] at hB ⊢
  rw [← hr]
  simp only [← hr] at hq
  have hg := heap_alloc_new w (.cells C 103)
  have hi : (Tryz.prog.info? 103).map (·.size) = some C.size := by rw [hB]; kernel_rfl
  have hu := Tryz.und64
  clear hC hZ hr ht
  go_enter Tryz.func84, Tryz.ntmps84
  go_wp2_with (first
    | (refine wpList_load_row rfl 103 _ rfl w.heap.size rfl 103 _ (0, 0) _ hg hu rfl hi ?_)
    | (refine wpList_buildL rfl 103 _ rfl #[] (by simp) Z (hz _) ?_))
  go_ret
  exact ⟨rfl, rfl⟩

end Go.Proofs.YtbnhkplhmanmoaaGreat

namespace Go.Proofs.YtbnhkplhmanmoaaGreat
open Go.RowKit

theorem wpList_lookM {P : Program} (w : World) {ops : Array Oper} {rest : List Oper} {o : Oper} {a : Act} {Q : Exit → Act → World → Prop} (hg : o.guard = none) (m x : Operand) (t : TypeId) (hop : o.op = Op.lookup t m x true)
    (k e : TypeId) (q : IntKind) (K : Maps.Keyed P k) (ht : P.underlying t = some (.map k e)) (he : P.underlying e = some (.int q)) (hz : (zeroValue e).run P w = .ok (.int q 0) w) (b n : Nat) (D : DataW Unit)
    (hm : a.eval m = .map (some b)) (hown : w.ownsMap P k (plainElem P e) b n D) (key : Value) (kl : Lit) (hx : a.eval x = key) (hkey : keyOf P k key = some kl) (c : Int) (h : Bool) (hat : D.atKey kl (.lit (.int q 0)) = .lit (.int q c)) (hh : Maps.has D kl = h)
    (hK : wpList P ops Q rest (a.put o.dst (.tuple #[.int q c, .bool h])) w) : wpList P ops Q (o :: rest) a w :=
  wpList_lookup_own_ok_int w hg m x t hop k e q K ht he hz b n D hm hown key kl hx hkey fun c' h1 _ => by
    rw [hat] at h1
    injection h1 with h1
    injection h1 with _ h1
    rw [← h1, hh]
    exact hK

end Go.Proofs.YtbnhkplhmanmoaaGreat
