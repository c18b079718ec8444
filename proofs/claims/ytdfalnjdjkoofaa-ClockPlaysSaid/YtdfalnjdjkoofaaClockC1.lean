/-
  The landed clock: what a ring is in memory (ClockRep): its struct, its rows of things and of marks, its map of places.
-/
import Derived.Test.YtdfalnjdjkoofaaClockNums
import Derived.Test.YtdfalnjdjkoofaaAway
import Derived.Test.YtdfalnjdjkoofaaIntRow
import Derived.Test.YtdfalnjdjkoofaaBoolRow
import Derived.Test.YtdfalnjdjkoofaaChecked
import Derived.Maps.OwnSet
namespace Go.Proofs.Ytdfalnjdjkoofaa
open Go.RowKit
open Go.Maps (IsMap Tidy atKey_put_same atKey_put_other has_put_same has_put_other)

/-- How many of these are things. -/
def cntC : List Int → Nat
  | [] => 0
  | a :: l => (if 0 ≤ a then 1 else 0) + cntC l
theorem cntC_le : ∀ l : List Int, cntC l ≤ l.length
  | [] => Nat.le_refl _
  | a :: l => by
    have := cntC_le l
    unfold cntC
    rw [List.length_cons]
    split <;> omega
theorem cntC_set : ∀ (l : List Int) (i : Nat) (x : Int), i < l.length → cntC (l.set i x) + (if 0 ≤ l.getD i 0 then 1 else 0) = cntC l + (if 0 ≤ x then 1 else 0)
  | [], i, _, h => absurd h (by simp)
  | a :: l, 0, x, _ => by
    show (if 0 ≤ x then 1 else 0) + cntC l + (if 0 ≤ a then 1 else 0) = (if 0 ≤ a then 1 else 0) + cntC l + (if 0 ≤ x then 1 else 0)
    omega
  | a :: l, i + 1, x, h => by
    have ih := cntC_set l i x (by simpa using h)
    show (if 0 ≤ a then 1 else 0) + cntC (l.set i x) + (if 0 ≤ l.getD i 0 then 1 else 0) = (if 0 ≤ a then 1 else 0) + cntC l + (if 0 ≤ x then 1 else 0)
    omega

/-- The map says of each thing where it is. -/
structure MapC (D : DataW Unit) (t : List Int) : Prop where
  here : ∀ i, i < t.length → 0 ≤ t.getD i 0 → Maps.has D (.int .i64 (t.getD i 0)) = true ∧ D.atKey (.int .i64 (t.getD i 0)) (.lit (.int .i64 0)) = .lit (.int .i64 (i : Int))
  there : ∀ x : Int, Maps.has D (.int .i64 x) = true → 0 ≤ x ∧ ∃ i, i < t.length ∧ t.getD i 0 = x
  few : Maps.size D ≤ cntC t
theorem mapC_none (n : Nat) : MapC (.map []) (List.replicate n (-1)) := by
  refine ⟨fun i hi h => ?_, fun x h => ?_, Nat.zero_le _⟩
  · rw [List.getD_eq_getElem?_getD, List.getElem?_replicate, if_pos (by simpa using hi)] at h
    exact absurd h (by decide)
  · cases h
section
variable {D : DataW Unit} {t : List Int}
/-- Two places do not have one thing. -/
theorem MapC.one (h : MapC D t) {i j : Nat} (hi : i < t.length) (hj : j < t.length) (h0 : 0 ≤ t.getD i 0) (e : t.getD i 0 = t.getD j 0) : i = j := by
  have h1 := (h.here i hi h0).2
  have h2 := (h.here j hj (e ▸ h0)).2
  rw [e, h2] at h1
  injection h1 with h1
  injection h1 with _ h1
  omega
theorem mem_at {t : List Int} {x : Int} (h : t.contains x = true) : t.idxOf x < t.length ∧ t.getD (t.idxOf x) 0 = x := ⟨idx_lt h, idx_at h⟩
theorem at_mem {t : List Int} {i : Nat} (h : i < t.length) : t.contains (t.getD i 0) = true := by
  rw [List.contains_iff_mem, List.getD_eq_getElem?_getD, List.getElem?_eq_getElem h]
  exact List.getElem_mem h
theorem MapC.has_iff (h : MapC D t) (x : Int) : Maps.has D (.int .i64 x) = true ↔ 0 ≤ x ∧ t.contains x = true := by
  constructor
  · intro q
    obtain ⟨h0, i, hi, e⟩ := h.there x q
    exact ⟨h0, by rw [← e]; exact at_mem hi⟩
  · rintro ⟨h0, hc⟩
    obtain ⟨hi, e⟩ := mem_at hc
    have := (h.here _ hi (by rw [e]; exact h0)).1
    rwa [e] at this
theorem MapC.at_ (h : MapC D t) {x : Int} (h0 : 0 ≤ x) (hc : t.contains x = true) : D.atKey (.int .i64 x) (.lit (.int .i64 0)) = .lit (.int .i64 (t.idxOf x : Int)) := by
  obtain ⟨hi, e⟩ := mem_at hc
  have := (h.here _ hi (by rw [e]; exact h0)).2
  rwa [e] at this
/-- A thing comes to a free place. -/
theorem MapC.put (h : MapC D t) (hD : Tidy D) {n : Int} {i : Nat} (hi : i < t.length) (hf : t.getD i 0 = -1) (h0 : 0 ≤ n) (hn : t.contains n = false) : MapC (D.put (.int .i64 n) (.lit (.int .i64 (i : Int)))) (t.set i n) := by
  have hk : WideAt.IsKeyLit (.int .i64 n) := by first | trivial | simp [WideAt.IsKeyLit]
  have hh : Maps.has D (.int .i64 n) = false := by
    cases hb : Maps.has D (.int .i64 n)
    · rfl
    · rw [((h.has_iff n).1 hb).2] at hn; cases hn
  refine ⟨fun j hj q => ?_, fun x q => ?_, ?_⟩
  · rw [List.length_set] at hj
    rw [getD_setI13] at q ⊢
    by_cases e : i = j
    · rw [if_pos ⟨e, hj⟩]
      subst e
      exact ⟨has_put_same hD.isMap hk _, atKey_put_same hD.isMap hk _ _⟩
    · rw [if_neg (fun q => e q.1)] at q ⊢
      have hne : (Lit.int .i64 (t.getD j 0)) ≠ .int .i64 n := fun e2 => by
        injection e2 with _ e2
        rw [← e2, at_mem hj] at hn; cases hn
      rw [has_put_other hne, atKey_put_other hne]
      exact h.here j hj q
  · by_cases e : x = n
    · subst e
      exact ⟨h0, i, by rw [List.length_set]; exact hi, by rw [getD_setI13, if_pos ⟨rfl, hi⟩]⟩
    · rw [has_put_other (fun e2 => by injection e2 with _ e2; exact e e2)] at q
      obtain ⟨x0, j, hj, e3⟩ := h.there x q
      refine ⟨x0, j, by rw [List.length_set]; exact hj, ?_⟩
      rw [getD_setI13, if_neg (fun q => by rw [← q.1] at e3; omega)]; exact e3
  · have h1 := Maps.size_put (k := .int .i64 n) hD (.lit (.int .i64 (i : Int)))
    rw [hh] at h1
    have h2 := cntC_set t i n hi
    rw [hf, if_neg (by omega), if_pos h0] at h2
    have h3 := h.few
    simp only [Bool.false_eq_true, if_false] at h1
    omega
/-- A thing goes. -/
theorem MapC.del (h : MapC D t) (hD : Tidy D) {n : Int} (h0 : 0 ≤ n) (hn : t.contains n = true) : MapC (D.del (.int .i64 n)) (t.set (t.idxOf n) (-1)) := by
  obtain ⟨hi, ei⟩ := mem_at hn
  refine ⟨fun j hj q => ?_, fun x q => ?_, ?_⟩
  · rw [List.length_set] at hj
    rw [getD_setI13] at q ⊢
    by_cases e : t.idxOf n = j
    · rw [if_pos ⟨e, hj⟩] at q
      omega
    · rw [if_neg (fun q => e q.1)] at q ⊢
      have hne : (Lit.int .i64 (t.getD j 0)) ≠ .int .i64 n := fun e2 => by
        injection e2 with _ e2
        exact e (h.one hi hj (by rw [ei]; exact h0) (ei.trans e2.symm))
      rw [Maps.has_del_other hne, Maps.atKey_del_other hne]
      exact h.here j hj q
  · have e : x ≠ n := fun e => by
      subst e
      rw [Maps.has_del_same] at q; cases q
    rw [Maps.has_del_other (fun e2 => by injection e2 with _ e2; exact e e2)] at q
    obtain ⟨x0, j, hj, e3⟩ := h.there x q
    refine ⟨x0, j, by rw [List.length_set]; exact hj, ?_⟩
    rw [getD_setI13, if_neg (fun q => by rw [← q.1, ei] at e3; exact e e3.symm)]; exact e3
  · have h1 := Maps.size_del (k := .int .i64 n) hD
    rw [(h.has_iff n).2 ⟨h0, hn⟩] at h1
    have h2 := cntC_set t (t.idxOf n) (-1) hi
    rw [ei, if_pos h0, if_neg (by decide)] at h2
    have h3 := h.few
    simp only [if_true] at h1
    omega
end

theorem Try.undMapC : Try.prog.underlying 51 = some (.map 3 3) := by kernel_rfl
theorem Try.undIntC : Try.prog.underlying 3 = some (.int .i64) := by kernel_rfl
theorem keyC : Maps.Keyed Try.prog 3 := Maps.int_keyed Try.undIntC
theorem zeroC (w : World) : (zeroValue 3).run Try.prog w = .ok (.int .i64 0) w := by kernel_rfl
theorem keyOfC {x : Int} (h : I64c x) : keyOf Try.prog 3 (.int .i64 x) = some (.int .i64 x) := Maps.keyOf_int_mk Try.undIntC (by unfold I64c at h; simp [Lit.wf, IntKind.min, IntKind.max, IntKind.signed, IntKind.bits]; omega)

/-- What a ring is in memory. -/
structure ClockIn (w : World) (p gt gm gb ct cm : Nat) (D : DataW Unit) (s : Ck) : Prop where
  ok : s.ok s.t.length
  few : s.t.length ≤ 4096
  cap : s.t.length ≤ ct ∧ s.t.length ≤ cm
  box : w.heap[p]? = some (.cells #[.slice (some ⟨gt, 0, none⟩) s.t.length ct, .slice (some ⟨gm, 0, none⟩) s.t.length cm, .map (some gb), .int .i64 (s.h : Int)] 53 (0, 0))
  things : IRow 3 gt s.t w
  marks : BRow 4 gm s.m w
  map : w.ownsMap Try.prog 3 (plainElem Try.prog 3) gb (Maps.size D) D
  says : MapC D s.t
  vals : ∀ z ∈ s.t, -1 ≤ z ∧ z ≤ 9223372036854775807
  apart : p ≠ gt ∧ p ≠ gm ∧ p ≠ gb ∧ gt ≠ gm ∧ gt ≠ gb ∧ gm ≠ gb
def ownC (p gt gm gb : Nat) (b : Nat) : Prop := b = p ∨ b = gt ∨ b = gm ∨ b = gb
def ClockRep (w : World) (p : Nat) (F : Nat → Prop) (s : Ck) : Prop := ∃ gt gm gb ct cm D, F = ownC p gt gm gb ∧ ClockIn w p gt gm gb ct cm D s

theorem map_tight {k : TypeId} {R : Value → Option (DataW Unit × List MemPlace)} {w : World} {P : Program} {b n : Nat} {D : DataW Unit} (h : w.ownsMap P k R b n D) : w.ownsMap P k R b (Maps.size D) D := by
  obtain ⟨es, clock, hb, F, hs, rfl⟩ := h
  exact ⟨es, clock, hb, F, by simp [Maps.size, length_sorted], rfl⟩
theorem map_heap {k : TypeId} {R : Value → Option (DataW Unit × List MemPlace)} {w w' : World} {P : Program} {b n : Nat} {D : DataW Unit} (h : w.ownsMap P k R b n D) (he : w'.heap[b]? = w.heap[b]?) : w'.ownsMap P k R b n D := by
  obtain ⟨es, clock, hb, r⟩ := h
  exact ⟨es, clock, he.trans hb, r⟩
section
variable {w w' : World} {p gt gm gb ct cm : Nat} {D : DataW Unit} {s : Ck}
theorem ClockIn.keep (h : ClockIn w p gt gm gb ct cm D s) (hk : ∀ b, ownC p gt gm gb b → w'.heap[b]? = w.heap[b]?) : ClockIn w' p gt gm gb ct cm D s :=
  ⟨h.ok, h.few, h.cap, (hk p (.inl rfl)).trans h.box, (hk gt (.inr (.inl rfl))).trans h.things, (hk gm (.inr (.inr (.inl rfl)))).trans h.marks, map_heap h.map (hk gb (.inr (.inr (.inr rfl)))), h.says, h.vals, h.apart⟩
theorem ClockIn.lt (h : ClockIn w p gt gm gb ct cm D s) (b : Nat) (hb : ownC p gt gm gb b) : b < w.heap.size := by
  rcases hb with e | e | e | e
  · rw [e]; exact (Array.getElem?_eq_some_iff.1 h.box).1
  · rw [e]; exact h.things.lt
  · rw [e]; exact h.marks.lt
  · rw [e]; exact h.map.lt
theorem clock_keep (w w' : World) (p : Nat) (F : Nat → Prop) (s : Ck) (h : ClockRep w p F s) (hk : ∀ b, F b → w'.heap[b]? = w.heap[b]?) : ClockRep w' p F s := by
  obtain ⟨gt, gm, gb, ct, cm, D, e, hi⟩ := h
  exact ⟨gt, gm, gb, ct, cm, D, e, hi.keep (fun b q => hk b (by rw [e]; exact q))⟩
theorem clock_lt (w : World) (p : Nat) (F : Nat → Prop) (s : Ck) (h : ClockRep w p F s) (b : Nat) (hb : F b) : b < w.heap.size := by
  obtain ⟨gt, gm, gb, ct, cm, D, e, hi⟩ := h
  exact hi.lt b (by rw [← e]; exact hb)
theorem ClockIn.later (h : ClockIn w p gt gm gb ct cm D s) (hb : Below w.heap.size w w') : ClockIn w' p gt gm gb ct cm D s := h.keep fun b q => hb.block b (h.lt b q)
/-- The struct's cells. -/
theorem ClockIn.cells (h : ClockIn w p gt gm gb ct cm D s) : w.cell? ⟨p, 0, none⟩ = some (.slice (some ⟨gt, 0, none⟩) s.t.length ct) ∧ w.cell? ⟨p, 1, none⟩ = some (.slice (some ⟨gm, 0, none⟩) s.t.length cm) ∧ w.cell? ⟨p, 2, none⟩ = some (.map (some gb)) ∧ w.cell? ⟨p, 3, none⟩ = some (.int .i64 (s.h : Int)) :=
  ⟨cell_of_row _ _ _ _ _ _ h.box, cell_of_row _ _ _ _ _ _ h.box, cell_of_row _ _ _ _ _ _ h.box, cell_of_row _ _ _ _ _ _ h.box⟩
theorem ClockIn.thaw (h : ClockIn w p gt gm gb ct cm D s) (i : Nat) : w.frozen? ⟨p, i, none⟩ = false := frozen_of_row _ _ _ _ _ h.box
/-- A mark is set, or struck. -/
theorem ClockIn.mark (h : ClockIn w p gt gm gb ct cm D s) (i : Nat) (x : Bool) : ClockIn (w.setCell ⟨gm, i, none⟩ (.bool x)) p gt gm gb ct cm D ⟨s.t, s.m.set i x, s.h⟩ :=
  ⟨⟨h.ok.len, by rw [List.length_set]; exact h.ok.mrk, h.ok.pos, h.ok.hnd⟩, h.few, h.cap, (setc_other _ _ _ _ _ (Ne.symm h.apart.2.1)).trans h.box, h.things.other h.apart.2.2.2.1 _ _, h.marks.set i x, h.map.setCell (Ne.symm h.apart.2.2.2.2.2) _, h.says, h.vals, h.apart⟩
/-- The hand moves. -/
theorem ClockIn.hand (h : ClockIn w p gt gm gb ct cm D s) (i : Nat) (hi : i < s.t.length) : ClockIn (w.setCell ⟨p, 3, none⟩ (.int .i64 (i : Int))) p gt gm gb ct cm D ⟨s.t, s.m, i⟩ :=
  ⟨⟨h.ok.len, h.ok.mrk, h.ok.pos, hi⟩, h.few, h.cap, setc_same _ _ _ _ _ _ h.box, h.things.other (Ne.symm h.apart.1) _ _, h.marks.other (Ne.symm h.apart.2.1) _ _, h.map.setCell (Ne.symm h.apart.2.2.1) _, h.says, h.vals, h.apart⟩
end

end Go.Proofs.Ytdfalnjdjkoofaa
