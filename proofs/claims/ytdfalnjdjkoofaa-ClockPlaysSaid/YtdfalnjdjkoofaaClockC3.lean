/-
  The landed clock: the closures, Touch, Drop.
-/
import Derived.Test.YtdfalnjdjkoofaaClockC2
import Derived.Test.YtdfalnjdjkoofaaMapEntry
import Derived.Deep.RegionHeld3
namespace Go.Proofs.Ytdfalnjdjkoofaa
open Go.RowKit
open Go.ChangeMaps (setBlock)

theorem turned_other {w w' : World} {b k : Nat} (h : w.mapTurned w' b) (hk : k ≠ b) : w'.heap[k]? = w.heap[k]? := by
  obtain ⟨es, clock, es', clock', hb, rfl⟩ := h
  show (w.heap.setIfInBounds b _)[k]? = _
  rw [Array.getElem?_setIfInBounds_ne (Ne.symm hk)]
theorem away_turned {F : Nat → Prop} {a w w' : World} {b : Nat} (h : Away F a w) (ht : w.mapTurned w' b) (hF : F b) : Away F a w' := by
  have hk := fun k => turned_other (k := k) ht
  obtain ⟨es, clock, es', clock', hb, rfl⟩ := ht
  exact ⟨h.os, h.tape, h.output, by simpa [setBlock] using h.size, fun k hk1 hk2 => (hk k (fun e => hk2 (e ▸ hF))).trans (h.block k hk1 hk2)⟩
theorem away_alloc {F : Nat → Prop} {a w : World} (h : Away F a w) (o : Obj) : Away F a (w.alloc o) :=
  ⟨h.os, h.tape, h.output, by have := h.size; simp; omega, fun k hk1 hk2 => (Below.heap_alloc w o k (by have := h.size; omega)).trans (h.block k hk1 hk2)⟩
theorem away_then {F : Nat → Prop} {a w w' : World} (h : Away F a w) (hb : Below w.heap.size w w') : Away F a w' :=
  ⟨hb.os.trans h.os, hb.tape.trans h.tape, hb.output.trans h.output, Nat.le_trans h.size hb.size, fun k hk1 hk2 => (hb.block k (by have := h.size; omega)).trans (h.block k hk1 hk2)⟩

section
variable {w : World} {p gt gm gb ct cm : Nat} {D : DataW Unit} {s : Ck}
theorem own_p : ownC p gt gm gb p := .inl rfl
theorem own_t : ownC p gt gm gb gt := .inr (.inl rfl)
theorem own_m : ownC p gt gm gb gm := .inr (.inr (.inl rfl))
theorem own_b : ownC p gt gm gb gb := .inr (.inr (.inr rfl))

/-- A thing has gone: out of its place, and out of the map. -/
theorem ClockIn.gone (h : ClockIn w p gt gm gb ct cm D s) {n : Int} (hc : touchE s n = 0) {W : World} {m : Nat} (ho : W.ownsMap Try.prog 3 (plainElem Try.prog 3) gb m (D.del (.int .i64 n))) (ht : (w.setCell ⟨gt, s.t.idxOf n, none⟩ (.int .i64 (-1))).drew.mapTurned W gb) :
    ClockIn W p gt gm gb ct cm (D.del (.int .i64 n)) ⟨s.t.set (s.t.idxOf n) (-1), s.m, s.h⟩ := by
  have hq := (touchE_iff n).1 hc
  have hl : (s.t.set (s.t.idxOf n) (-1)).length = s.t.length := List.length_set
  obtain ⟨a1, a2, a3, a4, a5, a6⟩ := h.apart
  refine ⟨⟨rfl, by rw [hl]; exact h.ok.mrk, by rw [hl]; exact h.ok.pos, by rw [hl]; exact h.ok.hnd⟩, by rw [hl]; exact h.few, by rw [hl]; exact h.cap, ?_, ?_, ?_, map_tight ho, h.says.del (h.map.tidy keyC) hq.1 hq.2, ?_, h.apart⟩
  · rw [hl, turned_other ht a3]; exact (setc_other _ _ _ _ _ (Ne.symm a1)).trans h.box
  · exact (turned_other ht a5).trans (h.things.set _ _)
  · exact (turned_other ht a6).trans (h.marks.other (Ne.symm a4) _ _)
  · intro z hz
    rcases List.mem_or_eq_of_mem_set hz with e | e
    · exact h.vals z e
    · omega

set_option maxHeartbeats 800000 in
theorem touch1_go (h : ClockIn w p gt gm gb ct cm D s) (b i : Nat) (hi : i < s.t.length) (hb : w.cell? ⟨b, 0, none⟩ = some (.pointer (some ⟨p, 0, none⟩))) :
    Calls Try.prog 26 (#[.int .i64 (i : Int)] ++ #[.pointer (some ⟨b, 0, none⟩)]) w fun e w' => e = .returned (.tuple #[]) ∧ w' = w.setCell ⟨gm, i, none⟩ (.bool true) := by
  obtain ⟨_, c1, _, _⟩ := h.cells
  have hm := h.marks.cell (i := i) (by rw [h.ok.mrk]; exact hi)
  have hf := h.marks.thaw i
  have k0 : (0 : Int) ≤ (i : Int) := by omega
  have k1 : (i : Int) < (s.t.length : Int) := by omega
  obtain ⟨N, hN⟩ : ∃ N, N = s.t.length := ⟨_, rfl⟩
  obtain ⟨v, hv⟩ : ∃ v, v = s.m.getD i false := ⟨_, rfl⟩
  rw [← hN] at k1 c1
  rw [← hv] at hm
  clear h hi hN hv
  go_enter Try.func26, Try.ntmps26
  go_wp2
  exact bodyPost_end (results_none rfl _ _ _) rfl ⟨rfl, rfl⟩

set_option maxHeartbeats 800000 in
theorem leave1_go (g N c b i : Nat) (L : List Bool) (hL : L.length = N) (hi : i < N) (h : BRow 4 g L w) (hb : w.cell? ⟨b, 0, none⟩ = some (.slice (some ⟨g, 0, none⟩) N c)) :
    Calls Try.prog 28 (#[.int .i64 (i : Int)] ++ #[.pointer (some ⟨b, 0, none⟩)]) w fun e w' => e = .returned (.tuple #[]) ∧ w' = w.setCell ⟨g, i, none⟩ (.bool true) := by
  have hm := h.cell (i := i) (by omega)
  have hf := h.thaw i
  have k0 : (0 : Int) ≤ (i : Int) := by omega
  have k1 : (i : Int) < (N : Int) := by omega
  obtain ⟨v, hv⟩ : ∃ v, v = L.getD i false := ⟨_, rfl⟩
  rw [← hv] at hm
  clear h hi hL hv
  go_enter Try.func28, Try.ntmps28
  go_wp2
  exact bodyPost_end (results_none rfl _ _ _) rfl ⟨rfl, rfl⟩

set_option maxHeartbeats 1600000 in
theorem drop1_go (h : ClockIn w p gt gm gb ct cm D s) (b b2 : Nat) (n : Int) (hn : I64c n) (hc : touchE s n = 0) (hb : w.cell? ⟨b, 0, none⟩ = some (.pointer (some ⟨p, 0, none⟩))) (hb2 : w.cell? ⟨b2, 0, none⟩ = some (.int .i64 n)) (e1 : b ≠ gt ∧ b ≠ gb) (e2 : b2 ≠ gt ∧ b2 ≠ gb) :
    Calls Try.prog 27 (#[.int .i64 (s.t.idxOf n : Int)] ++ #[.pointer (some ⟨b, 0, none⟩), .pointer (some ⟨b2, 0, none⟩)]) w fun e w' => e = .returned (.tuple #[]) ∧ ClockIn w' p gt gm gb ct cm (D.del (.int .i64 n)) ⟨s.t.set (s.t.idxOf n) (-1), s.m, s.h⟩ ∧ Away (ownC p gt gm gb) w w' := by
  obtain ⟨c0, _, c2, _⟩ := h.cells
  have hq := (touchE_iff n).1 hc
  have hi := (mem_at hq.2).1
  have HG : Hid (∀ W m, W.ownsMap Try.prog 3 (plainElem Try.prog 3) gb m (D.del (.int .i64 n)) → (w.setCell ⟨gt, s.t.idxOf n, none⟩ (.int .i64 (-1))).drew.mapTurned W gb → ClockIn W p gt gm gb ct cm (D.del (.int .i64 n)) ⟨s.t.set (s.t.idxOf n) (-1), s.m, s.h⟩ ∧ Away (ownC p gt gm gb) w W) := fun W m ho ht =>
    ⟨h.gone hc ho ht, away_turned (away_drew1 ((Away.refl _ w).set own_t _ _)) ht own_b⟩
  have hm := h.things.cell hi
  have hf := h.things.thaw (s.t.idxOf n)
  have HM := Lib.hid ((h.map.setCell (a := ⟨gt, s.t.idxOf n, none⟩) (Ne.symm h.apart.2.2.2.2.1) (.int .i64 (-1))))
  have hkey := Lib.hid (keyOfC hn)
  have HO : Hid (p ≠ gt) := h.apart.1
  have HOB : Hid (p ≠ gb) := h.apart.2.2.1
  obtain ⟨i, hie⟩ : ∃ i, i = s.t.idxOf n := ⟨_, rfl⟩
  have k0 : (0 : Int) ≤ (i : Int) := by omega
  have k1 : (i : Int) < (s.t.length : Int) := by omega
  rw [← hie] at HG hm hf HM ⊢
  have d0 : (w.setCell ⟨gt, i, none⟩ (.int .i64 (-1))).cell? ⟨b, 0, none⟩ = some (.pointer (some ⟨p, 0, none⟩)) := (World.cell?_of_block (setc_other _ _ _ _ _ (Ne.symm e1.1))).trans hb
  have d1 : (w.setCell ⟨gt, i, none⟩ (.int .i64 (-1))).cell? ⟨b2, 0, none⟩ = some (.int .i64 n) := (World.cell?_of_block (setc_other _ _ _ _ _ (Ne.symm e2.1))).trans hb2
  have d2 : (w.setCell ⟨gt, i, none⟩ (.int .i64 (-1))).cell? ⟨p, 2, none⟩ = some (.map (some gb)) := (World.cell?_of_block (setc_other _ _ _ _ _ (Ne.symm HO.out))).trans c2
  obtain ⟨N, hN⟩ : ∃ N, N = s.t.length := ⟨_, rfl⟩
  obtain ⟨v, hv⟩ : ∃ v, v = s.t.getD i 0 := ⟨_, rfl⟩
  rw [← hN] at k1 c0
  rw [← hv] at hm
  obtain ⟨s2, hs2⟩ : ∃ s2, s2 = (⟨s.t.set i (-1), s.m, s.h⟩ : Ck) := ⟨_, rfl⟩
  obtain ⟨D2, hD2⟩ : ∃ D2, D2 = D.del (.int .i64 n) := ⟨_, rfl⟩
  rw [← hs2, ← hD2] at HG ⊢
  obtain ⟨W, hW⟩ : ∃ W, W = w.setCell ⟨gt, i, none⟩ (.int .i64 (-1)) := ⟨_, rfl⟩
  rw [← hW] at HG HM d0 d1 d2
  have HC3 : Hid (∀ W3, W.drew.mapTurned W3 gb → W3.cell? ⟨b, 0, none⟩ = some (.pointer (some ⟨p, 0, none⟩)) ∧ W3.cell? ⟨p, 2, none⟩ = some (.map (some gb)) ∧ W3.cell? ⟨b2, 0, none⟩ = some (.int .i64 n)) := fun W3 ht => ⟨(World.cell?_of_block (turned_other ht e1.2)).trans d0, (World.cell?_of_block (turned_other ht HOB.out)).trans d2, (World.cell?_of_block (turned_other ht e2.2)).trans d1⟩
  have HW := Lib.hid hW
  have HD2 := Lib.hid hD2
  clear h hi hN hv hc hq hie hs2 hW hD2 e1 e2 hb2 hn
  go_enter Try.func27, Try.ntmps27
  go_wp2
  rw [← HW.out]
  go_region_held3 (fun W => W.cell? ⟨b, 0, none⟩ = some (.pointer (some ⟨p, 0, none⟩)) ∧ W.cell? ⟨p, 2, none⟩ = some (.map (some gb)) ∧ W.cell? ⟨b2, 0, none⟩ = some (.int .i64 n))
    (first
      | exact ⟨d0, d2, d1⟩
      | exact HC3.out _ ht3)
    (first
      | (refine step_delete _ rfl _ _ 51 3 rfl 3 keyC Try.undMapC _ gb _ D rfl HM.out _ _ rfl hkey.out ?_
         intro w3 ho3 ht3))
  exact bodyPost_end (results_none rfl _ _ _) rfl ⟨rfl, HG.out _ _ (by rw [HD2.out]; exact ho3) ht3⟩
end

end Go.Proofs.Ytdfalnjdjkoofaa
