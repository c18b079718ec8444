/-
  What is asked of the layer solve, as properties of its calls; the law's own 'awake'.
-/
import Derived.Test.YtnpdffcplgjbnaaSolveCheck
import Derived.Test.YtnpdffcplgjbnaaSolveBest
import Derived.Test.YtnpdffcplgjbnaaSame
import Derived.Deep.RegionWith
namespace Go.Proofs.Ytnpdffcplgjbnaa
open Go.RowKit

/-- Slot by slot: the error, the shares. -/
def greedyR (total : Int) (least : List Int) (cs : List (List Int)) : Int × List Int := if solveE total least cs = 0 then (0, giveL cs least (total - least.sum).toNat) else (solveE total least cs, [])
/-- The best: the error, the shares and what they bring. -/
def bestQ (total : Int) (least : List Int) (cs : List (List Int)) : Int × List Int × Int := if solveE total least cs = 0 then (0, bestR least cs total) else (solveE total least cs, [], 0)

/-- What came in. -/
structure Asked (w : World) (total : Int) (A0 A1 : Option Addr) (c0 c1 : Nat) (least : List Int) (ps : List Cur) : Prop where
  row : Ints w w.heap.size .i64 A0 least
  curves : Curs w w.heap.size A1 ps
  val : ∀ z ∈ least, -9223372036854775808 ≤ z ∧ z ≤ 9223372036854775807
  tot : -9223372036854775808 ≤ total ∧ total ≤ 9223372036854775807
  cap0 : least.length ≤ c0
  cap1 : ps.length ≤ c1
  len0 : least.length ≤ 140737488355328
  len1 : ps.length ≤ 140737488355328
theorem Asked.to {w w' : World} {total : Int} {A0 A1 : Option Addr} {c0 c1 : Nat} {least : List Int} {ps : List Cur} (h : Asked w total A0 A1 c0 c1 least ps) (hb : Below w.heap.size w w') : Asked w' total A0 A1 c0 c1 least ps :=
  ⟨(h.row.below hb).more hb.size, (h.curves.below hb).more hb.size, h.val, h.tot, h.cap0, h.cap1, h.len0, h.len1⟩

structure SolveSpec (w0 : World) : Prop where
  greedy : ∀ (total : Int) (A0 A1 : Option Addr) (c0 c1 : Nat) (least : List Int) (ps : List Cur) (w : World), Below w0.heap.size w0 w → Asked w total A0 A1 c0 c1 least ps →
    Calls Try.prog 9 #[.int .i64 total, .slice A0 least.length c0, .slice A1 ps.length c1] w fun e w' => ∃ A c, e = .returned (.tuple #[.slice A (greedyR total least (ps.map Cur.l)).2.length c, .int .i64 (greedyR total least (ps.map Cur.l)).1]) ∧ (greedyR total least (ps.map Cur.l)).2.length ≤ c ∧ Ints w' w'.heap.size .i64 A (greedyR total least (ps.map Cur.l)).2 ∧ Below w.heap.size w w'
  best : ∀ (total : Int) (A0 A1 : Option Addr) (c0 c1 : Nat) (least : List Int) (ps : List Cur) (w : World), Below w0.heap.size w0 w → Asked w total A0 A1 c0 c1 least ps →
    Calls Try.prog 14 #[.int .i64 total, .slice A0 least.length c0, .slice A1 ps.length c1] w fun e w' => ∃ A c, e = .returned (.tuple #[.slice A (bestQ total least (ps.map Cur.l)).2.1.length c, .int .i64 (bestQ total least (ps.map Cur.l)).2.2, .int .i64 (bestQ total least (ps.map Cur.l)).1]) ∧ (bestQ total least (ps.map Cur.l)).2.1.length ≤ c ∧ Ints w' w'.heap.size .i64 A (bestQ total least (ps.map Cur.l)).2.1 ∧ Below w.heap.size w w'

theorem wake_greedy : greedyR 3 [0, 0] [[0, 5, 6], [0, 4, 8]] = (0, [1, 2]) := by decide +kernel
theorem wake_best : bestQ 3 [0, 0] [[0, 5, 6], [0, 4, 8]] = (0, [1, 2], 13) := by decide +kernel

/-- The awake's curves. -/
def wakeCurs (b d : Nat) : List Cur := [⟨some ⟨b, 0, none⟩, 3, [0, 5, 6]⟩, ⟨some ⟨d, 0, none⟩, 3, [0, 4, 8]⟩]
theorem wake_asked {V : World} {b d g : Nat} (h0 : Ints V V.heap.size .i64 (some ⟨b, 0, none⟩) [0, 5, 6]) (h1 : Ints V V.heap.size .i64 (some ⟨d, 0, none⟩) [0, 4, 8]) (hg : V.heap.size = g) (t1 t2 : TypeId) :
    Asked ((V.alloc (.cells #[.int .i64 0, .int .i64 0] t1)).alloc (.cells #[.slice (some ⟨b, 0, none⟩) 3 3, .slice (some ⟨d, 0, none⟩) 3 3] t2)) 3 (some ⟨g, 0, none⟩) (some ⟨g + 1, 0, none⟩) 2 2 [0, 0] (wakeCurs b d) := by
  subst hg
  have e : ((V.alloc (.cells #[.int .i64 0, .int .i64 0] t1)).alloc (.cells #[.slice (some ⟨b, 0, none⟩) 3 3, .slice (some ⟨d, 0, none⟩) 3 3] t2)).heap.size = V.heap.size + 2 := by simp
  have hb : Below V.heap.size V ((V.alloc (.cells #[.int .i64 0, .int .i64 0] t1)).alloc (.cells #[.slice (some ⟨b, 0, none⟩) 3 3, .slice (some ⟨d, 0, none⟩) 3 3] t2)) := ((Below.refl _ V).alloc (Nat.le_refl _) _).alloc (by simp) _
  refine ⟨?_, ?_, by decide, by decide, by decide, by show 2 ≤ 2; decide, by decide, by show 2 ≤ 140737488355328; decide⟩
  · exact ((Ints.new V t1 .i64 [0, 0] #[.int .i64 0, .int .i64 0] rfl).alloc (by simp) _).more (by simp)
  · intro i hi
    have hi2 : i < 2 := hi
    match i, hi2 with
    | 0, _ => exact ⟨V.heap.size + 1, 0, rfl, by omega, by rw [World.cell?_alloc_at _ _ _ _ (by simp)]; rfl, (h0.below hb).more hb.size, (by decide : ∀ z ∈ ([0, 5, 6] : List Int), -9223372036854775808 ≤ z ∧ z ≤ 9223372036854775807), by show 3 ≤ 3; decide, by show 3 ≤ 9223372036854775807; decide⟩
    | 1, _ => exact ⟨V.heap.size + 1, 0, rfl, by omega, by rw [World.cell?_alloc_at _ _ _ _ (by simp)]; rfl, (h1.below hb).more hb.size, (by decide : ∀ z ∈ ([0, 4, 8] : List Int), -9223372036854775808 ≤ z ∧ z ≤ 9223372036854775807), by show 3 ≤ 3; decide, by show 3 ≤ 9223372036854775807; decide⟩

set_option maxHeartbeats 1600000 in
set_option maxRecDepth 20000 in
theorem solveAwake {w0 : World} (HS : SolveSpec w0) (w : World) (hw : Below w0.heap.size w0 w) : Calls Try.prog 11 #[] w fun e w' => e = .returned (.bool true) ∧ Below w.heap.size w w' := by
  have HG : Hid (∀ (W : World) (A0 A1 : Option Addr) (b d : Nat), Below w.heap.size w W → Asked W 3 A0 A1 2 2 [0, 0] (wakeCurs b d) → Calls Try.prog 9 #[.int .i64 3, .slice A0 2 2, .slice A1 2 2] W fun e w' => ∃ g o c', e = .returned (.tuple #[.slice (some ⟨g, o, none⟩) 2 c', .int .i64 0]) ∧ w'.cell? ⟨g, o, none⟩ = some (.int .i64 1) ∧ w'.cell? ⟨g, o + 1, none⟩ = some (.int .i64 2) ∧ g < w'.heap.size ∧ Below W.heap.size W w') := fun W A0 A1 b d hb ha => by
    have h := HS.greedy 3 A0 A1 2 2 [0, 0] (wakeCurs b d) W (hw.trans (hb.mono hw.size)) ha
    rw [show (wakeCurs b d).map Cur.l = [[0, 5, 6], [0, 4, 8]] from rfl, wake_greedy] at h
    refine h.mono fun e w' ⟨A', c', q1, q2, q3, q4⟩ => ?_
    obtain ⟨g, o, rfl, hg, hc⟩ := q3.at_ (by decide)
    exact ⟨g, o, c', q1, hc 0 (by decide), hc 1 (by decide), hg, q4⟩
  have HB : Hid (∀ (W : World) (A0 A1 : Option Addr) (b d : Nat), Below w.heap.size w W → Asked W 3 A0 A1 2 2 [0, 0] (wakeCurs b d) → Calls Try.prog 14 #[.int .i64 3, .slice A0 2 2, .slice A1 2 2] W fun e w' => ∃ g o c', e = .returned (.tuple #[.slice (some ⟨g, o, none⟩) 2 c', .int .i64 13, .int .i64 0]) ∧ w'.cell? ⟨g, o, none⟩ = some (.int .i64 1) ∧ Below W.heap.size W w') := fun W A0 A1 b d hb ha => by
    have h := HS.best 3 A0 A1 2 2 [0, 0] (wakeCurs b d) W (hw.trans (hb.mono hw.size)) ha
    rw [show (wakeCurs b d).map Cur.l = [[0, 5, 6], [0, 4, 8]] from rfl, wake_best] at h
    refine h.mono fun e w' ⟨A', c', q1, q2, q3, q4⟩ => ?_
    obtain ⟨g, o, rfl, hg, hc⟩ := q3.at_ (by decide)
    exact ⟨g, o, c', q1, hc 0 (by decide), q4⟩
  clear HS hw
  obtain ⟨V, hV⟩ : ∃ V, V = (w.alloc (.cells #[.int .i64 0, .int .i64 5, .int .i64 6] 3)).alloc (.cells #[.int .i64 0, .int .i64 4, .int .i64 8] 3) := ⟨_, rfl⟩
  have hbV : Below w.heap.size w V := by rw [hV]; exact ((Below.refl _ w).alloc (Nat.le_refl _) _).alloc (by simp) _
  have hVs : V.heap.size = w.heap.size + 1 + 1 := by rw [hV]; simp
  have i0 : Ints V V.heap.size .i64 (some ⟨w.heap.size, 0, none⟩) [0, 5, 6] := by
    rw [hV]; exact ((Ints.new w 3 .i64 [0, 5, 6] #[.int .i64 0, .int .i64 5, .int .i64 6] rfl).alloc (by simp) _).more (by simp)
  have i1 : Ints V V.heap.size .i64 (some ⟨w.heap.size + 1, 0, none⟩) [0, 4, 8] := by
    rw [hV]
    have h := Ints.new (w.alloc (.cells #[.int .i64 0, .int .i64 5, .int .i64 6] 3)) 3 .i64 [0, 4, 8] #[.int .i64 0, .int .i64 4, .int .i64 8] rfl
    have h2 := h.more (B' := ((w.alloc (.cells #[.int .i64 0, .int .i64 5, .int .i64 6] 3)).alloc (.cells #[.int .i64 0, .int .i64 4, .int .i64 8] 3)).heap.size) (by simp)
    simpa using h2
  have HA1 := wake_asked i0 i1 hVs 3 40
  have HA2 := Lib.hid (fun (W : World) (hb : Below V.heap.size V W) => wake_asked ((i0.below hb).more hb.size) ((i1.below hb).more hb.size) (rfl : W.heap.size = W.heap.size) 3 40)
  have hbA : Below V.heap.size V ((V.alloc (.cells #[.int .i64 0, .int .i64 0] 3)).alloc (.cells #[.slice (some ⟨w.heap.size, 0, none⟩) 3 3, .slice (some ⟨w.heap.size + 1, 0, none⟩) 3 3] 40)) := ((Below.refl _ V).alloc (Nat.le_refl _) _).alloc (by simp) _
  have H1 := Lib.hid (HG.out _ _ _ _ _ (chain hbV hbA) HA1)
  have H2 : Hid (∀ W, Below ((V.alloc (.cells #[.int .i64 0, .int .i64 0] 3)).alloc (.cells #[.slice (some ⟨w.heap.size, 0, none⟩) 3 3, .slice (some ⟨w.heap.size + 1, 0, none⟩) 3 3] 40)).heap.size ((V.alloc (.cells #[.int .i64 0, .int .i64 0] 3)).alloc (.cells #[.slice (some ⟨w.heap.size, 0, none⟩) 3 3, .slice (some ⟨w.heap.size + 1, 0, none⟩) 3 3] 40)) W → Calls Try.prog 14 #[.int .i64 3, .slice (some ⟨W.heap.size, 0, none⟩) 2 2, .slice (some ⟨W.heap.size + 1, 0, none⟩) 2 2] ((W.alloc (.cells #[.int .i64 0, .int .i64 0] 3)).alloc (.cells #[.slice (some ⟨w.heap.size, 0, none⟩) 3 3, .slice (some ⟨w.heap.size + 1, 0, none⟩) 3 3] 40))
      fun e w' => ∃ g o c', e = .returned (.tuple #[.slice (some ⟨g, o, none⟩) 2 c', .int .i64 13, .int .i64 0]) ∧ w'.cell? ⟨g, o, none⟩ = some (.int .i64 1) ∧ Below W.heap.size W w' ∧ Below w.heap.size w w') := fun W hW => by
    have hb : Below V.heap.size V W := chain hbA hW
    have hbB : Below W.heap.size W ((W.alloc (.cells #[.int .i64 0, .int .i64 0] 3)).alloc (.cells #[.slice (some ⟨w.heap.size, 0, none⟩) 3 3, .slice (some ⟨w.heap.size + 1, 0, none⟩) 3 3] 40)) := ((Below.refl _ W).alloc (Nat.le_refl _) _).alloc (by simp) _
    exact (HB.out _ _ _ _ _ (chain (chain hbV hb) hbB) (HA2.out W hb)).mono fun e w' ⟨g, o, c', q1, q2, q3⟩ => ⟨g, o, c', q1, q2, chain hbB q3, chain (chain (chain hbV hb) hbB) q3⟩
  rw [hV] at H1 H2
  clear HA1 HA2 HG HB i0 i1 hVs hbA hbV
  go_enter Try.func11, Try.ntmps11
  go_wp2_with (first
    | (go_at_call 9; with_reducible (refine Calls.mono H1.out ?_); rintro e w2 ⟨g, o, c', rfl, q0, q1, hg, hb2⟩)
    | (go_at_call 14; with_reducible (refine Calls.mono (H2.out _ hb2) ?_); rintro e w3 ⟨g2, o2, c2, rfl, p0, hb3, hb4⟩; have r0 := (hb3.cell (p := ⟨g, o, none⟩) hg).trans q0; have r1 := (hb3.cell (p := ⟨g, o + 1, none⟩) hg).trans q1))
  go_ret
  exact ⟨rfl, hb4⟩

end Go.Proofs.Ytnpdffcplgjbnaa
