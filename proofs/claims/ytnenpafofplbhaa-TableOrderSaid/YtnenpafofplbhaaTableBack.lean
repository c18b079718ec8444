/-
  The law TableBack as a walk.
-/
import Derived.Test.YtnenpafofplbhaaTableStays
import Derived.Test.YtnenpafofplbhaaTableDr
import Derived.Deep.RegionLaw
namespace Go.Proofs.Ytnenpafofplbhaa
open Go.RowKit

/-- None of it lies in block q. -/
def Off (q : Nat) (V : TabW) (t : Tab) : Prop := (0 < t.ts.length → ob V.A1 ≠ some q) ∧ (0 < t.vs.length → ob V.A2 ≠ some q) ∧ (0 < t.os.length → ob V.A3 ≠ some q)
theorem Off.of_at {w : World} {B q : Nat} {V : TabW} {t : Tab} (h : TabAt w B V t) (hq : B ≤ q) : Off q V t := by
  refine ⟨fun h0 e => ?_, fun h0 e => ?_, fun h0 e => ?_⟩
  · obtain ⟨b, off, hA, hl, _⟩ := h.ts 0 h0
    rw [hA] at e
    have : b = q := by injection e
    omega
  · obtain ⟨b, off, hA, hl, _⟩ := h.vs 0 h0
    rw [hA] at e
    have : b = q := by injection e
    omega
  · obtain ⟨b, off, hA, hl, _⟩ := h.os 0 h0
    rw [hA] at e
    have : b = q := by injection e
    omega
theorem Off.of_from {lo q : Nat} {V : TabW} {t : Tab} (h : TabFrom lo V) (hq : q < lo) : Off q V t := by
  have key : ∀ A : Option Addr, (∀ a, A = some a → lo ≤ a.block) → ob A ≠ some q := fun A hA e => by
    cases A with
    | none => cases e
    | some a =>
      have h1 := hA a rfl
      have : a.block = q := by injection e
      omega
  exact ⟨fun _ => key _ fun a ha => h a (.inl ha), fun _ => key _ fun a ha => h a (.inr (.inl ha)), fun _ => key _ fun a ha => h a (.inr (.inr ha))⟩
/-- Another block is written, or new memory made. -/
theorem TabAt.grown {w W : World} {q B : Nat} {V : TabW} {t : Tab} (h : TabAt w B V t) (hB : B ≤ w.heap.size) (hg : w.grownBy W (some q)) (ho : Off q V t) : TabAt W B V t := by
  have key : ∀ {b off : Nat}, b < B → b ≠ q → W.cell? ⟨b, off, none⟩ = w.cell? ⟨b, off, none⟩ := fun {b off} hb hn => World.cell?_of_block (hg.block b (by omega) (fun e => hn (by injection e)))
  refine ⟨fun k hk => ?_, fun k hk => ?_, fun k hk => ?_, h.l1, h.l2, h.l3⟩
  · obtain ⟨b, off, e, hl, c⟩ := h.ts k hk
    have hne : b ≠ q := fun e2 => ho.1 (by omega) (by rw [e]; show some b = some q; rw [e2])
    refine ⟨b, off, e, hl, ?_⟩
    simp only [key hl hne]
    exact c
  · obtain ⟨b, off, e, hl, c⟩ := h.vs k hk
    have hne : b ≠ q := fun e2 => ho.2.1 (by omega) (by rw [e]; show some b = some q; rw [e2])
    refine ⟨b, off, e, hl, ?_⟩
    simp only [key hl hne]
    exact c
  · obtain ⟨b, off, e, hl, c⟩ := h.os k hk
    have hne : b ≠ q := fun e2 => ho.2.2 (by omega) (by rw [e]; show some b = some q; rw [e2])
    refine ⟨b, off, e, hl, ?_⟩
    rw [key hl hne]
    exact c
theorem RecsAt.grown {w W : World} {q B : Nat} {A : Option Addr} {l : List Rc} (h : RecsAt w B A l) (hB : B ≤ w.heap.size) (hg : w.grownBy W (some q)) (hq : B ≤ q) : RecsAt W B A l := fun k hk => by
  obtain ⟨b, off, e, hl, c⟩ := h k hk
  refine ⟨b, off, e, hl, ?_⟩
  have key : ∀ {off : Nat}, W.cell? ⟨b, off, none⟩ = w.cell? ⟨b, off, none⟩ := fun {off} => World.cell?_of_block (hg.block b (by omega) (fun e => by injection e with e; omega))
  simp only [key]
  exact c
theorem RecsAt.take {w : World} {B : Nat} {A : Option Addr} {l : List Rc} (h : RecsAt w B A l) (n : Nat) : RecsAt w B A (l.take n) := fun k hk => by
  have hk2 : k < l.length := by rw [List.length_take] at hk; omega
  have := h k hk2
  rwa [show (l.take n)[k] = l[k] from List.getElem_take]
theorem rec_at6 {w : World} {B : Nat} {A : Option Addr} {rs : List Rc} (h : RecsAt w B A rs) {k : Nat} (hk : k < rs.length) : ∃ b off, A = some ⟨b, off, none⟩ ∧ b < B ∧ w.cell? ⟨b, off + k * 6, none⟩ = some (.int .i64 rs[k].k) ∧ w.cell? ⟨b, off + k * 6 + 1, none⟩ = some (.int .i64 rs[k].a) ∧ w.cell? ⟨b, off + k * 6 + 2, none⟩ = some (.int .i64 rs[k].b) ∧
    w.cell? ⟨b, off + k * 6 + 3, none⟩ = some (.int .i64 rs[k].c) ∧ w.cell? ⟨b, off + k * 6 + 4, none⟩ = some (.int .i64 rs[k].d) ∧ w.cell? ⟨b, off + k * 6 + 5, none⟩ = some (.string rs[k].key) := by
  have := h k hk
  rwa [Nat.mul_comm 6 k] at this
theorem apply_one_from {w0 : World} (HS : TableSpec w0) (V : TabW) (t : Tab) (r : Rc) (W : World) (hw : Below w0.heap.size w0 W) (h : TabAt W W.heap.size V t) (ho : t.ok) (hr : r.ok) :
    Calls Try.prog 19 #[.agg (tabV V t), .slice (some ⟨W.heap.size, 0, none⟩) 1 1] (W.alloc (.cells (rcV r) 42)) fun e w' => ∃ V', e = .returned (.tuple #[.agg (tabV V' (applyR t [r]).2), .int .i64 (applyR t [r]).1]) ∧ TabAt w' w'.heap.size V' (applyR t [r]).2 ∧ TabFrom W.heap.size V' ∧ Below W.heap.size W w' := by
  have hba : Below W.heap.size W (W.alloc (.cells (rcV r) 42)) := (Below.refl _ _).alloc (Nat.le_refl _) _
  have q := HS.apply V t (some ⟨W.heap.size, 0, none⟩) 1 [r] _ (hw.trans (hba.mono hw.size)) ((h.below hba).more hba.size) ho (recs_one W r _) (Nat.le_refl _) (by intro x hx; rw [List.mem_singleton] at hx; subst hx; exact hr) (show (1 : Nat) ≤ _ by omega)
  exact q.mono fun e w' ⟨V', q1, q2, q3, q4⟩ => ⟨V', q1, q2, fun a ha => Nat.le_trans hba.size (q3 a ha), hba.trans (q4.mono hba.size)⟩
theorem cellsQ {X : World} {g : Nat} {T : TypeId} {v0 v1 v2 : Value} (h : X.heap[g]? = some (.cells #[v0, v1, v2] T (0, 0))) :
    (X.cell? ⟨g, 0, none⟩ = some v0 ∧ X.cell? ⟨g, 1, none⟩ = some v1 ∧ X.cell? ⟨g, 2, none⟩ = some v2) ∧ X.frozen? ⟨g, 0, none⟩ = false ∧ X.frozen? ⟨g, 1, none⟩ = false ∧ X.frozen? ⟨g, 2, none⟩ = false :=
  ⟨⟨by rw [cell_of_row _ _ _ _ _ _ h]; rfl, by rw [cell_of_row _ _ _ _ _ _ h]; rfl, by rw [cell_of_row _ _ _ _ _ _ h]; rfl⟩, frozen_of_row _ _ _ _ _ h, frozen_of_row _ _ _ _ _ h, frozen_of_row _ _ _ _ _ h⟩
theorem setQ {X : World} {g : Nat} {T : TypeId} {v0 v1 v2 : Value} (x y z : Value) (h : X.heap[g]? = some (.cells #[v0, v1, v2] T (0, 0))) :
    (((X.setCell ⟨g, 0, none⟩ x).setCell ⟨g, 1, none⟩ y).setCell ⟨g, 2, none⟩ z).heap[g]? = some (.cells #[x, y, z] T (0, 0)) ∧ X.grownBy (((X.setCell ⟨g, 0, none⟩ x).setCell ⟨g, 1, none⟩ y).setCell ⟨g, 2, none⟩ z) (some g) ∧ (((X.setCell ⟨g, 0, none⟩ x).setCell ⟨g, 1, none⟩ y).setCell ⟨g, 2, none⟩ z).heap.size = X.heap.size := by
  refine ⟨?_, setCells_grown X g 0 [x, y, z], (setCells_size g [x, y, z] 0 X).1⟩
  simp [World.setCell, Array.getElem?_modify, h]

/-! ### Plain -/
/-- Changes by and by, as far as the first hundred. -/
theorem by_step {t : Tab} {l : List Rc} {k : Nat} (hs : t.sound) (hk : k < l.length) (h : (runR t (l.take k)).1 = 0) : applyR (runR t (l.take k)).2 [l[k]] = runR t (l.take (k + 1)) := by
  rw [run_snoc hs h, List.take_succ_eq_append_getElem hk]
theorem by_stop {t : Tab} {l : List Rc} {k : Nat} (h : (runR t (l.take k)).1 ≠ 0) : runR t l = runR t (l.take k) := by
  have := run_stop (t := t) (l := l.take k) (l.drop k) h
  rwa [List.take_append_drop] at this

theorem image_ok {t : Tab} (ho : t.ok) (h64 : t.os.length ≤ 64) : ∀ r ∈ imageR t, r.ok := fun r hr => by
  have i0 : ∀ n : Int, -1000 ≤ n → n ≤ 1000 → I64n n := fun n h1 h2 => by unfold I64n; omega
  have hz : (⟨#[]⟩ : ByteArray).size ≤ 9223372036854775807 := by show (0 : Nat) ≤ _; omega
  unfold imageR at hr
  rcases List.mem_append.1 hr with hr | hr
  · obtain ⟨x, hx, rfl⟩ := List.mem_map.1 hr
    have q := ho.ts x hx
    exact ⟨i0 1 (by omega) (by omega), q.id, q.quota, q.rate, q.burst, q.key⟩
  · rcases List.mem_append.1 hr with hr | hr
    · obtain ⟨v, hv, hr⟩ := List.mem_flatMap.1 hr
      have q := ho.vs v hv
      have h8 : (⟨8, v.id, v.base, 0, 0, ⟨#[]⟩⟩ : Rc).ok := ⟨i0 8 (by omega) (by omega), q.id, q.base, i0 0 (by omega) (by omega), i0 0 (by omega) (by omega), hz⟩
      unfold imgV at hr
      rcases List.mem_cons.1 hr with rfl | hr
      · exact ⟨i0 5 (by omega) (by omega), q.id, q.ten, q.blocks, i0 0 (by omega) (by omega), hz⟩
      · split at hr
        · rw [List.mem_singleton] at hr; subst hr; exact h8
        · cases hr
    · rcases List.mem_append.1 hr with hr | hr
      · obtain ⟨i, hi, hr⟩ := List.mem_flatMap.1 hr
        have hi := List.mem_range.1 hi
        have q := ho.os _ (getD_mem hi)
        unfold imgO at hr
        split at hr
        · rw [List.mem_singleton] at hr; subst hr
          exact ⟨i0 9 (by omega) (by omega), by show I64n (i : Int); unfold I64n; omega, q, i0 0 (by omega) (by omega), i0 0 (by omega) (by omega), hz⟩
        · cases hr
      · obtain ⟨x, hx, hr⟩ := List.mem_flatMap.1 hr
        unfold imgD at hr
        split at hr
        · rw [List.mem_singleton] at hr; subst hr
          exact ⟨i0 3 (by omega) (by omega), (ho.ts x hx).id, i0 0 (by omega) (by omega), i0 0 (by omega) (by omega), i0 0 (by omega) (by omega), hz⟩
        · cases hr

set_option maxHeartbeats 1600000 in
set_option maxRecDepth 20000 in
/-- TableBack, of a table that is none. -/
theorem tableBack_no (V : TabW) (t : Tab) (A : Option Addr) (c n : Nat) (w : World) (HS : TableSpec w) (h : TabAt w w.heap.size V t) (ho : t.ok) (hs : ¬ t.sound) :
    Calls Try.prog 6 #[.agg (tabV V t), .slice A n c] w fun e w' => e = .returned (.bool true) ∧ Below w.heap.size w w' := by
  have hb0 : Below w.heap.size w (w.alloc (.cells (tabV V t) 26)) := (Below.refl _ _).alloc (Nat.le_refl _) _
  have A1 := HS.imageNo V t _ hb0 ((h.below hb0).more hb0.size) ho hs
  have HAW := Lib.hid (fun X (hb : Below w.heap.size w X) => tableAwake HS X hb)
  unfold tabV at A1 hb0 ⊢
  have HA1 := Lib.hid A1
  have HB0 := Lib.hid hb0
  clear A1 hb0 h ho hs HS
  go_enter Try.func6, Try.ntmps6
  go_wp2_with (first
    | (go_at_call 17; with_reducible (refine Calls.mono HA1.out ?_); rintro e w3 ⟨A3, c3, rfl, hb3⟩; have hx3 := chain HB0.out hb3)
    | (go_at_call 11; with_reducible (refine Calls.mono (HAW.out _ hx3) ?_); rintro e w4 ⟨rfl, hb4⟩; have hx4 := chain hx3 hb4)
    | (go_at_call 11; with_reducible (refine Calls.mono (HAW.out _ hx4) ?_); rintro e w5 ⟨rfl, hb5⟩))
  go_ret
  exact ⟨rfl, chain hx4 hb5⟩

/-- What stands behind TableBack's loop. -/
structure BkR (X0 : World) (q : Nat) (V : TabW) (T : Tab) (wr : World) : Prop where
  gr : X0.grownBy wr (some q)
  box : wr.heap[q]? = some (.cells (tabV V T) 26 (0, 0))
  tab : TabAt wr wr.heap.size V T
  off : Off q V T

set_option maxHeartbeats 3200000 in
set_option maxRecDepth 20000 in
/-- TableBack, of a sound table. -/
theorem tableBack_yes (V : TabW) (t : Tab) (A : Option Addr) (c : Nat) (l : List Rc) (w : World) (HS : TableSpec w) (h : TabAt w w.heap.size V t) (hl : RecsAt w w.heap.size A l) (hc : l.length ≤ c) (hr : ∀ r ∈ l, r.ok) (hm : l.length ≤ 140737488355328) (hs : t.sound) :
    Calls Try.prog 6 #[.agg (tabV V t), .slice A l.length c] w fun e w' => e = .returned (.bool true) ∧ Below w.heap.size w w' := by
  have ho := sound_ok hs
  obtain ⟨n1, n2, n3⟩ := sound_few hs
  have hb0 : Below w.heap.size w (w.alloc (.cells (tabV V t) 26)) := (Below.refl _ _).alloc (Nat.le_refl _) _
  have hg0 := heap_alloc_new w (.cells (tabV V t) 26)
  obtain ⟨W0, hW0⟩ : ∃ W, W = w.alloc (.cells (tabV V t) 26) := ⟨_, rfl⟩
  rw [← hW0] at hb0 hg0
  have HSZ0 : Hid (W0.heap.size = w.heap.size + 1) := by unfold Hid; rw [hW0]; simp
  have HTAB : ∀ X, Below W0.heap.size W0 X → Below w.heap.size w X ∧ TabAt X X.heap.size V t := fun X hb => ⟨chain hb0 hb, (h.below (chain hb0 hb)).more (chain hb0 hb).size⟩
  have HF : ∀ X : World, X.heap[w.heap.size]? = some (.cells (tabV V t) 26 (0, 0)) → X.cell? ⟨w.heap.size, 0, none⟩ = some (.slice V.A1 t.ts.length V.c1) ∧ X.cell? ⟨w.heap.size, 1, none⟩ = some (.slice V.A2 t.vs.length V.c2) ∧ X.cell? ⟨w.heap.size, 2, none⟩ = some (.slice V.A3 t.os.length V.c3) := fun X q => cells3 q
  have HG0 : Hid (∀ X, Below W0.heap.size W0 X → X.heap[w.heap.size]? = some (.cells (tabV V t) 26 (0, 0))) := fun X hb => (hb.block _ (Array.getElem?_eq_some_iff.1 hg0).1).trans hg0
  have A1 := HS.image V t W0 hb0 (HTAB W0 (Below.refl _ _)).2 ho hs
  have HAW := Lib.hid (fun X (hb : Below w.heap.size w X) => tableAwake HS X hb)
  have A2 := fun X (hb : Below w.heap.size w X) => HS.new t.os.length X hb hs.len.1 hs.len.2
  have hin : (imageR t).length ≤ 200 := by
    unfold imageR
    have e1 : (t.vs.flatMap imgV).length ≤ 2 * t.vs.length := by
      have : ∀ vs : List Vol, (vs.flatMap imgV).length ≤ 2 * vs.length := fun vs => by
        induction vs with
        | nil => simp
        | cons v vs ih =>
          rw [List.flatMap_cons, List.length_append, List.length_cons]
          have : (imgV v).length ≤ 2 := by unfold imgV; split <;> simp
          omega
      exact this _
    have e2 : ∀ k, ((List.range k).flatMap (imgO t.os)).length ≤ k := fun k => by
      induction k with
      | zero => simp
      | succ k ih =>
        rw [List.range_succ, List.flatMap_append, List.length_append]
        have : (imgO t.os k).length ≤ 1 := by unfold imgO; split <;> simp
        simp only [List.flatMap_cons, List.flatMap_nil, List.append_nil]
        omega
    have e3 : (t.ts.flatMap imgD).length ≤ t.ts.length := by
      have : ∀ ts : List Ten, (ts.flatMap imgD).length ≤ ts.length := fun ts => by
        induction ts with
        | nil => simp
        | cons v vs ih =>
          rw [List.flatMap_cons, List.length_append, List.length_cons]
          have : (imgD v).length ≤ 1 := by unfold imgD; split <;> simp
          omega
      exact this _
    have := e2 t.os.length
    rw [List.length_append, List.length_append, List.length_append, List.length_map]
    omega
  have hsn : (newR t.os.length).sound := newR_sound hs.len.1 hs.len.2
  have hback : applyR (newR t.os.length) (imageR t) = (0, t) := by rw [apply_one hsn]; exact image_back hs
  have hok : ∀ r ∈ imageR t, r.ok := image_ok ho n3
  have A3 : ∀ X V7 A3 c3, Below w.heap.size w X → TabAt X X.heap.size V7 (newR t.os.length) → RecsAt X X.heap.size A3 (imageR t) → (imageR t).length ≤ c3 → Calls Try.prog 19 #[.agg (tabV V7 (newR t.os.length)), .slice A3 (imageR t).length c3] X fun e w' => ∃ V', e = .returned (.tuple #[.agg (tabV V' t), .int .i64 0]) ∧ TabAt w' w'.heap.size V' t ∧ Below X.heap.size X w' := fun X V7 A3 c3 hb ht hrec hle => by
    have q := HS.apply V7 (newR t.os.length) A3 c3 (imageR t) X hb ht (newR_ok n3) hrec hle hok (by omega)
    rw [hback] at q
    exact q.mono fun e w' ⟨V', q1, q2, _, q4⟩ => ⟨V', q1, q2, q4⟩
  have SM : ∀ X V2, Below W0.heap.size W0 X → TabAt X X.heap.size V2 t → Calls Try.prog 16 #[.agg (tabV V2 t), .agg (tabV V t)] X fun e w' => e = .returned (.bool true) ∧ Below X.heap.size X w' := fun X V2 hb ht =>
    refSame16_any V2 V t X ht (HTAB X hb).2 (by omega) (by omega) (by omega)
  have e7 : ∀ V7 : TabW, tabV V7 (newR t.os.length) = #[.slice V7.A1 0 V7.c1, .slice V7.A2 0 V7.c2, .slice V7.A3 t.os.length V7.c3] := fun V7 => by
    unfold tabV newR
    simp only [List.length_nil, List.length_replicate]
  obtain ⟨R, hRd⟩ : ∃ R : Nat → Int × Tab, R = fun k => runR t (l.take k) := ⟨_, rfl⟩
  have hRk : ∀ k, R k = runR t (l.take k) := fun k => by rw [hRd]
  have HR0 : Hid (R 0 = (0, t)) := by unfold Hid; rw [hRk]; rfl
  have HSTEP : Hid (∀ k, (hk : k < l.length) → (R k).1 = 0 → applyR (R k).2 [l[k]] = R (k + 1)) := fun k hk h0 => by
    rw [hRk] at h0
    rw [hRk, hRk]; exact by_step hs hk h0
  have HROK : Hid (∀ k, (R k).2.ok ∧ (R k).2.ts.length ≤ 64 ∧ (R k).2.vs.length ≤ 64 ∧ (R k).2.os.length ≤ 64) := fun k => by
    rw [hRk, ← apply_one hs]
    by_cases h0 : (applyR t (l.take k)).1 = 0
    · have q := sound_few (apply_sound h0).2.1
      exact ⟨apply_ok, by omega, by omega, by omega⟩
    · refine ⟨apply_ok, ?_⟩
      rw [apply_zero h0]
      exact ⟨Nat.zero_le _, Nat.zero_le _, Nat.zero_le _⟩
  have HFIN : Hid (∀ k, k ≤ l.length → k ≤ 100 → (k = l.length ∨ k = 100 ∨ (R k).1 ≠ 0) → (l.length ≤ 100 → applyR t l = R k) ∧ (100 < l.length → applyR t (l.take 100) = R k)) := fun k h1 h2 h3 => by
    rw [hRk] at h3 ⊢
    rw [apply_one hs, apply_one hs]
    rcases h3 with h3 | h3 | h3
    · refine ⟨fun _ => ?_, fun q => by omega⟩
      rw [h3, List.take_length]
    · refine ⟨fun q => ?_, fun _ => by rw [h3]⟩
      rw [List.take_of_length_le (by omega)]
    · refine ⟨fun _ => by_stop h3, fun _ => ?_⟩
      have e : (l.take 100).take k = l.take k := by rw [List.take_take, Nat.min_eq_left h2]
      rw [← e] at h3 ⊢
      exact by_stop h3
  clear hRk hRd
  obtain ⟨IM, hIM⟩ : ∃ I, I = (imageR t).length := ⟨_, rfl⟩
  have HIMH := Lib.hid hIM
  simp only [e7] at A2 A3
  simp only [← hIM] at A1 A3 hin
  have hV : tabV V t = #[.slice V.A1 t.ts.length V.c1, .slice V.A2 t.vs.length V.c2, .slice V.A3 t.os.length V.c3] := rfl
  unfold tabV at hW0 A1 A3 SM
  rw [hV]
  have HA1 := Lib.hid A1
  have HA2 := Lib.hid A2
  have HA3 := Lib.hid A3
  have HSM := Lib.hid SM
  have HFH := Lib.hid HF
  have HTABH := Lib.hid HTAB
  have HB0 := Lib.hid hb0
  have HSH := Lib.hid HS
  have HLH := Lib.hid hl
  have HRH := Lib.hid hr
  have HSN := Lib.hid hs
  have HHH := Lib.hid h
  obtain ⟨f0, f1, f2⟩ := HF W0 hg0
  clear A1 A2 A3 SM HF HTAB hb0 hg0 hback hsn hok e7 hV ho h hl hr hs HS hIM
  go_enter Try.func6, Try.ntmps6
  go_wp2_with fail
  rw [← hW0]
  clear hW0
  go_wp2_with (first
    | (go_at_call 17; with_reducible (refine Calls.mono HA1.out ?_); rintro e w3 ⟨A3, c3, rfl, hle3, hrc3, _, hb3⟩)
    | (go_at_call 11; with_reducible (refine Calls.mono (HAW.out _ (chain HB0.out hb3)) ?_); rintro e w4 ⟨rfl, hb4⟩
       have hx4 := chain hb3 hb4
       have hrc4 := (hrc3.below hb4).more hb4.size
       obtain ⟨f0, f1, f2⟩ := HFH.out _ (HG0.out _ hx4))
    | (go_at_call 15; with_reducible (refine Calls.mono (HA2.out _ (chain HB0.out hx4)) ?_); rintro e w5 ⟨V7, rfl, ht5, _, hb5⟩
       have ha5 : Below w5.heap.size w5 (w5.alloc (.cells #[.slice V7.A1 0 V7.c1, .slice V7.A2 0 V7.c2, .slice V7.A3 t.os.length V7.c3] 26)) := (Below.refl _ _).alloc (Nat.le_refl _) _
       have hx5 := chain hx4 (chain hb5 ha5)
       have hrc5 := (hrc4.below (chain hb5 ha5)).more (chain hb5 ha5).size
       have ht5b := (ht5.below ha5).more ha5.size)
    | (go_at_call 19; with_reducible (refine Calls.mono (HA3.out _ _ _ _ (chain HB0.out hx5) ht5b hrc5 hle3) ?_); rintro e w6 ⟨V9, rfl, ht6, hb6⟩
       have ha6 : Below w6.heap.size w6 (w6.alloc (.cells #[.slice V9.A1 t.ts.length V9.c1, .slice V9.A2 t.vs.length V9.c2, .slice V9.A3 t.os.length V9.c3] 26)) := (Below.refl _ _).alloc (Nat.le_refl _) _
       have hx6 := chain hx5 (chain hb6 ha6)
       have ht6b := (ht6.below ha6).more ha6.size
       obtain ⟨f0, f1, f2⟩ := HFH.out _ (HG0.out _ hx6))
    | (go_at_call 16; with_reducible (refine Calls.mono (HSM.out _ _ hx6 ht6b) ?_); rintro e w7 ⟨rfl, hb7⟩
       have hx7 := chain hx6 hb7
       obtain ⟨f0, f1, f2⟩ := HFH.out _ (HG0.out _ hx7)))
  have ha7 : Below w7.heap.size w7 (w7.alloc (.cells #[.slice V.A1 t.ts.length V.c1, .slice V.A2 t.vs.length V.c2, .slice V.A3 t.os.length V.c3] 26)) := (Below.refl _ _).alloc (Nat.le_refl _) _
  have hn7 := heap_alloc_new w7 (.cells #[.slice V.A1 t.ts.length V.c1, .slice V.A2 t.vs.length V.c2, .slice V.A3 t.os.length V.c3] 26)
  have hq7 : w.heap.size < w7.heap.size := by have := hx7.size; have := HSZ0.out; omega
  obtain ⟨q, hq⟩ : ∃ q, q = w7.heap.size := ⟨_, rfl⟩
  obtain ⟨X0, hX0⟩ : ∃ X, X = w7.alloc (.cells #[.slice V.A1 t.ts.length V.c1, .slice V.A2 t.vs.length V.c2, .slice V.A3 t.os.length V.c3] 26) := ⟨_, rfl⟩
  rw [← hX0] at ha7 hn7 ⊢
  rw [← hq] at hn7 hq7 ⊢
  have hx0 := chain hx7 ha7
  have hql : q < X0.heap.size := (Array.getElem?_eq_some_iff.1 hn7).1
  have HST : Hid (BkR X0 q V (R 0).2 X0) := by
    rw [HR0.out]
    exact ⟨grown_refl _ _, hn7, (HTABH.out _ hx0).2, Off.of_at HHH.out (by omega)⟩
  have HX0 : Hid (Below W0.heap.size W0 X0 ∧ Below w.heap.size w X0 ∧ q < X0.heap.size ∧ w.heap.size < q) := ⟨hx0, chain HB0.out hx0, hql, hq7⟩
  have HBW : Hid (∀ X, X0.grownBy X (some q) → Below w.heap.size w X) := fun X hg => grown_below HX0.out.2.1 hg HX0.out.2.1.size (by omega)
  have HG0X : Hid (∀ X, X0.grownBy X (some q) → X.heap[w.heap.size]? = some (.cells (tabV V t) 26 (0, 0))) := fun X hg => (hg.block _ (by have := HX0.out; omega) (fun e => by injection e with e; have := HX0.out; omega)).trans (HG0.out _ hx0)
  clear hX0 hq hn7 ha7 hx0 hx7 hb7 hx6 ht6b ht6 hb6 ha6 hrc5 ht5b ht5 ha5 hb5 hx5 hrc4 hx4 hb4 hle3 hrc3 hb3 f0 f1 f2 hql hq7 HA1 HA2 HA3 HSM HAW hin HIMH
  have H00 : Hid ((R 0).1 = 0) := by unfold Hid; rw [HR0.out]
  obtain ⟨N, hN⟩ : ∃ N, N = l.length := ⟨_, rfl⟩
  have HN := Lib.hid hN
  simp only [← hN] at HFIN hm hc ⊢
  clear hN
  go_loopw [12, 13] (fun hv iv wr => ∃ (k : Nat) (V2 : TabW), k ≤ N ∧ k ≤ 100 ∧ iv = .int .i64 k ∧ hv = .int .i64 (R k).1 ∧ Hid (BkR X0 q V2 (R k).2 wr)) (fun _ iv _ => N - (intOf iv).toNat)
  case atStart => exact ⟨0, V, Nat.zero_le _, by omega, rfl, by rw [H00.out], HST.out⟩
  case round =>
    clear HST
    obtain ⟨k, V2, hk, hk100, rfl, rfl, S⟩ := hrel
    have k0 : (0 : Int) ≤ (k : Int) := by omega
    obtain ⟨E, hE⟩ : ∃ E, E = (R k).1 := ⟨_, rfl⟩
    have HE := Lib.hid hE
    rw [← hE]
    by_cases hgo : k < N ∧ k < 100 ∧ E = 0
    · obtain ⟨hlt, hlt2, h0⟩ := hgo
      have k1 : (k : Int) < (N : Int) := by omega
      have k2 : (k : Int) < 100 := by omega
      have hkx : k < l.length := by have := HN.out; omega
      subst h0
      obtain ⟨⟨y0, y1, y2⟩, yf0, yf1, yf2⟩ := cellsQ S.out.box
      have hrec := (HLH.out.below HX0.out.2.1).grown HX0.out.2.1.size S.out.gr (by have := HX0.out; omega)
      obtain ⟨b, off, rfl, hbl, q0, q1, q2, q3, q4, q5⟩ := rec_at6 hrec hkx
      have hrok := HRH.out _ (List.getElem_mem hkx)
      have hstep := HSTEP.out k hkx hE.symm
      obtain ⟨x, hx⟩ : ∃ x, x = l[k] := ⟨_, rfl⟩
      rw [← hx] at q0 q1 q2 q3 q4 q5 hrok hstep
      have hsz : Below wr.heap.size wr (wr.alloc (.cells (rcV x) 42)) := (Below.refl _ _).alloc (Nat.le_refl _) _
      have hap : Calls Try.prog 19 #[.agg (tabV V2 (R k).2), .slice (some ⟨wr.heap.size, 0, none⟩) 1 1] (wr.alloc (.cells (rcV x) 42)).drew fun e w' => ∃ V', e = .returned (.tuple #[.agg (tabV V' (applyR (R k).2 [x]).2), .int .i64 (applyR (R k).2 [x]).1]) ∧ TabAt w' w'.heap.size V' (applyR (R k).2 [x]).2 ∧ TabFrom wr.heap.size V' ∧ Below wr.heap.size wr.drew w' := apply_one_from HSH.out V2 (R k).2 x wr.drew ((HBW.out _ S.out.gr).drew) (S.out.tab.below (Below.refl _ _).drew) (HROK.out k).1 hrok
      rw [hstep] at hap
      obtain ⟨T, hT⟩ : ∃ T, T = (R k).2 := ⟨_, rfl⟩
      obtain ⟨T2, hT2⟩ : ∃ T, T = (R (k + 1)).2 := ⟨_, rfl⟩
      obtain ⟨E2, hE2⟩ : ∃ E, E = (R (k + 1)).1 := ⟨_, rfl⟩
      have HT2 := Lib.hid hT2
      have HE2 := Lib.hid hE2
      rw [← hT, ← hT2, ← hE2] at hap
      rw [← hT] at y0 y1 y2 S
      have hyq : ∀ X, Below wr.heap.size wr X → X.heap[q]? = some (.cells (tabV V2 T) 26 (0, 0)) := fun X hb => (hb.block _ (Array.getElem?_eq_some_iff.1 S.out.box).1).trans S.out.box
      obtain ⟨⟨u0, u1, u2⟩, uf0, uf1, uf2⟩ := cellsQ (hyq _ hsz)
      have HYQ := Lib.hid hyq
      unfold tabV rcV at hap
      unfold rcV at u0 u1 u2 uf0 uf1 uf2 hsz
      have HAP := Lib.hid hap
      clear hE hx hrok hstep hap hT hT2 hE2 hyq hrec hbl
      go_wp2_with fail
      go_region_with (go_at_call 19; with_reducible (refine Calls.mono HAP.out ?_); rintro e w6 ⟨V6, rfl, ht6, hf6, hb6'⟩; have hb6 : Below wr.heap.size wr w6 := (Below.refl _ _).drew.trans hb6'; have hq6 := HYQ.out _ hb6; obtain ⟨⟨v0, v1, v2⟩, vf0, vf1, vf2⟩ := cellsQ hq6)
      all_goals
        have hset := setQ (.slice V6.A1 T2.ts.length V6.c1) (.slice V6.A2 T2.vs.length V6.c2) (.slice V6.A3 T2.os.length V6.c3) hq6
        have S6 : Hid (BkR X0 q V6 (R (k + 1)).2 (((w6.setCell ⟨q, 0, none⟩ (.slice V6.A1 T2.ts.length V6.c1)).setCell ⟨q, 1, none⟩ (.slice V6.A2 T2.vs.length V6.c2)).setCell ⟨q, 2, none⟩ (.slice V6.A3 T2.os.length V6.c3))) := by
          unfold Hid
          rw [← HT2.out]
          have hoff : Off q V6 T2 := Off.of_from hf6 (Array.getElem?_eq_some_iff.1 S.out.box).1
          refine ⟨S.out.gr.trans ((grown_of_below hb6 _).trans hset.2.1), hset.1, ?_, hoff⟩
          rw [hset.2.2]
          exact ht6.grown (Nat.le_refl _) hset.2.1 hoff
        have HEK : Hid (Value.int .i64 E2 = .int .i64 (R (k + 1)).1) := by unfold Hid; rw [HE2.out]
        clear hset hq6 v0 v1 v2 vf0 vf1 vf2 ht6 hf6 hb6 hb6' S y0 y1 y2 yf0 yf1 yf2 u0 u1 u2 uf0 uf1 uf2 q0 q1 q2 q3 q4 q5 HAP HYQ HT2 HE2 HE hsz
        go_wp2
        rw [HEK.out]
        go_roundw
        case rel => first | exact ⟨k + 1, V6, by omega, by omega, by go_num, rfl, S6⟩ | ((repeat apply Exists.intro); exact ⟨⟨k + 1, V6, by omega, by omega, by go_num, rfl, S6⟩, rfl⟩)
        case measure => simp [intOf]; omega
    · have hfin := HFIN.out k hk hk100 (by
        by_cases a1 : k = N
        · exact .inl a1
        · by_cases a2 : k = 100
          · exact .inr (.inl a2)
          · exact .inr (.inr fun e => hgo ⟨by omega, by omega, by rw [hE]; exact e⟩))
      have hlen := (HROK.out k).2
      have hrw := (HLH.out.below HX0.out.2.1).grown HX0.out.2.1.size S.out.gr (by have := HX0.out; omega)
      have htw := ((HTABH.out _ HX0.out.1).2.grown (Nat.le_refl _) S.out.gr (Off.of_at HHH.out (by have := HX0.out; omega))).more S.out.gr.size
      have hrw2 := hrw.more (HBW.out _ S.out.gr).size
      by_cases hle : N ≤ 100
      · have HAPx : Calls Try.prog 19 #[.agg (tabV V t), .slice A N c] wr fun e w' => ∃ V', e = .returned (.tuple #[.agg (tabV V' (R k).2), .int .i64 E]) ∧ TabAt w' w'.heap.size V' (R k).2 ∧ Below wr.heap.size wr w' := by
          have h1 := HSH.out.apply V t A c l wr (HBW.out _ S.out.gr) htw (sound_ok HSN.out) hrw2 (by rw [← HN.out]; exact hc) HRH.out (by rw [← HN.out]; exact hm)
          rw [hfin.1 hle, ← HN.out, ← hE] at h1
          exact h1.mono fun e w' ⟨V', p1, p2, _, p4⟩ => ⟨V', p1, p2, p4⟩
        have k3 : ¬ (N : Int) > 100 := by omega
        clear hfin hrw htw hrw2
        by_cases a1 : k < N
        · by_cases a2 : k < 100
          · have a3 : E ≠ 0 := fun e => hgo ⟨a1, a2, e⟩
            have k1 : (k : Int) < (N : Int) := by omega
            have k2 : (k : Int) < 100 := by omega
            have d1 : (E == 0) = false := beq_eq_false_iff_ne.2 a3
            clear hgo a1 a2 a3 hle
            obtain ⟨T, hT⟩ : ∃ T, T = (R k).2 := ⟨_, rfl⟩
            rw [← hT] at S hlen HAPx
            obtain ⟨l1, l2, l3⟩ := hlen
            have HYQ : Hid (∀ X, Below wr.heap.size wr X → X.heap[q]? = some (.cells (tabV V2 T) 26 (0, 0))) := fun X hb => (hb.block _ (Array.getElem?_eq_some_iff.1 S.out.box).1).trans S.out.box
            have HC11 : Hid (∀ X : World, X.heap[q]? = some (.cells (tabV V2 T) 26 (0, 0)) → X.cell? ⟨q, 0, none⟩ = some (.slice V2.A1 T.ts.length V2.c1) ∧ X.cell? ⟨q, 1, none⟩ = some (.slice V2.A2 T.vs.length V2.c2) ∧ X.cell? ⟨q, 2, none⟩ = some (.slice V2.A3 T.os.length V2.c3)) := fun X q => cells3 q
            have SM2 : ∀ X V8, Below wr.heap.size wr X → TabAt X X.heap.size V8 T → Calls Try.prog 16 #[.agg (tabV V2 T), .agg (tabV V8 T)] X fun e w' => e = .returned (.bool true) ∧ Below X.heap.size X w' := fun X V8 hb ht =>
              refSame16_any V2 V8 T X ((S.out.tab.below hb).more hb.size) ht (by omega) (by omega) (by omega)
            unfold tabV at SM2 HAPx
            have HSM2 := Lib.hid SM2
            have HAP := Lib.hid HAPx
            obtain ⟨f0, f1, f2⟩ := HFH.out wr (HG0X.out _ S.out.gr)
            have hbw := HBW.out _ S.out.gr
            clear SM2 HAPx hE hT l1 l2 l3 HFIN HROK HSTEP HLH HRH HSH HTABH HG0X HBW HG0 HFH HHH HSN
            go_wp2_with (first
              | (go_at_call 19; with_reducible (refine Calls.mono HAP.out ?_); rintro e w8 ⟨V8, rfl, ht8, hb8⟩
                 have ha8 : Below w8.heap.size w8 (w8.alloc (.cells #[.slice V8.A1 T.ts.length V8.c1, .slice V8.A2 T.vs.length V8.c2, .slice V8.A3 T.os.length V8.c3] 26)) := (Below.refl _ _).alloc (Nat.le_refl _) _
                 have hx8 := chain hb8 ha8
                 have ht9 := (ht8.below ha8).more ha8.size
                 obtain ⟨y0, y1, y2⟩ := HC11.out _ (HYQ.out _ hx8))
              | (go_at_call 16; with_reducible (refine Calls.mono (HSM2.out _ _ hx8 ht9) ?_); rintro e w9 ⟨rfl, hb9⟩))
            go_ret
            exact ⟨rfl, chain hbw (chain hx8 hb9)⟩
          · omega
        · have k1 : ¬ (k : Int) < (N : Int) := by omega
          clear hgo a1 hle
          obtain ⟨T, hT⟩ : ∃ T, T = (R k).2 := ⟨_, rfl⟩
          rw [← hT] at S hlen HAPx
          obtain ⟨l1, l2, l3⟩ := hlen
          have HYQ : Hid (∀ X, Below wr.heap.size wr X → X.heap[q]? = some (.cells (tabV V2 T) 26 (0, 0))) := fun X hb => (hb.block _ (Array.getElem?_eq_some_iff.1 S.out.box).1).trans S.out.box
          have HC11 : Hid (∀ X : World, X.heap[q]? = some (.cells (tabV V2 T) 26 (0, 0)) → X.cell? ⟨q, 0, none⟩ = some (.slice V2.A1 T.ts.length V2.c1) ∧ X.cell? ⟨q, 1, none⟩ = some (.slice V2.A2 T.vs.length V2.c2) ∧ X.cell? ⟨q, 2, none⟩ = some (.slice V2.A3 T.os.length V2.c3)) := fun X q => cells3 q
          have SM2 : ∀ X V8, Below wr.heap.size wr X → TabAt X X.heap.size V8 T → Calls Try.prog 16 #[.agg (tabV V2 T), .agg (tabV V8 T)] X fun e w' => e = .returned (.bool true) ∧ Below X.heap.size X w' := fun X V8 hb ht =>
            refSame16_any V2 V8 T X ((S.out.tab.below hb).more hb.size) ht (by omega) (by omega) (by omega)
          unfold tabV at SM2 HAPx
          have HSM2 := Lib.hid SM2
          have HAP := Lib.hid HAPx
          obtain ⟨f0, f1, f2⟩ := HFH.out wr (HG0X.out _ S.out.gr)
          have hbw := HBW.out _ S.out.gr
          clear SM2 HAPx hE hT l1 l2 l3 HFIN HROK HSTEP HLH HRH HSH HTABH HG0X HBW HG0 HFH HHH HSN
          go_wp2_with (first
            | (go_at_call 19; with_reducible (refine Calls.mono HAP.out ?_); rintro e w8 ⟨V8, rfl, ht8, hb8⟩
               have ha8 : Below w8.heap.size w8 (w8.alloc (.cells #[.slice V8.A1 T.ts.length V8.c1, .slice V8.A2 T.vs.length V8.c2, .slice V8.A3 T.os.length V8.c3] 26)) := (Below.refl _ _).alloc (Nat.le_refl _) _
               have hx8 := chain hb8 ha8
               have ht9 := (ht8.below ha8).more ha8.size
               obtain ⟨y0, y1, y2⟩ := HC11.out _ (HYQ.out _ hx8))
            | (go_at_call 16; with_reducible (refine Calls.mono (HSM2.out _ _ hx8 ht9) ?_); rintro e w9 ⟨rfl, hb9⟩))
          go_ret
          exact ⟨rfl, chain hbw (chain hx8 hb9)⟩
      · have HAPx : Calls Try.prog 19 #[.agg (tabV V t), .slice A 100 c] wr fun e w' => ∃ V', e = .returned (.tuple #[.agg (tabV V' (R k).2), .int .i64 E]) ∧ TabAt w' w'.heap.size V' (R k).2 ∧ Below wr.heap.size wr w' := by
          have hl100 : (l.take 100).length = 100 := by rw [List.length_take, ← HN.out]; omega
          have h1 := HSH.out.apply V t A c (l.take 100) wr (HBW.out _ S.out.gr) htw (sound_ok HSN.out) (hrw2.take 100) (by omega) (fun r hr => HRH.out r (List.mem_of_mem_take hr)) (by omega)
          rw [hfin.2 (by omega), hl100, ← hE] at h1
          exact h1.mono fun e w' ⟨V', p1, p2, _, p4⟩ => ⟨V', p1, p2, p4⟩
        have k3 : (N : Int) > 100 := by omega
        have k4 : (100 : Int) ≤ (c : Int) := by omega
        clear hfin hrw htw hrw2
        have a1 : k < N := by omega
        have k1 : (k : Int) < (N : Int) := by omega
        by_cases a2 : k < 100
        · have a3 : E ≠ 0 := fun e => hgo ⟨a1, a2, e⟩
          have k2 : (k : Int) < 100 := by omega
          have d1 : (E == 0) = false := beq_eq_false_iff_ne.2 a3
          clear hgo a1 a2 a3 hle
          obtain ⟨T, hT⟩ : ∃ T, T = (R k).2 := ⟨_, rfl⟩
          rw [← hT] at S hlen HAPx
          obtain ⟨l1, l2, l3⟩ := hlen
          have HYQ : Hid (∀ X, Below wr.heap.size wr X → X.heap[q]? = some (.cells (tabV V2 T) 26 (0, 0))) := fun X hb => (hb.block _ (Array.getElem?_eq_some_iff.1 S.out.box).1).trans S.out.box
          have HC11 : Hid (∀ X : World, X.heap[q]? = some (.cells (tabV V2 T) 26 (0, 0)) → X.cell? ⟨q, 0, none⟩ = some (.slice V2.A1 T.ts.length V2.c1) ∧ X.cell? ⟨q, 1, none⟩ = some (.slice V2.A2 T.vs.length V2.c2) ∧ X.cell? ⟨q, 2, none⟩ = some (.slice V2.A3 T.os.length V2.c3)) := fun X q => cells3 q
          have SM2 : ∀ X V8, Below wr.heap.size wr X → TabAt X X.heap.size V8 T → Calls Try.prog 16 #[.agg (tabV V2 T), .agg (tabV V8 T)] X fun e w' => e = .returned (.bool true) ∧ Below X.heap.size X w' := fun X V8 hb ht =>
            refSame16_any V2 V8 T X ((S.out.tab.below hb).more hb.size) ht (by omega) (by omega) (by omega)
          unfold tabV at SM2 HAPx
          have HSM2 := Lib.hid SM2
          have HAP := Lib.hid HAPx
          obtain ⟨f0, f1, f2⟩ := HFH.out wr (HG0X.out _ S.out.gr)
          have hbw := HBW.out _ S.out.gr
          clear SM2 HAPx hE hT l1 l2 l3 HFIN HROK HSTEP HLH HRH HSH HTABH HG0X HBW HG0 HFH HHH HSN
          go_wp2_with (first
            | (go_at_call 19; with_reducible (refine Calls.mono HAP.out ?_); rintro e w8 ⟨V8, rfl, ht8, hb8⟩
               have ha8 : Below w8.heap.size w8 (w8.alloc (.cells #[.slice V8.A1 T.ts.length V8.c1, .slice V8.A2 T.vs.length V8.c2, .slice V8.A3 T.os.length V8.c3] 26)) := (Below.refl _ _).alloc (Nat.le_refl _) _
               have hx8 := chain hb8 ha8
               have ht9 := (ht8.below ha8).more ha8.size
               obtain ⟨y0, y1, y2⟩ := HC11.out _ (HYQ.out _ hx8))
            | (go_at_call 16; with_reducible (refine Calls.mono (HSM2.out _ _ hx8 ht9) ?_); rintro e w9 ⟨rfl, hb9⟩))
          go_ret
          exact ⟨rfl, chain hbw (chain hx8 hb9)⟩
        · have k2 : ¬ (k : Int) < 100 := by omega
          clear hgo a1 a2 hle
          obtain ⟨T, hT⟩ : ∃ T, T = (R k).2 := ⟨_, rfl⟩
          rw [← hT] at S hlen HAPx
          obtain ⟨l1, l2, l3⟩ := hlen
          have HYQ : Hid (∀ X, Below wr.heap.size wr X → X.heap[q]? = some (.cells (tabV V2 T) 26 (0, 0))) := fun X hb => (hb.block _ (Array.getElem?_eq_some_iff.1 S.out.box).1).trans S.out.box
          have HC11 : Hid (∀ X : World, X.heap[q]? = some (.cells (tabV V2 T) 26 (0, 0)) → X.cell? ⟨q, 0, none⟩ = some (.slice V2.A1 T.ts.length V2.c1) ∧ X.cell? ⟨q, 1, none⟩ = some (.slice V2.A2 T.vs.length V2.c2) ∧ X.cell? ⟨q, 2, none⟩ = some (.slice V2.A3 T.os.length V2.c3)) := fun X q => cells3 q
          have SM2 : ∀ X V8, Below wr.heap.size wr X → TabAt X X.heap.size V8 T → Calls Try.prog 16 #[.agg (tabV V2 T), .agg (tabV V8 T)] X fun e w' => e = .returned (.bool true) ∧ Below X.heap.size X w' := fun X V8 hb ht =>
            refSame16_any V2 V8 T X ((S.out.tab.below hb).more hb.size) ht (by omega) (by omega) (by omega)
          unfold tabV at SM2 HAPx
          have HSM2 := Lib.hid SM2
          have HAP := Lib.hid HAPx
          obtain ⟨f0, f1, f2⟩ := HFH.out wr (HG0X.out _ S.out.gr)
          have hbw := HBW.out _ S.out.gr
          clear SM2 HAPx hE hT l1 l2 l3 HFIN HROK HSTEP HLH HRH HSH HTABH HG0X HBW HG0 HFH HHH HSN
          go_wp2_with (first
            | (go_at_call 19; with_reducible (refine Calls.mono HAP.out ?_); rintro e w8 ⟨V8, rfl, ht8, hb8⟩
               have ha8 : Below w8.heap.size w8 (w8.alloc (.cells #[.slice V8.A1 T.ts.length V8.c1, .slice V8.A2 T.vs.length V8.c2, .slice V8.A3 T.os.length V8.c3] 26)) := (Below.refl _ _).alloc (Nat.le_refl _) _
               have hx8 := chain hb8 ha8
               have ht9 := (ht8.below ha8).more ha8.size
               obtain ⟨y0, y1, y2⟩ := HC11.out _ (HYQ.out _ hx8))
            | (go_at_call 16; with_reducible (refine Calls.mono (HSM2.out _ _ hx8 ht9) ?_); rintro e w9 ⟨rfl, hb9⟩))
          go_ret
          exact ⟨rfl, chain hbw (chain hx8 hb9)⟩

/-- TableBack. -/
theorem tableBack_go (V : TabW) (t : Tab) (A : Option Addr) (c : Nat) (l : List Rc) (w : World) (HS : TableSpec w) (h : TabAt w w.heap.size V t) (ho : t.ok) (hl : RecsAt w w.heap.size A l) (hc : l.length ≤ c) (hr : ∀ r ∈ l, r.ok) (hm : l.length ≤ 140737488355328) :
    Calls Try.prog 6 #[.agg (tabV V t), .slice A l.length c] w fun e w' => e = .returned (.bool true) ∧ Below w.heap.size w w' := by
  by_cases hs : t.sound
  · exact tableBack_yes V t A c l w HS h hl hc hr hm hs
  · exact tableBack_no V t A c l.length w HS h ho hs

end Go.Proofs.Ytnenpafofplbhaa
