/-
  The document's own Sound (stowageref16).
-/
import Derived.Test.YtnenpafofplbhaaGreatTableLaws
import Derived.Deep.RegionHeld3
namespace Go.Proofs.YtnenpafofplbhaaGreat
open Go.RowKit

/-! ### Plain -/
def gd1 (t : Tab) (k : Nat) : Prop := ∃ h : k < t.ts.length, plainQ t.ts[k].id t.ts[k].quota t.ts[k].rate t.ts[k].burst t.ts[k].key ∧ (∀ h2 : 0 < k, (t.ts[k - 1]'(by omega)).id < t.ts[k].id) ∧ (ownN t.os t.ts[k].id : Int) ≤ t.ts[k].quota
def gd2 (t : Tab) (k : Nat) : Prop := ∃ h : k < t.vs.length, inR t.vs[k].id 0 7 ∧ (∀ h2 : 0 < k, (t.vs[k - 1]'(by omega)).id < t.vs[k].id) ∧ (tenAt t.ts t.vs[k].ten).isSome = true ∧ inR t.vs[k].blocks 0 32 ∧ inR t.vs[k].base 0 1099511627776
def gd3 (t : Tab) (k : Nat) : Prop := t.os.getD k 0 = 0 ∨ (tenAt t.ts (t.os.getD k 0)).isSome = true
theorem up_of_steps {α : Type} {f : α → Int} {l : List α} (h : ∀ k, (h : k < l.length) → ∀ h2 : 0 < k, f (l[k - 1]'(by omega)) < f l[k]) : l.Pairwise fun x y => f x < f y := by
  rw [List.pairwise_iff_getElem]
  intro i j hi hj hij
  induction j with
  | zero => omega
  | succ j ih =>
    have hs : f l[j] < f l[j + 1] := h (j + 1) hj (Nat.succ_pos j)
    rcases Nat.lt_or_ge i j with q | q
    · have := ih (by omega) q; omega
    · have : i = j := by omega
      subst this; exact hs
theorem steps_of_up {α : Type} {f : α → Int} {l : List α} (h : l.Pairwise fun x y => f x < f y) (k : Nat) (hk : k < l.length) (h2 : 0 < k) : f (l[k - 1]'(by omega)) < f l[k] :=
  List.pairwise_iff_getElem.1 h (k - 1) k (by omega) hk (by omega)
theorem plainQ_iff (x : Ten) : plainQ x.id x.quota x.rate x.burst x.key ↔ x.plain :=
  ⟨fun ⟨a, b, c, d, e⟩ => ⟨a, b, c, d, e⟩, fun ⟨a, b, c, d, e⟩ => ⟨a, b, c, d, e⟩⟩
theorem sound_goods (t : Tab) : t.sound ↔ inR (t.os.length : Int) 1 64 ∧ t.ts.length ≤ 7 ∧ t.vs.length ≤ 8 ∧ (∀ k, k < t.ts.length → gd1 t k) ∧ (∀ k, k < t.vs.length → gd2 t k) ∧ (∀ k, k < t.os.length → gd3 t k) ∧ sumQ t.ts ≤ t.os.length := by
  constructor
  · intro h
    obtain ⟨n1, n2, n3⟩ := sound_few h
    refine ⟨by have := h.len; unfold inR; omega, n1, n2, fun k hk => ⟨hk, (plainQ_iff _).2 (h.ten _ (List.getElem_mem hk)).1, steps_of_up h.up k hk, (h.ten _ (List.getElem_mem hk)).2⟩, fun k hk => ?_, fun k hk => h.own _ (getD_mem hk), h.sum⟩
    obtain ⟨a, b, c, d⟩ := h.vol _ (List.getElem_mem hk)
    exact ⟨hk, a, steps_of_up h.vup k hk, b, c, d⟩
  · rintro ⟨a, _, _, b, c, d, e⟩
    refine ⟨by unfold inR at a; omega, fun x hx => ?_, up_of_steps fun k hk h2 => by obtain ⟨_, _, q, _⟩ := b k hk; exact q h2, fun v hv => ?_, up_of_steps fun k hk h2 => by obtain ⟨_, _, q, _⟩ := c k hk; exact q h2, fun o ho => ?_, e⟩
    · obtain ⟨k, hk, rfl⟩ := List.getElem_of_mem hx
      obtain ⟨_, p, _, q⟩ := b k hk
      exact ⟨(plainQ_iff _).1 p, q⟩
    · obtain ⟨k, hk, rfl⟩ := List.getElem_of_mem hv
      obtain ⟨_, p, _, q, r, s⟩ := c k hk
      exact ⟨p, q, r, s⟩
    · obtain ⟨k, hk, rfl⟩ := List.getElem_of_mem ho
      have := d k hk
      unfold gd3 at this
      rwa [List.getD_eq_getElem?_getD, List.getElem?_eq_getElem hk, Option.getD_some] at this
theorem tenI_sign (ts : List Ten) (id : Int) (hm : ts.length ≤ 9223372036854775807) : -1 ≤ tenI ts id ∧ tenI ts id ≤ 9223372036854775807 ∧ (tenI ts id < 0 ↔ (tenAt ts id).isSome = false) := by
  unfold tenI
  have key : (tenAt ts id).isSome = true ↔ ts.findIdx (fun x => decide (x.id = id)) < ts.length := by
    rw [tenAt_isSome, List.findIdx_lt_length]
    simp
  by_cases h : ts.findIdx (fun x => decide (x.id = id)) < ts.length
  · rw [if_pos h, key.2 h]
    refine ⟨by omega, by omega, fun q => by omega, fun q => by cases q⟩
  · rw [if_neg h]
    refine ⟨by omega, by omega, fun _ => ?_, fun _ => by omega⟩
    cases hs : (tenAt ts id).isSome with
    | false => rfl
    | true => exact absurd (key.1 hs) h
theorem cellsL6 {X : World} {g : Nat} {T : TypeId} {v0 v1 v2 v3 v4 v5 : Value} (h : X.heap[g]? = some (.cells #[v0, v1, v2, v3, v4, v5] T (0, 0))) : X.cell? ⟨g, 0, none⟩ = some v0 ∧ X.cell? ⟨g, 1, none⟩ = some v1 ∧ X.cell? ⟨g, 2, none⟩ = some v2 ∧ X.cell? ⟨g, 3, none⟩ = some v3 ∧ X.cell? ⟨g, 4, none⟩ = some v4 :=
  ⟨by rw [cell_of_row _ _ _ _ _ _ h]; rfl, by rw [cell_of_row _ _ _ _ _ _ h]; rfl, by rw [cell_of_row _ _ _ _ _ _ h]; rfl, by rw [cell_of_row _ _ _ _ _ _ h]; rfl, by rw [cell_of_row _ _ _ _ _ _ h]; rfl⟩
theorem cellsL4 {X : World} {g : Nat} {T : TypeId} {v0 v1 v2 v3 : Value} (h : X.heap[g]? = some (.cells #[v0, v1, v2, v3] T (0, 0))) : X.cell? ⟨g, 0, none⟩ = some v0 ∧ X.cell? ⟨g, 1, none⟩ = some v1 ∧ X.cell? ⟨g, 2, none⟩ = some v2 ∧ X.cell? ⟨g, 3, none⟩ = some v3 :=
  ⟨by rw [cell_of_row _ _ _ _ _ _ h]; rfl, by rw [cell_of_row _ _ _ _ _ _ h]; rfl, by rw [cell_of_row _ _ _ _ _ _ h]; rfl, by rw [cell_of_row _ _ _ _ _ _ h]; rfl⟩
theorem cellsL3 {X : World} {g : Nat} {T : TypeId} {v0 v1 v2 : Value} (h : X.heap[g]? = some (.cells #[v0, v1, v2] T (0, 0))) : X.cell? ⟨g, 0, none⟩ = some v0 ∧ X.cell? ⟨g, 1, none⟩ = some v1 ∧ X.cell? ⟨g, 2, none⟩ = some v2 :=
  ⟨by rw [cell_of_row _ _ _ _ _ _ h]; rfl, by rw [cell_of_row _ _ _ _ _ _ h]; rfl, by rw [cell_of_row _ _ _ _ _ _ h]; rfl⟩

open Classical in
set_option maxHeartbeats 12800000 in
set_option maxRecDepth 20000 in
/-- 'Sound'. -/
theorem refSound16_any (V : TabW) (t : Tab) (w : World) (h : TabAt w w.heap.size V t) (ho : t.ok) (S : Bool) (hS : S = true ↔ t.sound) :
    Calls Tryz.prog 12 #[.agg (tabV V t)] w fun e w' => e = .returned (.bool S) ∧ Below w.heap.size w w' := by
  have hb0 : Below w.heap.size w (w.alloc (.cells (tabV V t) 26)) := (Below.refl _ _).alloc (Nat.le_refl _) _
  have hg0 := heap_alloc_new w (.cells (tabV V t) 26)
  obtain ⟨W0, hW0⟩ : ∃ W, W = w.alloc (.cells (tabV V t) 26) := ⟨_, rfl⟩
  rw [← hW0] at hb0 hg0
  have HF : ∀ X, Below W0.heap.size W0 X → X.cell? ⟨w.heap.size, 0, none⟩ = some (.slice V.A1 t.ts.length V.c1) ∧ X.cell? ⟨w.heap.size, 1, none⟩ = some (.slice V.A2 t.vs.length V.c2) ∧ X.cell? ⟨w.heap.size, 2, none⟩ = some (.slice V.A3 t.os.length V.c3) := fun X hb => cellsL3 ((hb.block _ (Array.getElem?_eq_some_iff.1 hg0).1).trans hg0)
  have HTB : Hid (∀ X, Below W0.heap.size W0 X → TabAt X W0.heap.size V t) := fun X hb => (h.below (chain hb0 hb)).more hb0.size
  have HOW : ∀ id X, Below W0.heap.size W0 X → Calls Tryz.prog 36 #[.agg (tabV V t), .int .i64 id] X fun e w' => e = .returned (.int .i64 (ownN t.os id : Nat)) ∧ Below X.heap.size X w' := fun id X hb => refOwn_any V t id X ((h.below (chain hb0 hb)).more (chain hb0 hb).size) ho.no
  have HTE : ∀ id X, Below W0.heap.size W0 X → Calls Tryz.prog 37 #[.agg (tabV V t), .int .i64 id] X fun e w' => e = .returned (.int .i64 (tenI t.ts id)) ∧ Below X.heap.size X w' := fun id X hb => refTen_any V t id X ((h.below (chain hb0 hb)).more (chain hb0 hb).size) ho.nt
  have HQU : t.ts.length ≤ 1000 → (∀ x ∈ t.ts, 1 ≤ x.quota ∧ x.quota ≤ 64) → ∀ X, Below W0.heap.size W0 X → Calls Tryz.prog 38 #[.agg (tabV V t)] X fun e w' => e = .returned (.int .i64 (sumQ t.ts)) ∧ Below X.heap.size X w' := fun h1 h2 X hb => refQuotas_any V t X ((h.below (chain hb0 hb)).more (chain hb0 hb).size) h1 h2
  have HIN := Lib.hid (fun n a b W => refIn16_any n a b W)
  have HPL := Lib.hid (fun a b c d e W => refPlain_any a b c d e W)
  rw [sound_goods] at hS
  have HS := Lib.hid hS
  have HSG : Hid (∀ id, -1 ≤ tenI t.ts id ∧ tenI t.ts id ≤ 9223372036854775807 ∧ (tenI t.ts id < 0 ↔ (tenAt t.ts id).isSome = false)) := fun id => tenI_sign _ _ ho.nt
  have HOL : Hid (∀ k, ownN t.os k ≤ t.os.length) := fun k => ownN_le _ _
  have HM := Lib.hid ho
  unfold tabV at HOW HTE HQU hW0 ⊢
  obtain ⟨f0, f1, f2⟩ := HF W0 (Below.refl _ _)
  have HFH := Lib.hid HF
  have HOWH := Lib.hid HOW
  have HTEH := Lib.hid HTE
  have HQUH := Lib.hid HQU
  have HB0 := Lib.hid hb0
  obtain ⟨N1, hN1⟩ : ∃ N, N = t.ts.length := ⟨_, rfl⟩
  obtain ⟨N2, hN2⟩ : ∃ N, N = t.vs.length := ⟨_, rfl⟩
  obtain ⟨N3, hN3⟩ : ∃ N, N = t.os.length := ⟨_, rfl⟩
  have HN1 := Lib.hid hN1
  have HN2 := Lib.hid hN2
  have HN3 := Lib.hid hN3
  obtain ⟨q0, hq0⟩ : ∃ q, q = w.heap.size := ⟨_, rfl⟩
  have hnt := ho.nt
  have hnv := ho.nv
  have hno := ho.no
  simp only [← hN1, ← hN2, ← hN3] at HFH HOWH HTEH HQUH HS HOL hW0 f0 f1 f2 hnt hnv hno ⊢
  clear HF HOW HTE HQU hb0 hg0 hS h ho hN1 hN2 hN3
  have hin := fun W => HIN.out (N3 : Int) 1 64 W
  by_cases hlen : inR (N3 : Int) 1 64
  · rw [decide_eq_true hlen] at hin
    have hn64 : N3 ≤ 64 := by unfold inR at hlen; omega
    by_cases h7 : N1 ≤ 7
    · by_cases h8 : N2 ≤ 8
      · have d1 : ¬ (N1 : Int) > 7 := by omega
        have d2 : ¬ (N2 : Int) > 8 := by omega
        have HL := Lib.hid hlen
        have HIN1 := Lib.hid hin
        clear hlen hin
        go_enter Tryz.func12, Tryz.ntmps12
        go_wp2_with fail
        rw [← hW0]
        clear hW0
        rw [← hq0] at f0 f1 f2 HFH
        rw [← hq0]
        clear hq0
        go_wp2_with (go_at_call 34; with_reducible (refine Calls.mono (HIN1.out _) ?_); rintro e w1 ⟨rfl, rfl⟩)
        clear f0 f1 f2 d1 d2 HIN1
        go_loopw [3] (fun i wr => ∃ k : Nat, k ≤ N1 ∧ i = .int .i64 k ∧ Hid (∀ j, j < k → gd1 t j) ∧ Hid (Below W0.heap.size W0 wr)) (fun i _ => N1 - (intOf i).toNat)
        case atStart => exact ⟨0, Nat.zero_le _, rfl, fun j hj => absurd hj (Nat.not_lt_zero j), Below.refl _ _⟩
        case round =>
          obtain ⟨k, hk, rfl, hI, hB⟩ := hrel
          have k0 : (0 : Int) ≤ (k : Int) := by omega
          by_cases hlt : k < N1
          · have k1 : (k : Int) < (N1 : Int) := by omega
            have hkx : k < t.ts.length := by have := HN1.out; omega
            obtain ⟨b, off, hA, hbl, u0, u1, u2, u3, u4, u5⟩ := (HTB.out wr hB.out).ts k hkx
            have hpl := fun W => HPL.out t.ts[k].id t.ts[k].quota t.ts[k].rate t.ts[k].burst t.ts[k].key W
            have how := fun X hb => HOWH.out t.ts[k].id X hb
            obtain ⟨LO, hLO⟩ : ∃ P : Prop, (P ↔ ∀ h2 : 0 < k, (t.ts[k - 1]'(by omega)).id < t.ts[k].id) := ⟨_, Iff.rfl⟩
            have hgd : gd1 t k ↔ plainQ t.ts[k].id t.ts[k].quota t.ts[k].rate t.ts[k].burst t.ts[k].key ∧ LO ∧ (ownN t.os t.ts[k].id : Int) ≤ t.ts[k].quota := ⟨fun ⟨_, q1, q2, q3⟩ => ⟨q1, hLO.2 q2, q3⟩, fun ⟨q1, q2, q3⟩ => ⟨hkx, q1, hLO.1 q2, q3⟩⟩
            have hmle := HOL.out t.ts[k].id
            obtain ⟨m, hm⟩ : ∃ m, m = ownN t.os t.ts[k].id := ⟨_, rfl⟩
            simp only [← hm] at how hgd hmle
            obtain ⟨j, pz, hjk, hlo, hpc⟩ : ∃ (j : Nat) (pz : Int), (0 < k → k = j + 1) ∧ (LO ↔ (0 < k → pz < t.ts[k].id)) ∧ ∀ X, Below W0.heap.size W0 X → 0 < k → X.cell? ⟨b, off + j * 6, none⟩ = some (.int .i64 pz) := by
              by_cases h0 : k = 0
              · exact ⟨0, 0, fun q => by omega, ⟨fun _ q => by omega, fun _ => hLO.2 fun q => by omega⟩, fun _ _ q => by omega⟩
              · obtain ⟨j, hj⟩ : ∃ j, k = j + 1 := ⟨k - 1, by omega⟩
                have hjx : j < t.ts.length := by omega
                refine ⟨j, t.ts[j].id, fun _ => hj, ?_, fun X hb _ => ?_⟩
                · rw [hLO]
                  simp only [show k - 1 = j by omega]
                · obtain ⟨b2, off2, e, _, c0, _⟩ := (HTB.out X hb).ts j hjx
                  rw [hA] at e
                  injection e with e
                  injection e with e1 e2
                  subst e1 e2
                  exact c0
            clear hLO
            obtain ⟨x, hx⟩ : ∃ x, x = t.ts[k] := ⟨_, rfl⟩
            simp only [← hx] at u0 u1 u2 u3 u4 u5 hpl how hgd hlo
            clear hx hm
            obtain ⟨p0, p1, p2, p3, p4, p5⟩ := x
            simp only at u0 u1 u2 u3 u4 u5 hpl how hgd hlo
            obtain ⟨bp, hbp⟩ : ∃ b, b = decide (plainQ p0 p1 p2 p3 p4) := ⟨_, rfl⟩
            simp only [← hbp] at hpl
            have HBP : Hid (bp = true ↔ plainQ p0 p1 p2 p3 p4) := by unfold Hid; rw [hbp, decide_eq_true_iff]
            have HLOI := Lib.hid hlo
            have HPC := Lib.hid hpc
            have HJK := Lib.hid hjk
            have HPL1 := Lib.hid hpl
            clear hbp hlo hpc hjk hpl
            have hb1 : Below wr.heap.size wr (wr.alloc (.cells #[.int .i64 p0, .int .i64 p1, .int .i64 p2, .int .i64 p3, .string p4, .bool p5] 49)) := (Below.refl _ _).alloc (Nat.le_refl _) _
            have HX : Hid (∀ X, Below (wr.alloc (.cells #[.int .i64 p0, .int .i64 p1, .int .i64 p2, .int .i64 p3, .string p4, .bool p5] 49)).heap.size (wr.alloc (.cells #[.int .i64 p0, .int .i64 p1, .int .i64 p2, .int .i64 p3, .string p4, .bool p5] 49)) X → X.cell? ⟨wr.heap.size, 0, none⟩ = some (.int .i64 p0) ∧ X.cell? ⟨wr.heap.size, 1, none⟩ = some (.int .i64 p1) ∧ X.cell? ⟨wr.heap.size, 2, none⟩ = some (.int .i64 p2) ∧ X.cell? ⟨wr.heap.size, 3, none⟩ = some (.int .i64 p3) ∧ X.cell? ⟨wr.heap.size, 4, none⟩ = some (.string p4)) := fun X hb => cellsL6 ((hb.block _ (by simp)).trans (heap_alloc_new wr _))
            have HWR := Lib.hid (chain hB.out hb1)
            obtain ⟨A1, c1, A2, c2, A3, c3⟩ := V
            simp only at hA
            subst hA
            simp only at HFH HOWH how
            obtain ⟨f0, f1, f2⟩ := HFH.out wr hB.out
            have HOWN := Lib.hid how
            have HGD := Lib.hid hgd
            have HNX : Hid (gd1 t k → ∀ j, j < k + 1 → gd1 t j) := fun hg j hj => by
              rcases Nat.lt_or_ge j k with q | q
              · exact hI.out j q
              · have : j = k := by omega
                subst this; exact hg
            have HNO : Hid (¬ gd1 t k → S = false) := fun hg => by
              cases hs : S with
              | false => rfl
              | true => exact absurd ((HS.out.1 hs).2.2.2.1 k hlt) hg
            clear how hgd hI
            go_wp2
            have hbx : Below (wr.alloc (.cells #[.int .i64 p0, .int .i64 p1, .int .i64 p2, .int .i64 p3, .string p4, .bool p5] 49)).heap.size (wr.alloc (.cells #[.int .i64 p0, .int .i64 p1, .int .i64 p2, .int .i64 p3, .string p4, .bool p5] 49)) (wr.alloc (.cells #[.int .i64 p0, .int .i64 p1, .int .i64 p2, .int .i64 p3, .string p4, .bool p5] 49)).drew := (Below.refl _ _).drew
            obtain ⟨W1, hW1⟩ : ∃ W, W = (wr.alloc (.cells #[.int .i64 p0, .int .i64 p1, .int .i64 p2, .int .i64 p3, .string p4, .bool p5] 49)) := ⟨_, rfl⟩
            obtain ⟨q1, hq1⟩ : ∃ q, q = wr.heap.size := ⟨_, rfl⟩
            rw [← hW1] at HX HWR hbx ⊢
            rw [← hq1] at HX ⊢
            clear hW1 hq1 hb1 f0 f1 f2
            refine wp_region_held_drew (S := (fun X => (X.cell? ⟨q1, 0, none⟩ = some (.int .i64 p0) ∧ X.cell? ⟨q1, 1, none⟩ = some (.int .i64 p1) ∧ X.cell? ⟨q1, 2, none⟩ = some (.int .i64 p2) ∧ X.cell? ⟨q1, 3, none⟩ = some (.int .i64 p3) ∧ X.cell? ⟨q1, 4, none⟩ = some (.string p4)) ∧ (X.cell? ⟨q0, 0, none⟩ = some (.slice (some ⟨b, off, none⟩) N1 c1) ∧ X.cell? ⟨q0, 1, none⟩ = some (.slice A2 N2 c2) ∧ X.cell? ⟨q0, 2, none⟩ = some (.slice A3 N3 c3)) ∧ (0 < k → X.cell? ⟨b, off + j * 6, none⟩ = some (.int .i64 pz)))) (by kernel_rfl) (⟨HX.out _ hbx, HFH.out _ (chain HWR.out hbx), HPC.out _ (chain HWR.out hbx)⟩) (fun hHeld => ?_)
            refine wpAnyH_take (i := 0) (oi := _) (v := ?_) rfl (by kernel_rfl) (by kernel_rfl) (by kernel_rfl) (fun _ _ _ h => h) (Or.inl ⟨by rfl, ?_⟩) (by assumption) ?_
            rotate_left 1
            · intro w hSw; clear hSw; first | (go_simp; done) | (go_simp; with_reducible rfl)
            change wpAnyH _ _ _ _ _ _ _ (Act.put _ (some 37) _) _
            (try simp only [Act.put, List.setIfInBounds_toArray, List.set_cons_zero, List.set_cons_succ])
            refine wpAnyH_take (i := 1) (oi := _) (v := ?_) rfl (by kernel_rfl) (by kernel_rfl) (by kernel_rfl) (fun _ _ _ h => h) (Or.inl ⟨by rfl, ?_⟩) (by assumption) ?_
            rotate_left 1
            · intro w hSw; obtain ⟨⟨s0, s1, s2, s3, s4⟩, ⟨s5, s6, s7⟩, s8⟩ := hSw; first | (go_simp; done) | (go_simp; with_reducible rfl)
            change wpAnyH _ _ _ _ _ _ _ (Act.put _ (some 38) _) _
            (try simp only [Act.put, List.setIfInBounds_toArray, List.set_cons_zero, List.set_cons_succ])
            refine wpAnyH_take (i := 2) (oi := _) (v := ?_) rfl (by kernel_rfl) (by kernel_rfl) (by kernel_rfl) (fun _ _ _ h => h) (Or.inl ⟨by rfl, ?_⟩) (by assumption) ?_
            rotate_left 1
            · intro w hSw; clear hSw; first | (go_simp; done) | (go_simp; with_reducible rfl)
            change wpAnyH _ _ _ _ _ _ _ (Act.put _ (some 39) _) _
            (try simp only [Act.put, List.setIfInBounds_toArray, List.set_cons_zero, List.set_cons_succ])
            refine wpAnyH_take (i := 3) (oi := _) (v := ?_) rfl (by kernel_rfl) (by kernel_rfl) (by kernel_rfl) (fun _ _ _ h => h) (Or.inl ⟨by rfl, ?_⟩) (by assumption) ?_
            rotate_left 1
            · intro w hSw; obtain ⟨⟨s0, s1, s2, s3, s4⟩, ⟨s5, s6, s7⟩, s8⟩ := hSw; first | (go_simp; done) | (go_simp; with_reducible rfl)
            change wpAnyH _ _ _ _ _ _ _ (Act.put _ (some 40) _) _
            (try simp only [Act.put, List.setIfInBounds_toArray, List.set_cons_zero, List.set_cons_succ])
            refine wpAnyH_take (i := 4) (oi := _) (v := ?_) rfl (by kernel_rfl) (by kernel_rfl) (by kernel_rfl) (fun _ _ _ h => h) (Or.inl ⟨by rfl, ?_⟩) (by assumption) ?_
            rotate_left 1
            · intro w hSw; clear hSw; first | (go_simp; done) | (go_simp; with_reducible rfl)
            change wpAnyH _ _ _ _ _ _ _ (Act.put _ (some 41) _) _
            (try simp only [Act.put, List.setIfInBounds_toArray, List.set_cons_zero, List.set_cons_succ])
            refine wpAnyH_take (i := 5) (oi := _) (v := ?_) rfl (by kernel_rfl) (by kernel_rfl) (by kernel_rfl) (fun _ _ _ h => h) (Or.inl ⟨by rfl, ?_⟩) (by assumption) ?_
            rotate_left 1
            · intro w hSw; obtain ⟨⟨s0, s1, s2, s3, s4⟩, ⟨s5, s6, s7⟩, s8⟩ := hSw; first | (go_simp; done) | (go_simp; with_reducible rfl)
            change wpAnyH _ _ _ _ _ _ _ (Act.put _ (some 42) _) _
            (try simp only [Act.put, List.setIfInBounds_toArray, List.set_cons_zero, List.set_cons_succ])
            refine wpAnyH_take (i := 6) (oi := _) (v := ?_) rfl (by kernel_rfl) (by kernel_rfl) (by kernel_rfl) (fun _ _ _ h => h) (Or.inl ⟨by rfl, ?_⟩) (by assumption) ?_
            rotate_left 1
            · intro w hSw; clear hSw; first | (go_simp; done) | (go_simp; with_reducible rfl)
            change wpAnyH _ _ _ _ _ _ _ (Act.put _ (some 43) _) _
            (try simp only [Act.put, List.setIfInBounds_toArray, List.set_cons_zero, List.set_cons_succ])
            refine wpAnyH_take (i := 7) (oi := _) (v := ?_) rfl (by kernel_rfl) (by kernel_rfl) (by kernel_rfl) (fun _ _ _ h => h) (Or.inl ⟨by rfl, ?_⟩) (by assumption) ?_
            rotate_left 1
            · intro w hSw; obtain ⟨⟨s0, s1, s2, s3, s4⟩, ⟨s5, s6, s7⟩, s8⟩ := hSw; first | (go_simp; done) | (go_simp; with_reducible rfl)
            change wpAnyH _ _ _ _ _ _ _ (Act.put _ (some 44) _) _
            (try simp only [Act.put, List.setIfInBounds_toArray, List.set_cons_zero, List.set_cons_succ])
            refine wpAnyH_take (i := 8) (oi := _) (v := ?_) rfl (by kernel_rfl) (by kernel_rfl) (by kernel_rfl) (fun _ _ _ h => h) (Or.inl ⟨by rfl, ?_⟩) (by assumption) ?_
            rotate_left 1
            · intro w hSw; clear hSw; first | (go_simp; done) | (go_simp; with_reducible rfl)
            change wpAnyH _ _ _ _ _ _ _ (Act.put _ (some 45) _) _
            (try simp only [Act.put, List.setIfInBounds_toArray, List.set_cons_zero, List.set_cons_succ])
            refine wpAnyH_take (i := 9) (oi := _) (v := ?_) rfl (by kernel_rfl) (by kernel_rfl) (by kernel_rfl) (fun _ _ _ h => h) (Or.inl ⟨by rfl, ?_⟩) (by assumption) ?_
            rotate_left 1
            · intro w hSw; obtain ⟨⟨s0, s1, s2, s3, s4⟩, ⟨s5, s6, s7⟩, s8⟩ := hSw; first | (go_simp; done) | (go_simp; with_reducible rfl)
            change wpAnyH _ _ _ _ _ _ _ (Act.put _ (some 46) _) _
            (try simp only [Act.put, List.setIfInBounds_toArray, List.set_cons_zero, List.set_cons_succ])
            refine wpAnyH_ready (rs := [10]) (by kernel_rfl) (by simp) ?_
            refine AllReadyH.cons (o := _) rfl (fun K hK => ?_) AllReadyH.nil
            go_simp
            (go_at_call 35; with_reducible (refine Calls.mono (HPL1.out _) ?_); rintro e w7 ⟨rfl, rfl⟩)
            refine hK.out _ _ (⟨HX.out _ hbx, HFH.out _ (chain HWR.out hbx), HPC.out _ (chain HWR.out hbx)⟩) (fun hHeld10 => ?_)
            (try simp only [Act.put, List.setIfInBounds_toArray, List.set_cons_zero, List.set_cons_succ])
            clear hK K
            cases bp
            · (try simp only [Bool.not_true, Bool.not_false])
              have HF : Hid (S = false) := HNO.out fun hg => by have := HBP.out.2 (HGD.out.1 hg).1; cases this
              refine wpAnyH_take (i := 11) (oi := _) (v := ?_) rfl (by kernel_rfl) (by kernel_rfl) (by kernel_rfl) (fun _ _ _ h => h) (Or.inl ⟨by rfl, ?_⟩) (by assumption) ?_
              rotate_left 1
              · intro w hSw; clear hSw; first | (go_simp; done) | (go_simp; with_reducible rfl)
              change wpAnyH _ _ _ _ _ _ _ (Act.put _ (some 48) _) _
              (try simp only [Act.put, List.setIfInBounds_toArray, List.set_cons_zero, List.set_cons_succ])
              refine wpAnyH_take (i := 12) (oi := _) (v := ?_) rfl (by kernel_rfl) (by kernel_rfl) (by kernel_rfl) (fun _ _ _ h => h) (Or.inl ⟨by rfl, ?_⟩) (by assumption) ?_
              rotate_left 1
              · intro w hSw; clear hSw; first | (go_simp; done) | (go_simp; with_reducible rfl)
              change wpAnyH _ _ _ _ _ _ _ (Act.put _ (some 49) _) _
              (try simp only [Act.put, List.setIfInBounds_toArray, List.set_cons_zero, List.set_cons_succ])
              refine wpAnyH_take (i := 13) (oi := _) (v := undef) rfl (by kernel_rfl) (by kernel_rfl) (by kernel_rfl) (fun _ _ _ h => h) (Or.inr ⟨by rfl, rfl⟩) (by assumption) ?_
              change wpAnyH _ _ _ _ _ _ _ (Act.put _ (some 50) _) _
              (try simp only [Act.put, List.setIfInBounds_toArray, List.set_cons_zero, List.set_cons_succ])
              refine wpAnyH_take (i := 14) (oi := _) (v := undef) rfl (by kernel_rfl) (by kernel_rfl) (by kernel_rfl) (fun _ _ _ h => h) (Or.inr ⟨by rfl, rfl⟩) (by assumption) ?_
              change wpAnyH _ _ _ _ _ _ _ (Act.put _ (some 51) _) _
              (try simp only [Act.put, List.setIfInBounds_toArray, List.set_cons_zero, List.set_cons_succ])
              refine wpAnyH_take (i := 15) (oi := _) (v := undef) rfl (by kernel_rfl) (by kernel_rfl) (by kernel_rfl) (fun _ _ _ h => h) (Or.inr ⟨by rfl, rfl⟩) (by assumption) ?_
              change wpAnyH _ _ _ _ _ _ _ (Act.put _ (some 52) _) _
              (try simp only [Act.put, List.setIfInBounds_toArray, List.set_cons_zero, List.set_cons_succ])
              refine wpAnyH_take (i := 16) (oi := _) (v := undef) rfl (by kernel_rfl) (by kernel_rfl) (by kernel_rfl) (fun _ _ _ h => h) (Or.inr ⟨by rfl, rfl⟩) (by assumption) ?_
              change wpAnyH _ _ _ _ _ _ _ (Act.put _ (some 53) _) _
              (try simp only [Act.put, List.setIfInBounds_toArray, List.set_cons_zero, List.set_cons_succ])
              refine wpAnyH_take (i := 17) (oi := _) (v := undef) rfl (by kernel_rfl) (by kernel_rfl) (by kernel_rfl) (fun _ _ _ h => h) (Or.inr ⟨by rfl, rfl⟩) (by assumption) ?_
              change wpAnyH _ _ _ _ _ _ _ (Act.put _ (some 54) _) _
              (try simp only [Act.put, List.setIfInBounds_toArray, List.set_cons_zero, List.set_cons_succ])
              refine wpAnyH_take (i := 18) (oi := _) (v := undef) rfl (by kernel_rfl) (by kernel_rfl) (by kernel_rfl) (fun _ _ _ h => h) (Or.inr ⟨by rfl, rfl⟩) (by assumption) ?_
              change wpAnyH _ _ _ _ _ _ _ (Act.put _ (some 55) _) _
              (try simp only [Act.put, List.setIfInBounds_toArray, List.set_cons_zero, List.set_cons_succ])
              refine wpAnyH_take (i := 19) (oi := _) (v := undef) rfl (by kernel_rfl) (by kernel_rfl) (by kernel_rfl) (fun _ _ _ h => h) (Or.inr ⟨by rfl, rfl⟩) (by assumption) ?_
              change wpAnyH _ _ _ _ _ _ _ (Act.put _ (some 56) _) _
              (try simp only [Act.put, List.setIfInBounds_toArray, List.set_cons_zero, List.set_cons_succ])
              refine wpAnyH_take (i := 20) (oi := _) (v := undef) rfl (by kernel_rfl) (by kernel_rfl) (by kernel_rfl) (fun _ _ _ h => h) (Or.inr ⟨by rfl, rfl⟩) (by assumption) ?_
              change wpAnyH _ _ _ _ _ _ _ (Act.put _ (some 57) _) _
              (try simp only [Act.put, List.setIfInBounds_toArray, List.set_cons_zero, List.set_cons_succ])
              refine wpAnyH_take (i := 21) (oi := _) (v := undef) rfl (by kernel_rfl) (by kernel_rfl) (by kernel_rfl) (fun _ _ _ h => h) (Or.inr ⟨by rfl, rfl⟩) (by assumption) ?_
              change wpAnyH _ _ _ _ _ _ _ (Act.put _ (some 58) _) _
              (try simp only [Act.put, List.setIfInBounds_toArray, List.set_cons_zero, List.set_cons_succ])
              refine wpAnyH_take (i := 22) (oi := _) (v := undef) rfl (by kernel_rfl) (by kernel_rfl) (by kernel_rfl) (fun _ _ _ h => h) (Or.inr ⟨by rfl, rfl⟩) (by assumption) ?_
              change wpAnyH _ _ _ _ _ _ _ (Act.put _ (some 59) _) _
              (try simp only [Act.put, List.setIfInBounds_toArray, List.set_cons_zero, List.set_cons_succ])
              refine wpAnyH_take (i := 23) (oi := _) (v := undef) rfl (by kernel_rfl) (by kernel_rfl) (by kernel_rfl) (fun _ _ _ h => h) (Or.inr ⟨by rfl, rfl⟩) (by assumption) ?_
              change wpAnyH _ _ _ _ _ _ _ (Act.put _ (some 60) _) _
              (try simp only [Act.put, List.setIfInBounds_toArray, List.set_cons_zero, List.set_cons_succ])
              refine wpAnyH_take (i := 24) (oi := _) (v := undef) rfl (by kernel_rfl) (by kernel_rfl) (by kernel_rfl) (fun _ _ _ h => h) (Or.inr ⟨by rfl, rfl⟩) (by assumption) ?_
              change wpAnyH _ _ _ _ _ _ _ (Act.put _ (some 61) _) _
              (try simp only [Act.put, List.setIfInBounds_toArray, List.set_cons_zero, List.set_cons_succ])
              refine wpAnyH_take (i := 25) (oi := _) (v := undef) rfl (by kernel_rfl) (by kernel_rfl) (by kernel_rfl) (fun _ _ _ h => h) (Or.inr ⟨by rfl, rfl⟩) (by assumption) ?_
              change wpAnyH _ _ _ _ _ _ _ (Act.put _ (some 62) _) _
              (try simp only [Act.put, List.setIfInBounds_toArray, List.set_cons_zero, List.set_cons_succ])
              refine wpAnyH_take (i := 26) (oi := _) (v := undef) rfl (by kernel_rfl) (by kernel_rfl) (by kernel_rfl) (fun _ _ _ h => h) (Or.inr ⟨by rfl, rfl⟩) (by assumption) ?_
              change wpAnyH _ _ _ _ _ _ _ (Act.put _ (some 63) _) _
              (try simp only [Act.put, List.setIfInBounds_toArray, List.set_cons_zero, List.set_cons_succ])
              refine wpAnyH_take (i := 27) (oi := _) (v := ?_) rfl (by kernel_rfl) (by kernel_rfl) (by kernel_rfl) (fun _ _ _ h => h) (Or.inl ⟨by rfl, ?_⟩) (by assumption) ?_
              rotate_left 1
              · intro w hSw; clear hSw; first | (go_simp; done) | (go_simp; with_reducible rfl)
              change wpAnyH _ _ _ _ _ _ _ (Act.put _ (some 64) _) _
              (try simp only [Act.put, List.setIfInBounds_toArray, List.set_cons_zero, List.set_cons_succ])
              refine wpAnyH_take (i := 28) (oi := _) (v := ?_) rfl (by kernel_rfl) (by kernel_rfl) (by kernel_rfl) (fun _ _ _ h => h) (Or.inl ⟨by rfl, ?_⟩) (by assumption) ?_
              rotate_left 1
              · intro w hSw; clear hSw; first | (go_simp; done) | (go_simp; with_reducible rfl)
              change wpAnyH _ _ _ _ _ _ _ (Act.put _ (some 65) _) _
              (try simp only [Act.put, List.setIfInBounds_toArray, List.set_cons_zero, List.set_cons_succ])
              refine wpAnyH_take (i := 29) (oi := _) (v := undef) rfl (by kernel_rfl) (by kernel_rfl) (by kernel_rfl) (fun _ _ _ h => h) (Or.inr ⟨by rfl, rfl⟩) (by assumption) ?_
              change wpAnyH _ _ _ _ _ _ _ (Act.put _ (some 66) _) _
              (try simp only [Act.put, List.setIfInBounds_toArray, List.set_cons_zero, List.set_cons_succ])
              refine wpAnyH_take (i := 30) (oi := _) (v := undef) rfl (by kernel_rfl) (by kernel_rfl) (by kernel_rfl) (fun _ _ _ h => h) (Or.inr ⟨by rfl, rfl⟩) (by assumption) ?_
              change wpAnyH _ _ _ _ _ _ _ (Act.put _ (some 67) _) _
              (try simp only [Act.put, List.setIfInBounds_toArray, List.set_cons_zero, List.set_cons_succ])
              refine wpAnyH_take (i := 31) (oi := _) (v := undef) rfl (by kernel_rfl) (by kernel_rfl) (by kernel_rfl) (fun _ _ _ h => h) (Or.inr ⟨by rfl, rfl⟩) (by assumption) ?_
              change wpAnyH _ _ _ _ _ _ _ (Act.put _ (some 68) _) _
              (try simp only [Act.put, List.setIfInBounds_toArray, List.set_cons_zero, List.set_cons_succ])
              refine wpAnyH_take (i := 32) (oi := _) (v := undef) rfl (by kernel_rfl) (by kernel_rfl) (by kernel_rfl) (fun _ _ _ h => h) (Or.inr ⟨by rfl, rfl⟩) (by assumption) ?_
              change wpAnyH _ _ _ _ _ _ _ (Act.put _ (some 69) _) _
              (try simp only [Act.put, List.setIfInBounds_toArray, List.set_cons_zero, List.set_cons_succ])
              refine wpAnyH_take (i := 33) (oi := _) (v := undef) rfl (by kernel_rfl) (by kernel_rfl) (by kernel_rfl) (fun _ _ _ h => h) (Or.inr ⟨by rfl, rfl⟩) (by assumption) ?_
              change wpAnyH _ _ _ _ _ _ _ (Act.put _ (some 70) _) _
              (try simp only [Act.put, List.setIfInBounds_toArray, List.set_cons_zero, List.set_cons_succ])
              refine wpAnyH_take (i := 34) (oi := _) (v := undef) rfl (by kernel_rfl) (by kernel_rfl) (by kernel_rfl) (fun _ _ _ h => h) (Or.inr ⟨by rfl, rfl⟩) (by assumption) ?_
              change wpAnyH _ _ _ _ _ _ _ (Act.put _ (some 71) _) _
              (try simp only [Act.put, List.setIfInBounds_toArray, List.set_cons_zero, List.set_cons_succ])
              refine wpAnyH_take (i := 35) (oi := _) (v := undef) rfl (by kernel_rfl) (by kernel_rfl) (by kernel_rfl) (fun _ _ _ h => h) (Or.inr ⟨by rfl, rfl⟩) (by assumption) ?_
              change wpAnyH _ _ _ _ _ _ _ (Act.put _ (some 72) _) _
              (try simp only [Act.put, List.setIfInBounds_toArray, List.set_cons_zero, List.set_cons_succ])
              refine wpAnyH_take (i := 36) (oi := _) (v := ?_) rfl (by kernel_rfl) (by kernel_rfl) (by kernel_rfl) (fun _ _ _ h => h) (Or.inl ⟨by rfl, ?_⟩) (by assumption) ?_
              rotate_left 1
              · intro w hSw; clear hSw; first | (go_simp; done) | (go_simp; with_reducible rfl)
              change wpAnyH _ _ _ _ _ _ _ (Act.put _ (some 73) _) _
              (try simp only [Act.put, List.setIfInBounds_toArray, List.set_cons_zero, List.set_cons_succ])
              refine wpAnyH_done (by kernel_rfl) ?_ _
              have R := Lib.hid (chain HB0.out (chain HWR.out hbx))
              go_wp2
              go_ret
              exact ⟨by rw [HF.out]; rfl, R.out⟩
            · (try simp only [Bool.not_true, Bool.not_false])
              have HP : Hid (plainQ p0 p1 p2 p3 p4) := HBP.out.1 rfl
              refine wpAnyH_take (i := 11) (oi := _) (v := ?_) rfl (by kernel_rfl) (by kernel_rfl) (by kernel_rfl) (fun _ _ _ h => h) (Or.inl ⟨by rfl, ?_⟩) (by assumption) ?_
              rotate_left 1
              · intro w hSw; clear hSw; first | (go_simp; done) | (go_simp; with_reducible rfl)
              change wpAnyH _ _ _ _ _ _ _ (Act.put _ (some 48) _) _
              (try simp only [Act.put, List.setIfInBounds_toArray, List.set_cons_zero, List.set_cons_succ])
              refine wpAnyH_take (i := 12) (oi := _) (v := ?_) rfl (by kernel_rfl) (by kernel_rfl) (by kernel_rfl) (fun _ _ _ h => h) (Or.inl ⟨by rfl, ?_⟩) (by assumption) ?_
              rotate_left 1
              · intro w hSw; clear hSw; first | (go_simp; done) | (go_simp; with_reducible rfl)
              change wpAnyH _ _ _ _ _ _ _ (Act.put _ (some 49) _) _
              (try simp only [Act.put, List.setIfInBounds_toArray, List.set_cons_zero, List.set_cons_succ])
              by_cases hk0 : k = 0
              · have kp : decide ((0 : Int) < (k : Int)) = false := decide_eq_false (by omega)
                have kp2 : decide (0 < k) = false := decide_eq_false (by omega)
                have HLO : Hid LO := HLOI.out.2 fun q => absurd q (by omega)
                clear hk0
                refine wpAnyH_take (i := 13) (oi := _) (v := ?_) rfl (by kernel_rfl) (by kernel_rfl) (by kernel_rfl) (fun _ _ _ h => h) (Or.inl ⟨by rfl, ?_⟩) (by assumption) ?_
                rotate_left 1
                · intro w hSw; clear hSw; first | (go_simp; done) | (go_simp; with_reducible rfl)
                change wpAnyH _ _ _ _ _ _ _ (Act.put _ (some 50) _) _
                (try simp only [Act.put, List.setIfInBounds_toArray, List.set_cons_zero, List.set_cons_succ])
                refine wpAnyH_take (i := 14) (oi := _) (v := ?_) rfl (by kernel_rfl) (by kernel_rfl) (by kernel_rfl) (fun _ _ _ h => h) (Or.inl ⟨by rfl, ?_⟩) (by assumption) ?_
                rotate_left 1
                · intro w hSw; clear hSw; first | (go_simp; done) | (go_simp; with_reducible rfl)
                change wpAnyH _ _ _ _ _ _ _ (Act.put _ (some 51) _) _
                (try simp only [Act.put, List.setIfInBounds_toArray, List.set_cons_zero, List.set_cons_succ])
                refine wpAnyH_take (i := 15) (oi := _) (v := ?_) rfl (by kernel_rfl) (by kernel_rfl) (by kernel_rfl) (fun _ _ _ h => h) (Or.inl ⟨by rfl, ?_⟩) (by assumption) ?_
                rotate_left 1
                · intro w hSw; clear hSw; first | (go_simp; done) | (go_simp; with_reducible rfl)
                change wpAnyH _ _ _ _ _ _ _ (Act.put _ (some 52) _) _
                (try simp only [Act.put, List.setIfInBounds_toArray, List.set_cons_zero, List.set_cons_succ])
                refine wpAnyH_take (i := 16) (oi := _) (v := undef) rfl (by kernel_rfl) (by kernel_rfl) (by kernel_rfl) (fun _ _ _ h => h) (Or.inr ⟨by rfl, rfl⟩) (by assumption) ?_
                change wpAnyH _ _ _ _ _ _ _ (Act.put _ (some 53) _) _
                (try simp only [Act.put, List.setIfInBounds_toArray, List.set_cons_zero, List.set_cons_succ])
                refine wpAnyH_take (i := 17) (oi := _) (v := undef) rfl (by kernel_rfl) (by kernel_rfl) (by kernel_rfl) (fun _ _ _ h => h) (Or.inr ⟨by rfl, rfl⟩) (by assumption) ?_
                change wpAnyH _ _ _ _ _ _ _ (Act.put _ (some 54) _) _
                (try simp only [Act.put, List.setIfInBounds_toArray, List.set_cons_zero, List.set_cons_succ])
                refine wpAnyH_take (i := 18) (oi := _) (v := undef) rfl (by kernel_rfl) (by kernel_rfl) (by kernel_rfl) (fun _ _ _ h => h) (Or.inr ⟨by rfl, rfl⟩) (by assumption) ?_
                change wpAnyH _ _ _ _ _ _ _ (Act.put _ (some 55) _) _
                (try simp only [Act.put, List.setIfInBounds_toArray, List.set_cons_zero, List.set_cons_succ])
                refine wpAnyH_take (i := 19) (oi := _) (v := undef) rfl (by kernel_rfl) (by kernel_rfl) (by kernel_rfl) (fun _ _ _ h => h) (Or.inr ⟨by rfl, rfl⟩) (by assumption) ?_
                change wpAnyH _ _ _ _ _ _ _ (Act.put _ (some 56) _) _
                (try simp only [Act.put, List.setIfInBounds_toArray, List.set_cons_zero, List.set_cons_succ])
                refine wpAnyH_take (i := 20) (oi := _) (v := undef) rfl (by kernel_rfl) (by kernel_rfl) (by kernel_rfl) (fun _ _ _ h => h) (Or.inr ⟨by rfl, rfl⟩) (by assumption) ?_
                change wpAnyH _ _ _ _ _ _ _ (Act.put _ (some 57) _) _
                (try simp only [Act.put, List.setIfInBounds_toArray, List.set_cons_zero, List.set_cons_succ])
                refine wpAnyH_take (i := 21) (oi := _) (v := undef) rfl (by kernel_rfl) (by kernel_rfl) (by kernel_rfl) (fun _ _ _ h => h) (Or.inr ⟨by rfl, rfl⟩) (by assumption) ?_
                change wpAnyH _ _ _ _ _ _ _ (Act.put _ (some 58) _) _
                (try simp only [Act.put, List.setIfInBounds_toArray, List.set_cons_zero, List.set_cons_succ])
                refine wpAnyH_take (i := 22) (oi := _) (v := undef) rfl (by kernel_rfl) (by kernel_rfl) (by kernel_rfl) (fun _ _ _ h => h) (Or.inr ⟨by rfl, rfl⟩) (by assumption) ?_
                change wpAnyH _ _ _ _ _ _ _ (Act.put _ (some 59) _) _
                (try simp only [Act.put, List.setIfInBounds_toArray, List.set_cons_zero, List.set_cons_succ])
                refine wpAnyH_take (i := 23) (oi := _) (v := undef) rfl (by kernel_rfl) (by kernel_rfl) (by kernel_rfl) (fun _ _ _ h => h) (Or.inr ⟨by rfl, rfl⟩) (by assumption) ?_
                change wpAnyH _ _ _ _ _ _ _ (Act.put _ (some 60) _) _
                (try simp only [Act.put, List.setIfInBounds_toArray, List.set_cons_zero, List.set_cons_succ])
                refine wpAnyH_take (i := 24) (oi := _) (v := undef) rfl (by kernel_rfl) (by kernel_rfl) (by kernel_rfl) (fun _ _ _ h => h) (Or.inr ⟨by rfl, rfl⟩) (by assumption) ?_
                change wpAnyH _ _ _ _ _ _ _ (Act.put _ (some 61) _) _
                (try simp only [Act.put, List.setIfInBounds_toArray, List.set_cons_zero, List.set_cons_succ])
                refine wpAnyH_take (i := 25) (oi := _) (v := undef) rfl (by kernel_rfl) (by kernel_rfl) (by kernel_rfl) (fun _ _ _ h => h) (Or.inr ⟨by rfl, rfl⟩) (by assumption) ?_
                change wpAnyH _ _ _ _ _ _ _ (Act.put _ (some 62) _) _
                (try simp only [Act.put, List.setIfInBounds_toArray, List.set_cons_zero, List.set_cons_succ])
                refine wpAnyH_take (i := 26) (oi := _) (v := ?_) rfl (by kernel_rfl) (by kernel_rfl) (by kernel_rfl) (fun _ _ _ h => h) (Or.inl ⟨by rfl, ?_⟩) (by assumption) ?_
                rotate_left 1
                · intro w hSw; clear hSw; first | (go_simp; done) | (go_simp; with_reducible rfl)
                change wpAnyH _ _ _ _ _ _ _ (Act.put _ (some 63) _) _
                (try simp only [Act.put, List.setIfInBounds_toArray, List.set_cons_zero, List.set_cons_succ])
                refine wpAnyH_take (i := 27) (oi := _) (v := ?_) rfl (by kernel_rfl) (by kernel_rfl) (by kernel_rfl) (fun _ _ _ h => h) (Or.inl ⟨by rfl, ?_⟩) (by assumption) ?_
                rotate_left 1
                · intro w hSw; clear hSw; first | (go_simp; done) | (go_simp; with_reducible rfl)
                change wpAnyH _ _ _ _ _ _ _ (Act.put _ (some 64) _) _
                (try simp only [Act.put, List.setIfInBounds_toArray, List.set_cons_zero, List.set_cons_succ])
                refine wpAnyH_take (i := 28) (oi := _) (v := ?_) rfl (by kernel_rfl) (by kernel_rfl) (by kernel_rfl) (fun _ _ _ h => h) (Or.inl ⟨by rfl, ?_⟩) (by assumption) ?_
                rotate_left 1
                · intro w hSw; clear hSw; first | (go_simp; done) | (go_simp; with_reducible rfl)
                change wpAnyH _ _ _ _ _ _ _ (Act.put _ (some 65) _) _
                (try simp only [Act.put, List.setIfInBounds_toArray, List.set_cons_zero, List.set_cons_succ])
                refine wpAnyH_take (i := 29) (oi := _) (v := ?_) rfl (by kernel_rfl) (by kernel_rfl) (by kernel_rfl) (fun _ _ _ h => h) (Or.inl ⟨by rfl, ?_⟩) (by assumption) ?_
                rotate_left 1
                · intro w hSw; obtain ⟨⟨s0, s1, s2, s3, s4⟩, ⟨s5, s6, s7⟩, s8⟩ := hSw; first | (go_simp; done) | (go_simp; with_reducible rfl)
                change wpAnyH _ _ _ _ _ _ _ (Act.put _ (some 66) _) _
                (try simp only [Act.put, List.setIfInBounds_toArray, List.set_cons_zero, List.set_cons_succ])
                refine wpAnyH_take (i := 30) (oi := _) (v := ?_) rfl (by kernel_rfl) (by kernel_rfl) (by kernel_rfl) (fun _ _ _ h => h) (Or.inl ⟨by rfl, ?_⟩) (by assumption) ?_
                rotate_left 1
                · intro w hSw; clear hSw; first | (go_simp; done) | (go_simp; with_reducible rfl)
                change wpAnyH _ _ _ _ _ _ _ (Act.put _ (some 67) _) _
                (try simp only [Act.put, List.setIfInBounds_toArray, List.set_cons_zero, List.set_cons_succ])
                refine wpAnyH_take (i := 31) (oi := _) (v := ?_) rfl (by kernel_rfl) (by kernel_rfl) (by kernel_rfl) (fun _ _ _ h => h) (Or.inl ⟨by rfl, ?_⟩) (by assumption) ?_
                rotate_left 1
                · intro w hSw; obtain ⟨⟨s0, s1, s2, s3, s4⟩, ⟨s5, s6, s7⟩, s8⟩ := hSw; first | (go_simp; done) | (go_simp; with_reducible rfl)
                change wpAnyH _ _ _ _ _ _ _ (Act.put _ (some 68) _) _
                (try simp only [Act.put, List.setIfInBounds_toArray, List.set_cons_zero, List.set_cons_succ])
                refine wpAnyH_take (i := 33) (oi := _) (v := ?_) rfl (by kernel_rfl) (by kernel_rfl) (by kernel_rfl) (fun _ _ _ h => h) (Or.inl ⟨by rfl, ?_⟩) (by assumption) ?_
                rotate_left 1
                · intro w hSw; clear hSw; first | (go_simp; done) | (go_simp; with_reducible rfl)
                change wpAnyH _ _ _ _ _ _ _ (Act.put _ (some 70) _) _
                (try simp only [Act.put, List.setIfInBounds_toArray, List.set_cons_zero, List.set_cons_succ])
                refine wpAnyH_take (i := 34) (oi := _) (v := ?_) rfl (by kernel_rfl) (by kernel_rfl) (by kernel_rfl) (fun _ _ _ h => h) (Or.inl ⟨by rfl, ?_⟩) (by assumption) ?_
                rotate_left 1
                · intro w hSw; obtain ⟨⟨s0, s1, s2, s3, s4⟩, ⟨s5, s6, s7⟩, s8⟩ := hSw; first | (go_simp; done) | (go_simp; with_reducible rfl)
                change wpAnyH _ _ _ _ _ _ _ (Act.put _ (some 71) _) _
                (try simp only [Act.put, List.setIfInBounds_toArray, List.set_cons_zero, List.set_cons_succ])
                refine wpAnyH_ready (rs := [32]) (by kernel_rfl) (by simp) ?_
                refine AllReadyH.cons (o := _) rfl (fun K hK => ?_) AllReadyH.nil
                go_simp
                (go_at_call 36; with_reducible (refine Calls.mono (HOWN.out _ (chain HWR.out hbx)) ?_); rintro e w7 ⟨rfl, hb7⟩; have hbx := chain hbx hb7)
                refine hK.out _ _ (⟨HX.out _ hbx, HFH.out _ (chain HWR.out hbx), HPC.out _ (chain HWR.out hbx)⟩) (fun hHeld32 => ?_)
                (try simp only [Act.put, List.setIfInBounds_toArray, List.set_cons_zero, List.set_cons_succ])
                clear hK K
                refine wpAnyH_take (i := 35) (oi := _) (v := ?_) rfl (by kernel_rfl) (by kernel_rfl) (by kernel_rfl) (fun _ _ _ h => h) (Or.inl ⟨by rfl, ?_⟩) (by assumption) ?_
                rotate_left 1
                · intro w hSw; clear hSw; first | (go_simp; done) | (go_simp; with_reducible rfl)
                change wpAnyH _ _ _ _ _ _ _ (Act.put _ (some 72) _) _
                (try simp only [Act.put, List.setIfInBounds_toArray, List.set_cons_zero, List.set_cons_succ])
                refine wpAnyH_take (i := 36) (oi := _) (v := ?_) rfl (by kernel_rfl) (by kernel_rfl) (by kernel_rfl) (fun _ _ _ h => h) (Or.inl ⟨by rfl, ?_⟩) (by assumption) ?_
                rotate_left 1
                · intro w hSw; clear hSw; first | (go_simp; done) | (go_simp; with_reducible rfl)
                change wpAnyH _ _ _ _ _ _ _ (Act.put _ (some 73) _) _
                (try simp only [Act.put, List.setIfInBounds_toArray, List.set_cons_zero, List.set_cons_succ])
                by_cases hom : (m : Int) > p1
                · have HF : Hid (S = false) := HNO.out fun hg => by have := (HGD.out.1 hg).2.2; omega
                  refine wpAnyH_done (by kernel_rfl) ?_ _
                  have R := Lib.hid (chain HB0.out (chain HWR.out hbx))
                  go_wp2
                  go_ret
                  exact ⟨by rw [HF.out]; rfl, R.out⟩
                · have hgood : gd1 t k := HGD.out.2 ⟨HP.out, HLO.out, by omega⟩
                  have HJ := Lib.hid (HNX.out hgood)
                  clear hgood
                  refine wpAnyH_done (by kernel_rfl) ?_ _
                  have R := Lib.hid (chain HWR.out hbx)
                  go_wp2
                  clear hbx
                  go_roundw
                  case rel => first | exact ⟨k + 1, by omega, by go_num, HJ, R⟩ | ((repeat apply Exists.intro); exact ⟨⟨k + 1, by omega, by go_num, HJ, R⟩, rfl⟩)
                  case measure => first | (simp [intOf]; done) | (simp [intOf]; omega)
              · have hkp : 0 < k := by omega
                have hj := HJK.out hkp
                have j0 : (0 : Int) ≤ (j : Int) := by omega
                have j1 : (j : Int) < (N1 : Int) := by omega
                have v1 : IntKind.i64.wrap ((k : Int) - 1) = (j : Int) := by rw [show (k : Int) - 1 = (j : Int) by omega]; exact IntWalk.i64_in _ (by omega)
                have kp : decide ((0 : Int) < (k : Int)) = true := decide_eq_true (by omega)
                clear hj hk0
                refine wpAnyH_take (i := 13) (oi := _) (v := ?_) rfl (by kernel_rfl) (by kernel_rfl) (by kernel_rfl) (fun _ _ _ h => h) (Or.inl ⟨by rfl, ?_⟩) (by assumption) ?_
                rotate_left 1
                · intro w hSw; clear hSw; first | (go_simp; done) | (go_simp; with_reducible rfl)
                change wpAnyH _ _ _ _ _ _ _ (Act.put _ (some 50) _) _
                (try simp only [Act.put, List.setIfInBounds_toArray, List.set_cons_zero, List.set_cons_succ])
                refine wpAnyH_take (i := 14) (oi := _) (v := ?_) rfl (by kernel_rfl) (by kernel_rfl) (by kernel_rfl) (fun _ _ _ h => h) (Or.inl ⟨by rfl, ?_⟩) (by assumption) ?_
                rotate_left 1
                · intro w hSw; clear hSw; first | (go_simp; done) | (go_simp; with_reducible rfl)
                change wpAnyH _ _ _ _ _ _ _ (Act.put _ (some 51) _) _
                (try simp only [Act.put, List.setIfInBounds_toArray, List.set_cons_zero, List.set_cons_succ])
                refine wpAnyH_take (i := 15) (oi := _) (v := ?_) rfl (by kernel_rfl) (by kernel_rfl) (by kernel_rfl) (fun _ _ _ h => h) (Or.inl ⟨by rfl, ?_⟩) (by assumption) ?_
                rotate_left 1
                · intro w hSw; clear hSw; first | (go_simp; done) | (go_simp; with_reducible rfl)
                change wpAnyH _ _ _ _ _ _ _ (Act.put _ (some 52) _) _
                (try simp only [Act.put, List.setIfInBounds_toArray, List.set_cons_zero, List.set_cons_succ])
                refine wpAnyH_take (i := 16) (oi := _) (v := ?_) rfl (by kernel_rfl) (by kernel_rfl) (by kernel_rfl) (fun _ _ _ h => h) (Or.inl ⟨by rfl, ?_⟩) (by assumption) ?_
                rotate_left 1
                · intro w hSw; clear hSw; first | (go_simp; done) | (go_simp; with_reducible rfl)
                change wpAnyH _ _ _ _ _ _ _ (Act.put _ (some 53) _) _
                (try simp only [Act.put, List.setIfInBounds_toArray, List.set_cons_zero, List.set_cons_succ])
                refine wpAnyH_take (i := 17) (oi := _) (v := ?_) rfl (by kernel_rfl) (by kernel_rfl) (by kernel_rfl) (fun _ _ _ h => h) (Or.inl ⟨by rfl, ?_⟩) (by assumption) ?_
                rotate_left 1
                · intro w hSw; obtain ⟨⟨s0, s1, s2, s3, s4⟩, ⟨s5, s6, s7⟩, s8⟩ := hSw; first | (go_simp; done) | (go_simp; with_reducible rfl)
                change wpAnyH _ _ _ _ _ _ _ (Act.put _ (some 54) _) _
                (try simp only [Act.put, List.setIfInBounds_toArray, List.set_cons_zero, List.set_cons_succ])
                refine wpAnyH_take (i := 18) (oi := _) (v := ?_) rfl (by kernel_rfl) (by kernel_rfl) (by kernel_rfl) (fun _ _ _ h => h) (Or.inl ⟨by rfl, ?_⟩) (by assumption) ?_
                rotate_left 1
                · intro w hSw; clear hSw; first | (go_simp; done) | (go_simp; with_reducible rfl)
                change wpAnyH _ _ _ _ _ _ _ (Act.put _ (some 55) _) _
                (try simp only [Act.put, List.setIfInBounds_toArray, List.set_cons_zero, List.set_cons_succ])
                refine wpAnyH_take (i := 19) (oi := _) (v := ?_) rfl (by kernel_rfl) (by kernel_rfl) (by kernel_rfl) (fun _ _ _ h => h) (Or.inl ⟨by rfl, ?_⟩) (by assumption) ?_
                rotate_left 1
                · intro w hSw; obtain ⟨⟨s0, s1, s2, s3, s4⟩, ⟨s5, s6, s7⟩, s8⟩ := hSw; first | (go_simp; done) | (go_simp; with_reducible rfl)
                change wpAnyH _ _ _ _ _ _ _ (Act.put _ (some 56) _) _
                (try simp only [Act.put, List.setIfInBounds_toArray, List.set_cons_zero, List.set_cons_succ])
                refine wpAnyH_take (i := 20) (oi := _) (v := ?_) rfl (by kernel_rfl) (by kernel_rfl) (by kernel_rfl) (fun _ _ _ h => h) (Or.inl ⟨by rfl, ?_⟩) (by assumption) ?_
                rotate_left 1
                · intro w hSw; clear hSw; first | (go_simp; done) | (go_simp; with_reducible rfl)
                change wpAnyH _ _ _ _ _ _ _ (Act.put _ (some 57) _) _
                (try simp only [Act.put, List.setIfInBounds_toArray, List.set_cons_zero, List.set_cons_succ])
                refine wpAnyH_take (i := 21) (oi := _) (v := ?_) rfl (by kernel_rfl) (by kernel_rfl) (by kernel_rfl) (fun _ _ _ h => h) (Or.inl ⟨by rfl, ?_⟩) (by assumption) ?_
                rotate_left 1
                · intro w hSw; clear hSw; first | (go_simp; done) | (go_simp; with_reducible rfl)
                change wpAnyH _ _ _ _ _ _ _ (Act.put _ (some 58) _) _
                (try simp only [Act.put, List.setIfInBounds_toArray, List.set_cons_zero, List.set_cons_succ])
                refine wpAnyH_take (i := 22) (oi := _) (v := ?_) rfl (by kernel_rfl) (by kernel_rfl) (by kernel_rfl) (fun _ _ _ h => h) (Or.inl ⟨by rfl, ?_⟩) (by assumption) ?_
                rotate_left 1
                · intro w hSw; clear hSw; first | (go_simp; done) | (go_simp; with_reducible rfl)
                change wpAnyH _ _ _ _ _ _ _ (Act.put _ (some 59) _) _
                (try simp only [Act.put, List.setIfInBounds_toArray, List.set_cons_zero, List.set_cons_succ])
                refine wpAnyH_take (i := 23) (oi := _) (v := ?_) rfl (by kernel_rfl) (by kernel_rfl) (by kernel_rfl) (fun _ _ _ h => h) (Or.inl ⟨by rfl, ?_⟩) (by assumption) ?_
                rotate_left 1
                · intro w hSw; clear hSw; first | (go_simp; done) | (go_simp; with_reducible rfl)
                change wpAnyH _ _ _ _ _ _ _ (Act.put _ (some 60) _) _
                (try simp only [Act.put, List.setIfInBounds_toArray, List.set_cons_zero, List.set_cons_succ])
                refine wpAnyH_take (i := 24) (oi := _) (v := ?_) rfl (by kernel_rfl) (by kernel_rfl) (by kernel_rfl) (fun _ _ _ h => h) (Or.inl ⟨by rfl, ?_⟩) (by assumption) ?_
                rotate_left 1
                · intro w hSw; obtain ⟨⟨s0, s1, s2, s3, s4⟩, ⟨s5, s6, s7⟩, s8⟩ := hSw; have s9 := s8 hkp; clear s8; first | (go_simp; done) | (go_simp; with_reducible rfl)
                change wpAnyH _ _ _ _ _ _ _ (Act.put _ (some 61) _) _
                (try simp only [Act.put, List.setIfInBounds_toArray, List.set_cons_zero, List.set_cons_succ])
                by_cases hid : p0 ≤ pz
                · have HF : Hid (S = false) := HNO.out fun hg => by have := HLOI.out.1 (HGD.out.1 hg).2.1 hkp; omega
                  have d1 : decide (p0 ≤ pz) = true := decide_eq_true hid
                  clear hid
                  refine wpAnyH_take (i := 25) (oi := _) (v := ?_) rfl (by kernel_rfl) (by kernel_rfl) (by kernel_rfl) (fun _ _ _ h => h) (Or.inl ⟨by rfl, ?_⟩) (by assumption) ?_
                  rotate_left 1
                  · intro w hSw; clear hSw; first | (go_simp; done) | (go_simp; with_reducible rfl)
                  change wpAnyH _ _ _ _ _ _ _ (Act.put _ (some 62) _) _
                  (try simp only [Act.put, List.setIfInBounds_toArray, List.set_cons_zero, List.set_cons_succ])
                  refine wpAnyH_take (i := 26) (oi := _) (v := ?_) rfl (by kernel_rfl) (by kernel_rfl) (by kernel_rfl) (fun _ _ _ h => h) (Or.inl ⟨by rfl, ?_⟩) (by assumption) ?_
                  rotate_left 1
                  · intro w hSw; clear hSw; first | (go_simp; done) | (go_simp; with_reducible rfl)
                  change wpAnyH _ _ _ _ _ _ _ (Act.put _ (some 63) _) _
                  (try simp only [Act.put, List.setIfInBounds_toArray, List.set_cons_zero, List.set_cons_succ])
                  refine wpAnyH_take (i := 27) (oi := _) (v := ?_) rfl (by kernel_rfl) (by kernel_rfl) (by kernel_rfl) (fun _ _ _ h => h) (Or.inl ⟨by rfl, ?_⟩) (by assumption) ?_
                  rotate_left 1
                  · intro w hSw; clear hSw; first | (go_simp; done) | (go_simp; with_reducible rfl)
                  change wpAnyH _ _ _ _ _ _ _ (Act.put _ (some 64) _) _
                  (try simp only [Act.put, List.setIfInBounds_toArray, List.set_cons_zero, List.set_cons_succ])
                  refine wpAnyH_take (i := 28) (oi := _) (v := ?_) rfl (by kernel_rfl) (by kernel_rfl) (by kernel_rfl) (fun _ _ _ h => h) (Or.inl ⟨by rfl, ?_⟩) (by assumption) ?_
                  rotate_left 1
                  · intro w hSw; clear hSw; first | (go_simp; done) | (go_simp; with_reducible rfl)
                  change wpAnyH _ _ _ _ _ _ _ (Act.put _ (some 65) _) _
                  (try simp only [Act.put, List.setIfInBounds_toArray, List.set_cons_zero, List.set_cons_succ])
                  refine wpAnyH_take (i := 29) (oi := _) (v := undef) rfl (by kernel_rfl) (by kernel_rfl) (by kernel_rfl) (fun _ _ _ h => h) (Or.inr ⟨by rfl, rfl⟩) (by assumption) ?_
                  change wpAnyH _ _ _ _ _ _ _ (Act.put _ (some 66) _) _
                  (try simp only [Act.put, List.setIfInBounds_toArray, List.set_cons_zero, List.set_cons_succ])
                  refine wpAnyH_take (i := 30) (oi := _) (v := undef) rfl (by kernel_rfl) (by kernel_rfl) (by kernel_rfl) (fun _ _ _ h => h) (Or.inr ⟨by rfl, rfl⟩) (by assumption) ?_
                  change wpAnyH _ _ _ _ _ _ _ (Act.put _ (some 67) _) _
                  (try simp only [Act.put, List.setIfInBounds_toArray, List.set_cons_zero, List.set_cons_succ])
                  refine wpAnyH_take (i := 31) (oi := _) (v := undef) rfl (by kernel_rfl) (by kernel_rfl) (by kernel_rfl) (fun _ _ _ h => h) (Or.inr ⟨by rfl, rfl⟩) (by assumption) ?_
                  change wpAnyH _ _ _ _ _ _ _ (Act.put _ (some 68) _) _
                  (try simp only [Act.put, List.setIfInBounds_toArray, List.set_cons_zero, List.set_cons_succ])
                  refine wpAnyH_take (i := 32) (oi := _) (v := undef) rfl (by kernel_rfl) (by kernel_rfl) (by kernel_rfl) (fun _ _ _ h => h) (Or.inr ⟨by rfl, rfl⟩) (by assumption) ?_
                  change wpAnyH _ _ _ _ _ _ _ (Act.put _ (some 69) _) _
                  (try simp only [Act.put, List.setIfInBounds_toArray, List.set_cons_zero, List.set_cons_succ])
                  refine wpAnyH_take (i := 33) (oi := _) (v := undef) rfl (by kernel_rfl) (by kernel_rfl) (by kernel_rfl) (fun _ _ _ h => h) (Or.inr ⟨by rfl, rfl⟩) (by assumption) ?_
                  change wpAnyH _ _ _ _ _ _ _ (Act.put _ (some 70) _) _
                  (try simp only [Act.put, List.setIfInBounds_toArray, List.set_cons_zero, List.set_cons_succ])
                  refine wpAnyH_take (i := 34) (oi := _) (v := undef) rfl (by kernel_rfl) (by kernel_rfl) (by kernel_rfl) (fun _ _ _ h => h) (Or.inr ⟨by rfl, rfl⟩) (by assumption) ?_
                  change wpAnyH _ _ _ _ _ _ _ (Act.put _ (some 71) _) _
                  (try simp only [Act.put, List.setIfInBounds_toArray, List.set_cons_zero, List.set_cons_succ])
                  refine wpAnyH_take (i := 35) (oi := _) (v := undef) rfl (by kernel_rfl) (by kernel_rfl) (by kernel_rfl) (fun _ _ _ h => h) (Or.inr ⟨by rfl, rfl⟩) (by assumption) ?_
                  change wpAnyH _ _ _ _ _ _ _ (Act.put _ (some 72) _) _
                  (try simp only [Act.put, List.setIfInBounds_toArray, List.set_cons_zero, List.set_cons_succ])
                  refine wpAnyH_take (i := 36) (oi := _) (v := ?_) rfl (by kernel_rfl) (by kernel_rfl) (by kernel_rfl) (fun _ _ _ h => h) (Or.inl ⟨by rfl, ?_⟩) (by assumption) ?_
                  rotate_left 1
                  · intro w hSw; clear hSw; first | (go_simp; done) | (go_simp; with_reducible rfl)
                  change wpAnyH _ _ _ _ _ _ _ (Act.put _ (some 73) _) _
                  (try simp only [Act.put, List.setIfInBounds_toArray, List.set_cons_zero, List.set_cons_succ])
                  refine wpAnyH_done (by kernel_rfl) ?_ _
                  have R := Lib.hid (chain HB0.out (chain HWR.out hbx))
                  go_wp2
                  go_ret
                  exact ⟨by rw [HF.out]; rfl, R.out⟩
                · have HLO : Hid LO := HLOI.out.2 fun _ => by omega
                  have d1 : decide (p0 ≤ pz) = false := decide_eq_false hid
                  clear hid
                  refine wpAnyH_take (i := 25) (oi := _) (v := ?_) rfl (by kernel_rfl) (by kernel_rfl) (by kernel_rfl) (fun _ _ _ h => h) (Or.inl ⟨by rfl, ?_⟩) (by assumption) ?_
                  rotate_left 1
                  · intro w hSw; clear hSw; first | (go_simp; done) | (go_simp; with_reducible rfl)
                  change wpAnyH _ _ _ _ _ _ _ (Act.put _ (some 62) _) _
                  (try simp only [Act.put, List.setIfInBounds_toArray, List.set_cons_zero, List.set_cons_succ])
                  refine wpAnyH_take (i := 26) (oi := _) (v := ?_) rfl (by kernel_rfl) (by kernel_rfl) (by kernel_rfl) (fun _ _ _ h => h) (Or.inl ⟨by rfl, ?_⟩) (by assumption) ?_
                  rotate_left 1
                  · intro w hSw; clear hSw; first | (go_simp; done) | (go_simp; with_reducible rfl)
                  change wpAnyH _ _ _ _ _ _ _ (Act.put _ (some 63) _) _
                  (try simp only [Act.put, List.setIfInBounds_toArray, List.set_cons_zero, List.set_cons_succ])
                  refine wpAnyH_take (i := 27) (oi := _) (v := ?_) rfl (by kernel_rfl) (by kernel_rfl) (by kernel_rfl) (fun _ _ _ h => h) (Or.inl ⟨by rfl, ?_⟩) (by assumption) ?_
                  rotate_left 1
                  · intro w hSw; clear hSw; first | (go_simp; done) | (go_simp; with_reducible rfl)
                  change wpAnyH _ _ _ _ _ _ _ (Act.put _ (some 64) _) _
                  (try simp only [Act.put, List.setIfInBounds_toArray, List.set_cons_zero, List.set_cons_succ])
                  refine wpAnyH_take (i := 28) (oi := _) (v := ?_) rfl (by kernel_rfl) (by kernel_rfl) (by kernel_rfl) (fun _ _ _ h => h) (Or.inl ⟨by rfl, ?_⟩) (by assumption) ?_
                  rotate_left 1
                  · intro w hSw; clear hSw; first | (go_simp; done) | (go_simp; with_reducible rfl)
                  change wpAnyH _ _ _ _ _ _ _ (Act.put _ (some 65) _) _
                  (try simp only [Act.put, List.setIfInBounds_toArray, List.set_cons_zero, List.set_cons_succ])
                  refine wpAnyH_take (i := 29) (oi := _) (v := ?_) rfl (by kernel_rfl) (by kernel_rfl) (by kernel_rfl) (fun _ _ _ h => h) (Or.inl ⟨by rfl, ?_⟩) (by assumption) ?_
                  rotate_left 1
                  · intro w hSw; obtain ⟨⟨s0, s1, s2, s3, s4⟩, ⟨s5, s6, s7⟩, s8⟩ := hSw; first | (go_simp; done) | (go_simp; with_reducible rfl)
                  change wpAnyH _ _ _ _ _ _ _ (Act.put _ (some 66) _) _
                  (try simp only [Act.put, List.setIfInBounds_toArray, List.set_cons_zero, List.set_cons_succ])
                  refine wpAnyH_take (i := 30) (oi := _) (v := ?_) rfl (by kernel_rfl) (by kernel_rfl) (by kernel_rfl) (fun _ _ _ h => h) (Or.inl ⟨by rfl, ?_⟩) (by assumption) ?_
                  rotate_left 1
                  · intro w hSw; clear hSw; first | (go_simp; done) | (go_simp; with_reducible rfl)
                  change wpAnyH _ _ _ _ _ _ _ (Act.put _ (some 67) _) _
                  (try simp only [Act.put, List.setIfInBounds_toArray, List.set_cons_zero, List.set_cons_succ])
                  refine wpAnyH_take (i := 31) (oi := _) (v := ?_) rfl (by kernel_rfl) (by kernel_rfl) (by kernel_rfl) (fun _ _ _ h => h) (Or.inl ⟨by rfl, ?_⟩) (by assumption) ?_
                  rotate_left 1
                  · intro w hSw; obtain ⟨⟨s0, s1, s2, s3, s4⟩, ⟨s5, s6, s7⟩, s8⟩ := hSw; first | (go_simp; done) | (go_simp; with_reducible rfl)
                  change wpAnyH _ _ _ _ _ _ _ (Act.put _ (some 68) _) _
                  (try simp only [Act.put, List.setIfInBounds_toArray, List.set_cons_zero, List.set_cons_succ])
                  refine wpAnyH_take (i := 33) (oi := _) (v := ?_) rfl (by kernel_rfl) (by kernel_rfl) (by kernel_rfl) (fun _ _ _ h => h) (Or.inl ⟨by rfl, ?_⟩) (by assumption) ?_
                  rotate_left 1
                  · intro w hSw; clear hSw; first | (go_simp; done) | (go_simp; with_reducible rfl)
                  change wpAnyH _ _ _ _ _ _ _ (Act.put _ (some 70) _) _
                  (try simp only [Act.put, List.setIfInBounds_toArray, List.set_cons_zero, List.set_cons_succ])
                  refine wpAnyH_take (i := 34) (oi := _) (v := ?_) rfl (by kernel_rfl) (by kernel_rfl) (by kernel_rfl) (fun _ _ _ h => h) (Or.inl ⟨by rfl, ?_⟩) (by assumption) ?_
                  rotate_left 1
                  · intro w hSw; obtain ⟨⟨s0, s1, s2, s3, s4⟩, ⟨s5, s6, s7⟩, s8⟩ := hSw; first | (go_simp; done) | (go_simp; with_reducible rfl)
                  change wpAnyH _ _ _ _ _ _ _ (Act.put _ (some 71) _) _
                  (try simp only [Act.put, List.setIfInBounds_toArray, List.set_cons_zero, List.set_cons_succ])
                  refine wpAnyH_ready (rs := [32]) (by kernel_rfl) (by simp) ?_
                  refine AllReadyH.cons (o := _) rfl (fun K hK => ?_) AllReadyH.nil
                  go_simp
                  (go_at_call 36; with_reducible (refine Calls.mono (HOWN.out _ (chain HWR.out hbx)) ?_); rintro e w7 ⟨rfl, hb7⟩; have hbx := chain hbx hb7)
                  refine hK.out _ _ (⟨HX.out _ hbx, HFH.out _ (chain HWR.out hbx), HPC.out _ (chain HWR.out hbx)⟩) (fun hHeld32 => ?_)
                  (try simp only [Act.put, List.setIfInBounds_toArray, List.set_cons_zero, List.set_cons_succ])
                  clear hK K
                  refine wpAnyH_take (i := 35) (oi := _) (v := ?_) rfl (by kernel_rfl) (by kernel_rfl) (by kernel_rfl) (fun _ _ _ h => h) (Or.inl ⟨by rfl, ?_⟩) (by assumption) ?_
                  rotate_left 1
                  · intro w hSw; clear hSw; first | (go_simp; done) | (go_simp; with_reducible rfl)
                  change wpAnyH _ _ _ _ _ _ _ (Act.put _ (some 72) _) _
                  (try simp only [Act.put, List.setIfInBounds_toArray, List.set_cons_zero, List.set_cons_succ])
                  refine wpAnyH_take (i := 36) (oi := _) (v := ?_) rfl (by kernel_rfl) (by kernel_rfl) (by kernel_rfl) (fun _ _ _ h => h) (Or.inl ⟨by rfl, ?_⟩) (by assumption) ?_
                  rotate_left 1
                  · intro w hSw; clear hSw; first | (go_simp; done) | (go_simp; with_reducible rfl)
                  change wpAnyH _ _ _ _ _ _ _ (Act.put _ (some 73) _) _
                  (try simp only [Act.put, List.setIfInBounds_toArray, List.set_cons_zero, List.set_cons_succ])
                  by_cases hom : (m : Int) > p1
                  · have HF : Hid (S = false) := HNO.out fun hg => by have := (HGD.out.1 hg).2.2; omega
                    refine wpAnyH_done (by kernel_rfl) ?_ _
                    have R := Lib.hid (chain HB0.out (chain HWR.out hbx))
                    go_wp2
                    go_ret
                    exact ⟨by rw [HF.out]; rfl, R.out⟩
                  · have hgood : gd1 t k := HGD.out.2 ⟨HP.out, HLO.out, by omega⟩
                    have HJ := Lib.hid (HNX.out hgood)
                    clear hgood
                    refine wpAnyH_done (by kernel_rfl) ?_ _
                    have R := Lib.hid (chain HWR.out hbx)
                    go_wp2
                    clear hbx
                    go_roundw
                    case rel => first | exact ⟨k + 1, by omega, by go_num, HJ, R⟩ | ((repeat apply Exists.intro); exact ⟨⟨k + 1, by omega, by go_num, HJ, R⟩, rfl⟩)
                    case measure => first | (simp [intOf]; done) | (simp [intOf]; omega)
          · have hkN : N1 = k := by omega
            subst hkN
            have k1 : ¬ (N1 : Int) < (N1 : Int) := by omega
            obtain ⟨f0, f1, f2⟩ := HFH.out wr hB.out
            have HG1 := hI
            have HB1 := hB
            clear hI hB hlt hk k0
            go_wp2
            clear f0 f1 f2 k1
            go_loopw [5] (fun i wr => ∃ k : Nat, k ≤ N2 ∧ i = .int .i64 k ∧ Hid (∀ j, j < k → gd2 t j) ∧ Hid (Below W0.heap.size W0 wr)) (fun i _ => N2 - (intOf i).toNat)
            case atStart => exact ⟨0, Nat.zero_le _, rfl, fun j hj => absurd hj (Nat.not_lt_zero j), HB1.out⟩
            case round =>
              clear HB1
              obtain ⟨k, hk, rfl, hI, hB⟩ := hrel
              have k0 : (0 : Int) ≤ (k : Int) := by omega
              by_cases hlt : k < N2
              · have k1 : (k : Int) < (N2 : Int) := by omega
                have hkx : k < t.vs.length := by have := HN2.out; omega
                obtain ⟨b, off, hA, hbl, u0, u1, u2, u3⟩ := (HTB.out wr hB.out).vs k hkx
                have hia := fun W => HIN.out t.vs[k].id 0 7 W
                have hib := fun W => HIN.out t.vs[k].blocks 0 32 W
                have hic := fun W => HIN.out t.vs[k].base 0 1099511627776 W
                have hte := fun X hb => HTEH.out t.vs[k].ten X hb
                obtain ⟨LO, hLO⟩ : ∃ P : Prop, (P ↔ ∀ h2 : 0 < k, (t.vs[k - 1]'(by omega)).id < t.vs[k].id) := ⟨_, Iff.rfl⟩
                have hgd : gd2 t k ↔ inR t.vs[k].id 0 7 ∧ LO ∧ (tenAt t.ts t.vs[k].ten).isSome = true ∧ inR t.vs[k].blocks 0 32 ∧ inR t.vs[k].base 0 1099511627776 := ⟨fun ⟨_, q1, q2, q3⟩ => ⟨q1, hLO.2 q2, q3⟩, fun ⟨q1, q2, q3⟩ => ⟨hkx, q1, hLO.1 q2, q3⟩⟩
                have hsg := HSG.out t.vs[k].ten
                obtain ⟨j, pz, hjk, hlo, hpc⟩ : ∃ (j : Nat) (pz : Int), (0 < k → k = j + 1) ∧ (LO ↔ (0 < k → pz < t.vs[k].id)) ∧ ∀ X, Below W0.heap.size W0 X → 0 < k → X.cell? ⟨b, off + j * 4, none⟩ = some (.int .i64 pz) := by
                  by_cases h0 : k = 0
                  · exact ⟨0, 0, fun q => by omega, ⟨fun _ q => by omega, fun _ => hLO.2 fun q => by omega⟩, fun _ _ q => by omega⟩
                  · obtain ⟨j, hj⟩ : ∃ j, k = j + 1 := ⟨k - 1, by omega⟩
                    have hjx : j < t.vs.length := by omega
                    refine ⟨j, t.vs[j].id, fun _ => hj, ?_, fun X hb _ => ?_⟩
                    · rw [hLO]
                      simp only [show k - 1 = j by omega]
                    · obtain ⟨b2, off2, e, _, c0, _⟩ := (HTB.out X hb).vs j hjx
                      rw [hA] at e
                      injection e with e
                      injection e with e1 e2
                      subst e1 e2
                      exact c0
                clear hLO
                obtain ⟨x, hx⟩ : ∃ x, x = t.vs[k] := ⟨_, rfl⟩
                simp only [← hx] at u0 u1 u2 u3 hia hib hic hte hgd hsg hlo
                clear hx
                obtain ⟨p0, p1, p2, p3⟩ := x
                simp only at u0 u1 u2 u3 hia hib hic hte hgd hsg hlo
                have HLOI := Lib.hid hlo
                have HPC := Lib.hid hpc
                have HJK := Lib.hid hjk
                obtain ⟨ba, hba⟩ : ∃ b, b = decide (inR p0 0 7) := ⟨_, rfl⟩
                obtain ⟨bk, hbk⟩ : ∃ b, b = decide (inR p2 0 32) := ⟨_, rfl⟩
                obtain ⟨bs, hbs⟩ : ∃ b, b = decide (inR p3 0 1099511627776) := ⟨_, rfl⟩
                simp only [← hba] at hia
                simp only [← hbk] at hib
                simp only [← hbs] at hic
                have HBA : Hid (ba = true ↔ inR p0 0 7) := by unfold Hid; rw [hba, decide_eq_true_iff]
                have HBB : Hid (bk = true ↔ inR p2 0 32) := by unfold Hid; rw [hbk, decide_eq_true_iff]
                have HBC : Hid (bs = true ↔ inR p3 0 1099511627776) := by unfold Hid; rw [hbs, decide_eq_true_iff]
                have HA := Lib.hid hia
                have HBK := Lib.hid hib
                have HBS := Lib.hid hic
                clear hlo hpc hjk hba hbk hbs hia hib hic
                obtain ⟨c, hc⟩ : ∃ c, c = tenI t.ts p1 := ⟨_, rfl⟩
                simp only [← hc] at hte hsg
                obtain ⟨hs1, hs2, hs3⟩ := hsg
                have hb1 : Below wr.heap.size wr (wr.alloc (.cells #[.int .i64 p0, .int .i64 p1, .int .i64 p2, .int .i64 p3] 51)) := (Below.refl _ _).alloc (Nat.le_refl _) _
                have HX : Hid (∀ X, Below (wr.alloc (.cells #[.int .i64 p0, .int .i64 p1, .int .i64 p2, .int .i64 p3] 51)).heap.size (wr.alloc (.cells #[.int .i64 p0, .int .i64 p1, .int .i64 p2, .int .i64 p3] 51)) X → X.cell? ⟨wr.heap.size, 0, none⟩ = some (.int .i64 p0) ∧ X.cell? ⟨wr.heap.size, 1, none⟩ = some (.int .i64 p1) ∧ X.cell? ⟨wr.heap.size, 2, none⟩ = some (.int .i64 p2) ∧ X.cell? ⟨wr.heap.size, 3, none⟩ = some (.int .i64 p3)) := fun X hb => cellsL4 ((hb.block _ (by simp)).trans (heap_alloc_new wr _))
                have HWR := Lib.hid (chain hB.out hb1)
                obtain ⟨A1, c1, A2, c2, A3, c3⟩ := V
                simp only at hA
                subst hA
                simp only at HFH hte
                obtain ⟨f0, f1, f2⟩ := HFH.out wr hB.out
                have HTEN := Lib.hid hte
                have HGD := Lib.hid hgd
                have HNX : Hid (gd2 t k → ∀ j, j < k + 1 → gd2 t j) := fun hg j hj => by
                  rcases Nat.lt_or_ge j k with q | q
                  · exact hI.out j q
                  · have : j = k := by omega
                    subst this; exact hg
                have HNO : Hid (¬ gd2 t k → S = false) := fun hg => by
                  cases hs : S with
                  | false => rfl
                  | true => exact absurd ((HS.out.1 hs).2.2.2.2.1 k hlt) hg
                clear hte hgd hI hc
                go_wp2
                have hbx : Below (wr.alloc (.cells #[.int .i64 p0, .int .i64 p1, .int .i64 p2, .int .i64 p3] 51)).heap.size (wr.alloc (.cells #[.int .i64 p0, .int .i64 p1, .int .i64 p2, .int .i64 p3] 51)) (wr.alloc (.cells #[.int .i64 p0, .int .i64 p1, .int .i64 p2, .int .i64 p3] 51)).drew := (Below.refl _ _).drew
                obtain ⟨W1, hW1⟩ : ∃ W, W = (wr.alloc (.cells #[.int .i64 p0, .int .i64 p1, .int .i64 p2, .int .i64 p3] 51)) := ⟨_, rfl⟩
                obtain ⟨q1, hq1⟩ : ∃ q, q = wr.heap.size := ⟨_, rfl⟩
                rw [← hW1] at HX HWR hbx ⊢
                rw [← hq1] at HX ⊢
                clear hW1 hq1 hb1 f0 f1 f2
                refine wp_region_held_drew (S := (fun X => (X.cell? ⟨q1, 0, none⟩ = some (.int .i64 p0) ∧ X.cell? ⟨q1, 1, none⟩ = some (.int .i64 p1) ∧ X.cell? ⟨q1, 2, none⟩ = some (.int .i64 p2) ∧ X.cell? ⟨q1, 3, none⟩ = some (.int .i64 p3)) ∧ (X.cell? ⟨q0, 0, none⟩ = some (.slice A1 N1 c1) ∧ X.cell? ⟨q0, 1, none⟩ = some (.slice (some ⟨b, off, none⟩) N2 c2) ∧ X.cell? ⟨q0, 2, none⟩ = some (.slice A3 N3 c3)) ∧ (0 < k → X.cell? ⟨b, off + j * 4, none⟩ = some (.int .i64 pz)))) (by kernel_rfl) (⟨HX.out _ hbx, HFH.out _ (chain HWR.out hbx), HPC.out _ (chain HWR.out hbx)⟩) (fun hHeld => ?_)
                refine wpAnyH_take (i := 0) (oi := _) (v := ?_) rfl (by kernel_rfl) (by kernel_rfl) (by kernel_rfl) (fun _ _ _ h => h) (Or.inl ⟨by rfl, ?_⟩) (by assumption) ?_
                rotate_left 1
                · intro w hSw; clear hSw; first | (go_simp; done) | (go_simp; with_reducible rfl)
                change wpAnyH _ _ _ _ _ _ _ (Act.put _ (some 86) _) _
                (try simp only [Act.put, List.setIfInBounds_toArray, List.set_cons_zero, List.set_cons_succ])
                refine wpAnyH_take (i := 1) (oi := _) (v := ?_) rfl (by kernel_rfl) (by kernel_rfl) (by kernel_rfl) (fun _ _ _ h => h) (Or.inl ⟨by rfl, ?_⟩) (by assumption) ?_
                rotate_left 1
                · intro w hSw; obtain ⟨⟨s0, s1, s2, s3⟩, ⟨s5, s6, s7⟩, s8⟩ := hSw; first | (go_simp; done) | (go_simp; with_reducible rfl)
                change wpAnyH _ _ _ _ _ _ _ (Act.put _ (some 87) _) _
                (try simp only [Act.put, List.setIfInBounds_toArray, List.set_cons_zero, List.set_cons_succ])
                refine wpAnyH_ready (rs := [2]) (by kernel_rfl) (by simp) ?_
                refine AllReadyH.cons (o := _) rfl (fun K hK => ?_) AllReadyH.nil
                go_simp
                (go_at_call 34; with_reducible (refine Calls.mono (HA.out _) ?_); rintro e w7 ⟨rfl, rfl⟩)
                refine hK.out _ _ (⟨HX.out _ hbx, HFH.out _ (chain HWR.out hbx), HPC.out _ (chain HWR.out hbx)⟩) (fun hHeld2 => ?_)
                (try simp only [Act.put, List.setIfInBounds_toArray, List.set_cons_zero, List.set_cons_succ])
                clear hK K
                cases ba
                · (try simp only [Bool.not_true, Bool.not_false])
                  have HF : Hid (S = false) := HNO.out fun hg => by have := HBA.out.2 (HGD.out.1 hg).1; cases this
                  refine wpAnyH_take (i := 3) (oi := _) (v := ?_) rfl (by kernel_rfl) (by kernel_rfl) (by kernel_rfl) (fun _ _ _ h => h) (Or.inl ⟨by rfl, ?_⟩) (by assumption) ?_
                  rotate_left 1
                  · intro w hSw; clear hSw; first | (go_simp; done) | (go_simp; with_reducible rfl)
                  change wpAnyH _ _ _ _ _ _ _ (Act.put _ (some 89) _) _
                  (try simp only [Act.put, List.setIfInBounds_toArray, List.set_cons_zero, List.set_cons_succ])
                  refine wpAnyH_take (i := 4) (oi := _) (v := ?_) rfl (by kernel_rfl) (by kernel_rfl) (by kernel_rfl) (fun _ _ _ h => h) (Or.inl ⟨by rfl, ?_⟩) (by assumption) ?_
                  rotate_left 1
                  · intro w hSw; clear hSw; first | (go_simp; done) | (go_simp; with_reducible rfl)
                  change wpAnyH _ _ _ _ _ _ _ (Act.put _ (some 90) _) _
                  (try simp only [Act.put, List.setIfInBounds_toArray, List.set_cons_zero, List.set_cons_succ])
                  refine wpAnyH_take (i := 5) (oi := _) (v := undef) rfl (by kernel_rfl) (by kernel_rfl) (by kernel_rfl) (fun _ _ _ h => h) (Or.inr ⟨by rfl, rfl⟩) (by assumption) ?_
                  change wpAnyH _ _ _ _ _ _ _ (Act.put _ (some 91) _) _
                  (try simp only [Act.put, List.setIfInBounds_toArray, List.set_cons_zero, List.set_cons_succ])
                  refine wpAnyH_take (i := 6) (oi := _) (v := undef) rfl (by kernel_rfl) (by kernel_rfl) (by kernel_rfl) (fun _ _ _ h => h) (Or.inr ⟨by rfl, rfl⟩) (by assumption) ?_
                  change wpAnyH _ _ _ _ _ _ _ (Act.put _ (some 92) _) _
                  (try simp only [Act.put, List.setIfInBounds_toArray, List.set_cons_zero, List.set_cons_succ])
                  refine wpAnyH_take (i := 7) (oi := _) (v := undef) rfl (by kernel_rfl) (by kernel_rfl) (by kernel_rfl) (fun _ _ _ h => h) (Or.inr ⟨by rfl, rfl⟩) (by assumption) ?_
                  change wpAnyH _ _ _ _ _ _ _ (Act.put _ (some 93) _) _
                  (try simp only [Act.put, List.setIfInBounds_toArray, List.set_cons_zero, List.set_cons_succ])
                  refine wpAnyH_take (i := 8) (oi := _) (v := undef) rfl (by kernel_rfl) (by kernel_rfl) (by kernel_rfl) (fun _ _ _ h => h) (Or.inr ⟨by rfl, rfl⟩) (by assumption) ?_
                  change wpAnyH _ _ _ _ _ _ _ (Act.put _ (some 94) _) _
                  (try simp only [Act.put, List.setIfInBounds_toArray, List.set_cons_zero, List.set_cons_succ])
                  refine wpAnyH_take (i := 9) (oi := _) (v := undef) rfl (by kernel_rfl) (by kernel_rfl) (by kernel_rfl) (fun _ _ _ h => h) (Or.inr ⟨by rfl, rfl⟩) (by assumption) ?_
                  change wpAnyH _ _ _ _ _ _ _ (Act.put _ (some 95) _) _
                  (try simp only [Act.put, List.setIfInBounds_toArray, List.set_cons_zero, List.set_cons_succ])
                  refine wpAnyH_take (i := 10) (oi := _) (v := undef) rfl (by kernel_rfl) (by kernel_rfl) (by kernel_rfl) (fun _ _ _ h => h) (Or.inr ⟨by rfl, rfl⟩) (by assumption) ?_
                  change wpAnyH _ _ _ _ _ _ _ (Act.put _ (some 96) _) _
                  (try simp only [Act.put, List.setIfInBounds_toArray, List.set_cons_zero, List.set_cons_succ])
                  refine wpAnyH_take (i := 11) (oi := _) (v := undef) rfl (by kernel_rfl) (by kernel_rfl) (by kernel_rfl) (fun _ _ _ h => h) (Or.inr ⟨by rfl, rfl⟩) (by assumption) ?_
                  change wpAnyH _ _ _ _ _ _ _ (Act.put _ (some 97) _) _
                  (try simp only [Act.put, List.setIfInBounds_toArray, List.set_cons_zero, List.set_cons_succ])
                  refine wpAnyH_take (i := 12) (oi := _) (v := undef) rfl (by kernel_rfl) (by kernel_rfl) (by kernel_rfl) (fun _ _ _ h => h) (Or.inr ⟨by rfl, rfl⟩) (by assumption) ?_
                  change wpAnyH _ _ _ _ _ _ _ (Act.put _ (some 98) _) _
                  (try simp only [Act.put, List.setIfInBounds_toArray, List.set_cons_zero, List.set_cons_succ])
                  refine wpAnyH_take (i := 13) (oi := _) (v := undef) rfl (by kernel_rfl) (by kernel_rfl) (by kernel_rfl) (fun _ _ _ h => h) (Or.inr ⟨by rfl, rfl⟩) (by assumption) ?_
                  change wpAnyH _ _ _ _ _ _ _ (Act.put _ (some 99) _) _
                  (try simp only [Act.put, List.setIfInBounds_toArray, List.set_cons_zero, List.set_cons_succ])
                  refine wpAnyH_take (i := 14) (oi := _) (v := undef) rfl (by kernel_rfl) (by kernel_rfl) (by kernel_rfl) (fun _ _ _ h => h) (Or.inr ⟨by rfl, rfl⟩) (by assumption) ?_
                  change wpAnyH _ _ _ _ _ _ _ (Act.put _ (some 100) _) _
                  (try simp only [Act.put, List.setIfInBounds_toArray, List.set_cons_zero, List.set_cons_succ])
                  refine wpAnyH_take (i := 15) (oi := _) (v := undef) rfl (by kernel_rfl) (by kernel_rfl) (by kernel_rfl) (fun _ _ _ h => h) (Or.inr ⟨by rfl, rfl⟩) (by assumption) ?_
                  change wpAnyH _ _ _ _ _ _ _ (Act.put _ (some 101) _) _
                  (try simp only [Act.put, List.setIfInBounds_toArray, List.set_cons_zero, List.set_cons_succ])
                  refine wpAnyH_take (i := 16) (oi := _) (v := undef) rfl (by kernel_rfl) (by kernel_rfl) (by kernel_rfl) (fun _ _ _ h => h) (Or.inr ⟨by rfl, rfl⟩) (by assumption) ?_
                  change wpAnyH _ _ _ _ _ _ _ (Act.put _ (some 102) _) _
                  (try simp only [Act.put, List.setIfInBounds_toArray, List.set_cons_zero, List.set_cons_succ])
                  refine wpAnyH_take (i := 17) (oi := _) (v := undef) rfl (by kernel_rfl) (by kernel_rfl) (by kernel_rfl) (fun _ _ _ h => h) (Or.inr ⟨by rfl, rfl⟩) (by assumption) ?_
                  change wpAnyH _ _ _ _ _ _ _ (Act.put _ (some 103) _) _
                  (try simp only [Act.put, List.setIfInBounds_toArray, List.set_cons_zero, List.set_cons_succ])
                  refine wpAnyH_take (i := 18) (oi := _) (v := undef) rfl (by kernel_rfl) (by kernel_rfl) (by kernel_rfl) (fun _ _ _ h => h) (Or.inr ⟨by rfl, rfl⟩) (by assumption) ?_
                  change wpAnyH _ _ _ _ _ _ _ (Act.put _ (some 104) _) _
                  (try simp only [Act.put, List.setIfInBounds_toArray, List.set_cons_zero, List.set_cons_succ])
                  refine wpAnyH_take (i := 19) (oi := _) (v := ?_) rfl (by kernel_rfl) (by kernel_rfl) (by kernel_rfl) (fun _ _ _ h => h) (Or.inl ⟨by rfl, ?_⟩) (by assumption) ?_
                  rotate_left 1
                  · intro w hSw; clear hSw; first | (go_simp; done) | (go_simp; with_reducible rfl)
                  change wpAnyH _ _ _ _ _ _ _ (Act.put _ (some 105) _) _
                  (try simp only [Act.put, List.setIfInBounds_toArray, List.set_cons_zero, List.set_cons_succ])
                  refine wpAnyH_take (i := 20) (oi := _) (v := ?_) rfl (by kernel_rfl) (by kernel_rfl) (by kernel_rfl) (fun _ _ _ h => h) (Or.inl ⟨by rfl, ?_⟩) (by assumption) ?_
                  rotate_left 1
                  · intro w hSw; clear hSw; first | (go_simp; done) | (go_simp; with_reducible rfl)
                  change wpAnyH _ _ _ _ _ _ _ (Act.put _ (some 106) _) _
                  (try simp only [Act.put, List.setIfInBounds_toArray, List.set_cons_zero, List.set_cons_succ])
                  refine wpAnyH_take (i := 21) (oi := _) (v := undef) rfl (by kernel_rfl) (by kernel_rfl) (by kernel_rfl) (fun _ _ _ h => h) (Or.inr ⟨by rfl, rfl⟩) (by assumption) ?_
                  change wpAnyH _ _ _ _ _ _ _ (Act.put _ (some 107) _) _
                  (try simp only [Act.put, List.setIfInBounds_toArray, List.set_cons_zero, List.set_cons_succ])
                  refine wpAnyH_take (i := 22) (oi := _) (v := undef) rfl (by kernel_rfl) (by kernel_rfl) (by kernel_rfl) (fun _ _ _ h => h) (Or.inr ⟨by rfl, rfl⟩) (by assumption) ?_
                  change wpAnyH _ _ _ _ _ _ _ (Act.put _ (some 108) _) _
                  (try simp only [Act.put, List.setIfInBounds_toArray, List.set_cons_zero, List.set_cons_succ])
                  refine wpAnyH_take (i := 23) (oi := _) (v := undef) rfl (by kernel_rfl) (by kernel_rfl) (by kernel_rfl) (fun _ _ _ h => h) (Or.inr ⟨by rfl, rfl⟩) (by assumption) ?_
                  change wpAnyH _ _ _ _ _ _ _ (Act.put _ (some 109) _) _
                  (try simp only [Act.put, List.setIfInBounds_toArray, List.set_cons_zero, List.set_cons_succ])
                  refine wpAnyH_take (i := 24) (oi := _) (v := undef) rfl (by kernel_rfl) (by kernel_rfl) (by kernel_rfl) (fun _ _ _ h => h) (Or.inr ⟨by rfl, rfl⟩) (by assumption) ?_
                  change wpAnyH _ _ _ _ _ _ _ (Act.put _ (some 110) _) _
                  (try simp only [Act.put, List.setIfInBounds_toArray, List.set_cons_zero, List.set_cons_succ])
                  refine wpAnyH_take (i := 25) (oi := _) (v := undef) rfl (by kernel_rfl) (by kernel_rfl) (by kernel_rfl) (fun _ _ _ h => h) (Or.inr ⟨by rfl, rfl⟩) (by assumption) ?_
                  change wpAnyH _ _ _ _ _ _ _ (Act.put _ (some 111) _) _
                  (try simp only [Act.put, List.setIfInBounds_toArray, List.set_cons_zero, List.set_cons_succ])
                  refine wpAnyH_take (i := 26) (oi := _) (v := ?_) rfl (by kernel_rfl) (by kernel_rfl) (by kernel_rfl) (fun _ _ _ h => h) (Or.inl ⟨by rfl, ?_⟩) (by assumption) ?_
                  rotate_left 1
                  · intro w hSw; clear hSw; first | (go_simp; done) | (go_simp; with_reducible rfl)
                  change wpAnyH _ _ _ _ _ _ _ (Act.put _ (some 112) _) _
                  (try simp only [Act.put, List.setIfInBounds_toArray, List.set_cons_zero, List.set_cons_succ])
                  refine wpAnyH_take (i := 27) (oi := _) (v := ?_) rfl (by kernel_rfl) (by kernel_rfl) (by kernel_rfl) (fun _ _ _ h => h) (Or.inl ⟨by rfl, ?_⟩) (by assumption) ?_
                  rotate_left 1
                  · intro w hSw; clear hSw; first | (go_simp; done) | (go_simp; with_reducible rfl)
                  change wpAnyH _ _ _ _ _ _ _ (Act.put _ (some 113) _) _
                  (try simp only [Act.put, List.setIfInBounds_toArray, List.set_cons_zero, List.set_cons_succ])
                  refine wpAnyH_take (i := 28) (oi := _) (v := undef) rfl (by kernel_rfl) (by kernel_rfl) (by kernel_rfl) (fun _ _ _ h => h) (Or.inr ⟨by rfl, rfl⟩) (by assumption) ?_
                  change wpAnyH _ _ _ _ _ _ _ (Act.put _ (some 114) _) _
                  (try simp only [Act.put, List.setIfInBounds_toArray, List.set_cons_zero, List.set_cons_succ])
                  refine wpAnyH_take (i := 29) (oi := _) (v := undef) rfl (by kernel_rfl) (by kernel_rfl) (by kernel_rfl) (fun _ _ _ h => h) (Or.inr ⟨by rfl, rfl⟩) (by assumption) ?_
                  change wpAnyH _ _ _ _ _ _ _ (Act.put _ (some 115) _) _
                  (try simp only [Act.put, List.setIfInBounds_toArray, List.set_cons_zero, List.set_cons_succ])
                  refine wpAnyH_take (i := 30) (oi := _) (v := undef) rfl (by kernel_rfl) (by kernel_rfl) (by kernel_rfl) (fun _ _ _ h => h) (Or.inr ⟨by rfl, rfl⟩) (by assumption) ?_
                  change wpAnyH _ _ _ _ _ _ _ (Act.put _ (some 116) _) _
                  (try simp only [Act.put, List.setIfInBounds_toArray, List.set_cons_zero, List.set_cons_succ])
                  refine wpAnyH_take (i := 31) (oi := _) (v := undef) rfl (by kernel_rfl) (by kernel_rfl) (by kernel_rfl) (fun _ _ _ h => h) (Or.inr ⟨by rfl, rfl⟩) (by assumption) ?_
                  change wpAnyH _ _ _ _ _ _ _ (Act.put _ (some 117) _) _
                  (try simp only [Act.put, List.setIfInBounds_toArray, List.set_cons_zero, List.set_cons_succ])
                  refine wpAnyH_take (i := 32) (oi := _) (v := ?_) rfl (by kernel_rfl) (by kernel_rfl) (by kernel_rfl) (fun _ _ _ h => h) (Or.inl ⟨by rfl, ?_⟩) (by assumption) ?_
                  rotate_left 1
                  · intro w hSw; clear hSw; first | (go_simp; done) | (go_simp; with_reducible rfl)
                  change wpAnyH _ _ _ _ _ _ _ (Act.put _ (some 118) _) _
                  (try simp only [Act.put, List.setIfInBounds_toArray, List.set_cons_zero, List.set_cons_succ])
                  refine wpAnyH_take (i := 33) (oi := _) (v := ?_) rfl (by kernel_rfl) (by kernel_rfl) (by kernel_rfl) (fun _ _ _ h => h) (Or.inl ⟨by rfl, ?_⟩) (by assumption) ?_
                  rotate_left 1
                  · intro w hSw; clear hSw; first | (go_simp; done) | (go_simp; with_reducible rfl)
                  change wpAnyH _ _ _ _ _ _ _ (Act.put _ (some 119) _) _
                  (try simp only [Act.put, List.setIfInBounds_toArray, List.set_cons_zero, List.set_cons_succ])
                  refine wpAnyH_take (i := 34) (oi := _) (v := undef) rfl (by kernel_rfl) (by kernel_rfl) (by kernel_rfl) (fun _ _ _ h => h) (Or.inr ⟨by rfl, rfl⟩) (by assumption) ?_
                  change wpAnyH _ _ _ _ _ _ _ (Act.put _ (some 120) _) _
                  (try simp only [Act.put, List.setIfInBounds_toArray, List.set_cons_zero, List.set_cons_succ])
                  refine wpAnyH_take (i := 35) (oi := _) (v := undef) rfl (by kernel_rfl) (by kernel_rfl) (by kernel_rfl) (fun _ _ _ h => h) (Or.inr ⟨by rfl, rfl⟩) (by assumption) ?_
                  change wpAnyH _ _ _ _ _ _ _ (Act.put _ (some 121) _) _
                  (try simp only [Act.put, List.setIfInBounds_toArray, List.set_cons_zero, List.set_cons_succ])
                  refine wpAnyH_take (i := 36) (oi := _) (v := undef) rfl (by kernel_rfl) (by kernel_rfl) (by kernel_rfl) (fun _ _ _ h => h) (Or.inr ⟨by rfl, rfl⟩) (by assumption) ?_
                  change wpAnyH _ _ _ _ _ _ _ (Act.put _ (some 122) _) _
                  (try simp only [Act.put, List.setIfInBounds_toArray, List.set_cons_zero, List.set_cons_succ])
                  refine wpAnyH_take (i := 37) (oi := _) (v := undef) rfl (by kernel_rfl) (by kernel_rfl) (by kernel_rfl) (fun _ _ _ h => h) (Or.inr ⟨by rfl, rfl⟩) (by assumption) ?_
                  change wpAnyH _ _ _ _ _ _ _ (Act.put _ (some 123) _) _
                  (try simp only [Act.put, List.setIfInBounds_toArray, List.set_cons_zero, List.set_cons_succ])
                  refine wpAnyH_take (i := 38) (oi := _) (v := ?_) rfl (by kernel_rfl) (by kernel_rfl) (by kernel_rfl) (fun _ _ _ h => h) (Or.inl ⟨by rfl, ?_⟩) (by assumption) ?_
                  rotate_left 1
                  · intro w hSw; clear hSw; first | (go_simp; done) | (go_simp; with_reducible rfl)
                  change wpAnyH _ _ _ _ _ _ _ (Act.put _ (some 124) _) _
                  (try simp only [Act.put, List.setIfInBounds_toArray, List.set_cons_zero, List.set_cons_succ])
                  refine wpAnyH_done (by kernel_rfl) ?_ _
                  have R := Lib.hid (chain HB0.out (chain HWR.out hbx))
                  go_wp2
                  go_ret
                  exact ⟨by rw [HF.out]; rfl, R.out⟩
                · (try simp only [Bool.not_true, Bool.not_false])
                  have HAA : Hid (inR p0 0 7) := HBA.out.1 rfl
                  refine wpAnyH_take (i := 3) (oi := _) (v := ?_) rfl (by kernel_rfl) (by kernel_rfl) (by kernel_rfl) (fun _ _ _ h => h) (Or.inl ⟨by rfl, ?_⟩) (by assumption) ?_
                  rotate_left 1
                  · intro w hSw; clear hSw; first | (go_simp; done) | (go_simp; with_reducible rfl)
                  change wpAnyH _ _ _ _ _ _ _ (Act.put _ (some 89) _) _
                  (try simp only [Act.put, List.setIfInBounds_toArray, List.set_cons_zero, List.set_cons_succ])
                  refine wpAnyH_take (i := 4) (oi := _) (v := ?_) rfl (by kernel_rfl) (by kernel_rfl) (by kernel_rfl) (fun _ _ _ h => h) (Or.inl ⟨by rfl, ?_⟩) (by assumption) ?_
                  rotate_left 1
                  · intro w hSw; clear hSw; first | (go_simp; done) | (go_simp; with_reducible rfl)
                  change wpAnyH _ _ _ _ _ _ _ (Act.put _ (some 90) _) _
                  (try simp only [Act.put, List.setIfInBounds_toArray, List.set_cons_zero, List.set_cons_succ])
                  by_cases hk0 : k = 0
                  · have kp : decide ((0 : Int) < (k : Int)) = false := decide_eq_false (by omega)
                    have kp2 : decide (0 < k) = false := decide_eq_false (by omega)
                    have HLO : Hid LO := HLOI.out.2 fun q => absurd q (by omega)
                    clear hk0
                    refine wpAnyH_take (i := 5) (oi := _) (v := ?_) rfl (by kernel_rfl) (by kernel_rfl) (by kernel_rfl) (fun _ _ _ h => h) (Or.inl ⟨by rfl, ?_⟩) (by assumption) ?_
                    rotate_left 1
                    · intro w hSw; clear hSw; first | (go_simp; done) | (go_simp; with_reducible rfl)
                    change wpAnyH _ _ _ _ _ _ _ (Act.put _ (some 91) _) _
                    (try simp only [Act.put, List.setIfInBounds_toArray, List.set_cons_zero, List.set_cons_succ])
                    refine wpAnyH_take (i := 6) (oi := _) (v := ?_) rfl (by kernel_rfl) (by kernel_rfl) (by kernel_rfl) (fun _ _ _ h => h) (Or.inl ⟨by rfl, ?_⟩) (by assumption) ?_
                    rotate_left 1
                    · intro w hSw; clear hSw; first | (go_simp; done) | (go_simp; with_reducible rfl)
                    change wpAnyH _ _ _ _ _ _ _ (Act.put _ (some 92) _) _
                    (try simp only [Act.put, List.setIfInBounds_toArray, List.set_cons_zero, List.set_cons_succ])
                    refine wpAnyH_take (i := 7) (oi := _) (v := ?_) rfl (by kernel_rfl) (by kernel_rfl) (by kernel_rfl) (fun _ _ _ h => h) (Or.inl ⟨by rfl, ?_⟩) (by assumption) ?_
                    rotate_left 1
                    · intro w hSw; clear hSw; first | (go_simp; done) | (go_simp; with_reducible rfl)
                    change wpAnyH _ _ _ _ _ _ _ (Act.put _ (some 93) _) _
                    (try simp only [Act.put, List.setIfInBounds_toArray, List.set_cons_zero, List.set_cons_succ])
                    refine wpAnyH_take (i := 8) (oi := _) (v := undef) rfl (by kernel_rfl) (by kernel_rfl) (by kernel_rfl) (fun _ _ _ h => h) (Or.inr ⟨by rfl, rfl⟩) (by assumption) ?_
                    change wpAnyH _ _ _ _ _ _ _ (Act.put _ (some 94) _) _
                    (try simp only [Act.put, List.setIfInBounds_toArray, List.set_cons_zero, List.set_cons_succ])
                    refine wpAnyH_take (i := 9) (oi := _) (v := undef) rfl (by kernel_rfl) (by kernel_rfl) (by kernel_rfl) (fun _ _ _ h => h) (Or.inr ⟨by rfl, rfl⟩) (by assumption) ?_
                    change wpAnyH _ _ _ _ _ _ _ (Act.put _ (some 95) _) _
                    (try simp only [Act.put, List.setIfInBounds_toArray, List.set_cons_zero, List.set_cons_succ])
                    refine wpAnyH_take (i := 10) (oi := _) (v := undef) rfl (by kernel_rfl) (by kernel_rfl) (by kernel_rfl) (fun _ _ _ h => h) (Or.inr ⟨by rfl, rfl⟩) (by assumption) ?_
                    change wpAnyH _ _ _ _ _ _ _ (Act.put _ (some 96) _) _
                    (try simp only [Act.put, List.setIfInBounds_toArray, List.set_cons_zero, List.set_cons_succ])
                    refine wpAnyH_take (i := 11) (oi := _) (v := undef) rfl (by kernel_rfl) (by kernel_rfl) (by kernel_rfl) (fun _ _ _ h => h) (Or.inr ⟨by rfl, rfl⟩) (by assumption) ?_
                    change wpAnyH _ _ _ _ _ _ _ (Act.put _ (some 97) _) _
                    (try simp only [Act.put, List.setIfInBounds_toArray, List.set_cons_zero, List.set_cons_succ])
                    refine wpAnyH_take (i := 12) (oi := _) (v := undef) rfl (by kernel_rfl) (by kernel_rfl) (by kernel_rfl) (fun _ _ _ h => h) (Or.inr ⟨by rfl, rfl⟩) (by assumption) ?_
                    change wpAnyH _ _ _ _ _ _ _ (Act.put _ (some 98) _) _
                    (try simp only [Act.put, List.setIfInBounds_toArray, List.set_cons_zero, List.set_cons_succ])
                    refine wpAnyH_take (i := 13) (oi := _) (v := undef) rfl (by kernel_rfl) (by kernel_rfl) (by kernel_rfl) (fun _ _ _ h => h) (Or.inr ⟨by rfl, rfl⟩) (by assumption) ?_
                    change wpAnyH _ _ _ _ _ _ _ (Act.put _ (some 99) _) _
                    (try simp only [Act.put, List.setIfInBounds_toArray, List.set_cons_zero, List.set_cons_succ])
                    refine wpAnyH_take (i := 14) (oi := _) (v := undef) rfl (by kernel_rfl) (by kernel_rfl) (by kernel_rfl) (fun _ _ _ h => h) (Or.inr ⟨by rfl, rfl⟩) (by assumption) ?_
                    change wpAnyH _ _ _ _ _ _ _ (Act.put _ (some 100) _) _
                    (try simp only [Act.put, List.setIfInBounds_toArray, List.set_cons_zero, List.set_cons_succ])
                    refine wpAnyH_take (i := 15) (oi := _) (v := undef) rfl (by kernel_rfl) (by kernel_rfl) (by kernel_rfl) (fun _ _ _ h => h) (Or.inr ⟨by rfl, rfl⟩) (by assumption) ?_
                    change wpAnyH _ _ _ _ _ _ _ (Act.put _ (some 101) _) _
                    (try simp only [Act.put, List.setIfInBounds_toArray, List.set_cons_zero, List.set_cons_succ])
                    refine wpAnyH_take (i := 16) (oi := _) (v := undef) rfl (by kernel_rfl) (by kernel_rfl) (by kernel_rfl) (fun _ _ _ h => h) (Or.inr ⟨by rfl, rfl⟩) (by assumption) ?_
                    change wpAnyH _ _ _ _ _ _ _ (Act.put _ (some 102) _) _
                    (try simp only [Act.put, List.setIfInBounds_toArray, List.set_cons_zero, List.set_cons_succ])
                    refine wpAnyH_take (i := 17) (oi := _) (v := undef) rfl (by kernel_rfl) (by kernel_rfl) (by kernel_rfl) (fun _ _ _ h => h) (Or.inr ⟨by rfl, rfl⟩) (by assumption) ?_
                    change wpAnyH _ _ _ _ _ _ _ (Act.put _ (some 103) _) _
                    (try simp only [Act.put, List.setIfInBounds_toArray, List.set_cons_zero, List.set_cons_succ])
                    refine wpAnyH_take (i := 18) (oi := _) (v := ?_) rfl (by kernel_rfl) (by kernel_rfl) (by kernel_rfl) (fun _ _ _ h => h) (Or.inl ⟨by rfl, ?_⟩) (by assumption) ?_
                    rotate_left 1
                    · intro w hSw; clear hSw; first | (go_simp; done) | (go_simp; with_reducible rfl)
                    change wpAnyH _ _ _ _ _ _ _ (Act.put _ (some 104) _) _
                    (try simp only [Act.put, List.setIfInBounds_toArray, List.set_cons_zero, List.set_cons_succ])
                    refine wpAnyH_take (i := 19) (oi := _) (v := ?_) rfl (by kernel_rfl) (by kernel_rfl) (by kernel_rfl) (fun _ _ _ h => h) (Or.inl ⟨by rfl, ?_⟩) (by assumption) ?_
                    rotate_left 1
                    · intro w hSw; clear hSw; first | (go_simp; done) | (go_simp; with_reducible rfl)
                    change wpAnyH _ _ _ _ _ _ _ (Act.put _ (some 105) _) _
                    (try simp only [Act.put, List.setIfInBounds_toArray, List.set_cons_zero, List.set_cons_succ])
                    refine wpAnyH_take (i := 20) (oi := _) (v := ?_) rfl (by kernel_rfl) (by kernel_rfl) (by kernel_rfl) (fun _ _ _ h => h) (Or.inl ⟨by rfl, ?_⟩) (by assumption) ?_
                    rotate_left 1
                    · intro w hSw; clear hSw; first | (go_simp; done) | (go_simp; with_reducible rfl)
                    change wpAnyH _ _ _ _ _ _ _ (Act.put _ (some 106) _) _
                    (try simp only [Act.put, List.setIfInBounds_toArray, List.set_cons_zero, List.set_cons_succ])
                    refine wpAnyH_take (i := 21) (oi := _) (v := ?_) rfl (by kernel_rfl) (by kernel_rfl) (by kernel_rfl) (fun _ _ _ h => h) (Or.inl ⟨by rfl, ?_⟩) (by assumption) ?_
                    rotate_left 1
                    · intro w hSw; obtain ⟨⟨s0, s1, s2, s3⟩, ⟨s5, s6, s7⟩, s8⟩ := hSw; first | (go_simp; done) | (go_simp; with_reducible rfl)
                    change wpAnyH _ _ _ _ _ _ _ (Act.put _ (some 107) _) _
                    (try simp only [Act.put, List.setIfInBounds_toArray, List.set_cons_zero, List.set_cons_succ])
                    refine wpAnyH_take (i := 22) (oi := _) (v := ?_) rfl (by kernel_rfl) (by kernel_rfl) (by kernel_rfl) (fun _ _ _ h => h) (Or.inl ⟨by rfl, ?_⟩) (by assumption) ?_
                    rotate_left 1
                    · intro w hSw; clear hSw; first | (go_simp; done) | (go_simp; with_reducible rfl)
                    change wpAnyH _ _ _ _ _ _ _ (Act.put _ (some 108) _) _
                    (try simp only [Act.put, List.setIfInBounds_toArray, List.set_cons_zero, List.set_cons_succ])
                    refine wpAnyH_take (i := 23) (oi := _) (v := ?_) rfl (by kernel_rfl) (by kernel_rfl) (by kernel_rfl) (fun _ _ _ h => h) (Or.inl ⟨by rfl, ?_⟩) (by assumption) ?_
                    rotate_left 1
                    · intro w hSw; obtain ⟨⟨s0, s1, s2, s3⟩, ⟨s5, s6, s7⟩, s8⟩ := hSw; first | (go_simp; done) | (go_simp; with_reducible rfl)
                    change wpAnyH _ _ _ _ _ _ _ (Act.put _ (some 109) _) _
                    (try simp only [Act.put, List.setIfInBounds_toArray, List.set_cons_zero, List.set_cons_succ])
                    refine wpAnyH_ready (rs := [24]) (by kernel_rfl) (by simp) ?_
                    refine AllReadyH.cons (o := _) rfl (fun K hK => ?_) AllReadyH.nil
                    go_simp
                    (go_at_call 37; with_reducible (refine Calls.mono (HTEN.out _ (chain HWR.out hbx)) ?_); rintro e w7 ⟨rfl, hb7⟩; have hbx := chain hbx hb7)
                    refine hK.out _ _ (⟨HX.out _ hbx, HFH.out _ (chain HWR.out hbx), HPC.out _ (chain HWR.out hbx)⟩) (fun hHeld24 => ?_)
                    (try simp only [Act.put, List.setIfInBounds_toArray, List.set_cons_zero, List.set_cons_succ])
                    clear hK K
                    by_cases hso : (tenAt t.ts p1).isSome = true
                    · have e1 : decide (c < 0) = false := decide_eq_false fun q => by have := hs3.1 q; rw [hso] at this; cases this
                      have HSO := Lib.hid hso
                      clear hso hs3
                      refine wpAnyH_take (i := 25) (oi := _) (v := ?_) rfl (by kernel_rfl) (by kernel_rfl) (by kernel_rfl) (fun _ _ _ h => h) (Or.inl ⟨by rfl, ?_⟩) (by assumption) ?_
                      rotate_left 1
                      · intro w hSw; clear hSw; first | (go_simp; done) | (go_simp; with_reducible rfl)
                      change wpAnyH _ _ _ _ _ _ _ (Act.put _ (some 111) _) _
                      (try simp only [Act.put, List.setIfInBounds_toArray, List.set_cons_zero, List.set_cons_succ])
                      refine wpAnyH_take (i := 26) (oi := _) (v := ?_) rfl (by kernel_rfl) (by kernel_rfl) (by kernel_rfl) (fun _ _ _ h => h) (Or.inl ⟨by rfl, ?_⟩) (by assumption) ?_
                      rotate_left 1
                      · intro w hSw; clear hSw; first | (go_simp; done) | (go_simp; with_reducible rfl)
                      change wpAnyH _ _ _ _ _ _ _ (Act.put _ (some 112) _) _
                      (try simp only [Act.put, List.setIfInBounds_toArray, List.set_cons_zero, List.set_cons_succ])
                      refine wpAnyH_take (i := 27) (oi := _) (v := ?_) rfl (by kernel_rfl) (by kernel_rfl) (by kernel_rfl) (fun _ _ _ h => h) (Or.inl ⟨by rfl, ?_⟩) (by assumption) ?_
                      rotate_left 1
                      · intro w hSw; clear hSw; first | (go_simp; done) | (go_simp; with_reducible rfl)
                      change wpAnyH _ _ _ _ _ _ _ (Act.put _ (some 113) _) _
                      (try simp only [Act.put, List.setIfInBounds_toArray, List.set_cons_zero, List.set_cons_succ])
                      refine wpAnyH_take (i := 28) (oi := _) (v := ?_) rfl (by kernel_rfl) (by kernel_rfl) (by kernel_rfl) (fun _ _ _ h => h) (Or.inl ⟨by rfl, ?_⟩) (by assumption) ?_
                      rotate_left 1
                      · intro w hSw; clear hSw; first | (go_simp; done) | (go_simp; with_reducible rfl)
                      change wpAnyH _ _ _ _ _ _ _ (Act.put _ (some 114) _) _
                      (try simp only [Act.put, List.setIfInBounds_toArray, List.set_cons_zero, List.set_cons_succ])
                      refine wpAnyH_take (i := 29) (oi := _) (v := ?_) rfl (by kernel_rfl) (by kernel_rfl) (by kernel_rfl) (fun _ _ _ h => h) (Or.inl ⟨by rfl, ?_⟩) (by assumption) ?_
                      rotate_left 1
                      · intro w hSw; obtain ⟨⟨s0, s1, s2, s3⟩, ⟨s5, s6, s7⟩, s8⟩ := hSw; first | (go_simp; done) | (go_simp; with_reducible rfl)
                      change wpAnyH _ _ _ _ _ _ _ (Act.put _ (some 115) _) _
                      (try simp only [Act.put, List.setIfInBounds_toArray, List.set_cons_zero, List.set_cons_succ])
                      refine wpAnyH_ready (rs := [30]) (by kernel_rfl) (by simp) ?_
                      refine AllReadyH.cons (o := _) rfl (fun K hK => ?_) AllReadyH.nil
                      go_simp
                      (go_at_call 34; with_reducible (refine Calls.mono (HBK.out _) ?_); rintro e w7 ⟨rfl, rfl⟩)
                      refine hK.out _ _ (⟨HX.out _ hbx, HFH.out _ (chain HWR.out hbx), HPC.out _ (chain HWR.out hbx)⟩) (fun hHeld30 => ?_)
                      (try simp only [Act.put, List.setIfInBounds_toArray, List.set_cons_zero, List.set_cons_succ])
                      clear hK K
                      cases bk
                      · (try simp only [Bool.not_true, Bool.not_false])
                        have HF : Hid (S = false) := HNO.out fun hg => by have := HBB.out.2 (HGD.out.1 hg).2.2.2.1; cases this
                        refine wpAnyH_take (i := 31) (oi := _) (v := ?_) rfl (by kernel_rfl) (by kernel_rfl) (by kernel_rfl) (fun _ _ _ h => h) (Or.inl ⟨by rfl, ?_⟩) (by assumption) ?_
                        rotate_left 1
                        · intro w hSw; clear hSw; first | (go_simp; done) | (go_simp; with_reducible rfl)
                        change wpAnyH _ _ _ _ _ _ _ (Act.put _ (some 117) _) _
                        (try simp only [Act.put, List.setIfInBounds_toArray, List.set_cons_zero, List.set_cons_succ])
                        refine wpAnyH_take (i := 32) (oi := _) (v := ?_) rfl (by kernel_rfl) (by kernel_rfl) (by kernel_rfl) (fun _ _ _ h => h) (Or.inl ⟨by rfl, ?_⟩) (by assumption) ?_
                        rotate_left 1
                        · intro w hSw; clear hSw; first | (go_simp; done) | (go_simp; with_reducible rfl)
                        change wpAnyH _ _ _ _ _ _ _ (Act.put _ (some 118) _) _
                        (try simp only [Act.put, List.setIfInBounds_toArray, List.set_cons_zero, List.set_cons_succ])
                        refine wpAnyH_take (i := 33) (oi := _) (v := ?_) rfl (by kernel_rfl) (by kernel_rfl) (by kernel_rfl) (fun _ _ _ h => h) (Or.inl ⟨by rfl, ?_⟩) (by assumption) ?_
                        rotate_left 1
                        · intro w hSw; clear hSw; first | (go_simp; done) | (go_simp; with_reducible rfl)
                        change wpAnyH _ _ _ _ _ _ _ (Act.put _ (some 119) _) _
                        (try simp only [Act.put, List.setIfInBounds_toArray, List.set_cons_zero, List.set_cons_succ])
                        refine wpAnyH_take (i := 34) (oi := _) (v := undef) rfl (by kernel_rfl) (by kernel_rfl) (by kernel_rfl) (fun _ _ _ h => h) (Or.inr ⟨by rfl, rfl⟩) (by assumption) ?_
                        change wpAnyH _ _ _ _ _ _ _ (Act.put _ (some 120) _) _
                        (try simp only [Act.put, List.setIfInBounds_toArray, List.set_cons_zero, List.set_cons_succ])
                        refine wpAnyH_take (i := 35) (oi := _) (v := undef) rfl (by kernel_rfl) (by kernel_rfl) (by kernel_rfl) (fun _ _ _ h => h) (Or.inr ⟨by rfl, rfl⟩) (by assumption) ?_
                        change wpAnyH _ _ _ _ _ _ _ (Act.put _ (some 121) _) _
                        (try simp only [Act.put, List.setIfInBounds_toArray, List.set_cons_zero, List.set_cons_succ])
                        refine wpAnyH_take (i := 36) (oi := _) (v := undef) rfl (by kernel_rfl) (by kernel_rfl) (by kernel_rfl) (fun _ _ _ h => h) (Or.inr ⟨by rfl, rfl⟩) (by assumption) ?_
                        change wpAnyH _ _ _ _ _ _ _ (Act.put _ (some 122) _) _
                        (try simp only [Act.put, List.setIfInBounds_toArray, List.set_cons_zero, List.set_cons_succ])
                        refine wpAnyH_take (i := 37) (oi := _) (v := undef) rfl (by kernel_rfl) (by kernel_rfl) (by kernel_rfl) (fun _ _ _ h => h) (Or.inr ⟨by rfl, rfl⟩) (by assumption) ?_
                        change wpAnyH _ _ _ _ _ _ _ (Act.put _ (some 123) _) _
                        (try simp only [Act.put, List.setIfInBounds_toArray, List.set_cons_zero, List.set_cons_succ])
                        refine wpAnyH_take (i := 38) (oi := _) (v := ?_) rfl (by kernel_rfl) (by kernel_rfl) (by kernel_rfl) (fun _ _ _ h => h) (Or.inl ⟨by rfl, ?_⟩) (by assumption) ?_
                        rotate_left 1
                        · intro w hSw; clear hSw; first | (go_simp; done) | (go_simp; with_reducible rfl)
                        change wpAnyH _ _ _ _ _ _ _ (Act.put _ (some 124) _) _
                        (try simp only [Act.put, List.setIfInBounds_toArray, List.set_cons_zero, List.set_cons_succ])
                        refine wpAnyH_done (by kernel_rfl) ?_ _
                        have R := Lib.hid (chain HB0.out (chain HWR.out hbx))
                        go_wp2
                        go_ret
                        exact ⟨by rw [HF.out]; rfl, R.out⟩
                      · (try simp only [Bool.not_true, Bool.not_false])
                        have HBB2 : Hid (inR p2 0 32) := HBB.out.1 rfl
                        refine wpAnyH_take (i := 31) (oi := _) (v := ?_) rfl (by kernel_rfl) (by kernel_rfl) (by kernel_rfl) (fun _ _ _ h => h) (Or.inl ⟨by rfl, ?_⟩) (by assumption) ?_
                        rotate_left 1
                        · intro w hSw; clear hSw; first | (go_simp; done) | (go_simp; with_reducible rfl)
                        change wpAnyH _ _ _ _ _ _ _ (Act.put _ (some 117) _) _
                        (try simp only [Act.put, List.setIfInBounds_toArray, List.set_cons_zero, List.set_cons_succ])
                        refine wpAnyH_take (i := 32) (oi := _) (v := ?_) rfl (by kernel_rfl) (by kernel_rfl) (by kernel_rfl) (fun _ _ _ h => h) (Or.inl ⟨by rfl, ?_⟩) (by assumption) ?_
                        rotate_left 1
                        · intro w hSw; clear hSw; first | (go_simp; done) | (go_simp; with_reducible rfl)
                        change wpAnyH _ _ _ _ _ _ _ (Act.put _ (some 118) _) _
                        (try simp only [Act.put, List.setIfInBounds_toArray, List.set_cons_zero, List.set_cons_succ])
                        refine wpAnyH_take (i := 33) (oi := _) (v := ?_) rfl (by kernel_rfl) (by kernel_rfl) (by kernel_rfl) (fun _ _ _ h => h) (Or.inl ⟨by rfl, ?_⟩) (by assumption) ?_
                        rotate_left 1
                        · intro w hSw; clear hSw; first | (go_simp; done) | (go_simp; with_reducible rfl)
                        change wpAnyH _ _ _ _ _ _ _ (Act.put _ (some 119) _) _
                        (try simp only [Act.put, List.setIfInBounds_toArray, List.set_cons_zero, List.set_cons_succ])
                        refine wpAnyH_take (i := 34) (oi := _) (v := ?_) rfl (by kernel_rfl) (by kernel_rfl) (by kernel_rfl) (fun _ _ _ h => h) (Or.inl ⟨by rfl, ?_⟩) (by assumption) ?_
                        rotate_left 1
                        · intro w hSw; clear hSw; first | (go_simp; done) | (go_simp; with_reducible rfl)
                        change wpAnyH _ _ _ _ _ _ _ (Act.put _ (some 120) _) _
                        (try simp only [Act.put, List.setIfInBounds_toArray, List.set_cons_zero, List.set_cons_succ])
                        refine wpAnyH_take (i := 35) (oi := _) (v := ?_) rfl (by kernel_rfl) (by kernel_rfl) (by kernel_rfl) (fun _ _ _ h => h) (Or.inl ⟨by rfl, ?_⟩) (by assumption) ?_
                        rotate_left 1
                        · intro w hSw; obtain ⟨⟨s0, s1, s2, s3⟩, ⟨s5, s6, s7⟩, s8⟩ := hSw; first | (go_simp; done) | (go_simp; with_reducible rfl)
                        change wpAnyH _ _ _ _ _ _ _ (Act.put _ (some 121) _) _
                        (try simp only [Act.put, List.setIfInBounds_toArray, List.set_cons_zero, List.set_cons_succ])
                        refine wpAnyH_ready (rs := [36]) (by kernel_rfl) (by simp) ?_
                        refine AllReadyH.cons (o := _) rfl (fun K hK => ?_) AllReadyH.nil
                        go_simp
                        (go_at_call 34; with_reducible (refine Calls.mono (HBS.out _) ?_); rintro e w7 ⟨rfl, rfl⟩)
                        refine hK.out _ _ (⟨HX.out _ hbx, HFH.out _ (chain HWR.out hbx), HPC.out _ (chain HWR.out hbx)⟩) (fun hHeld36 => ?_)
                        (try simp only [Act.put, List.setIfInBounds_toArray, List.set_cons_zero, List.set_cons_succ])
                        clear hK K
                        cases bs
                        · (try simp only [Bool.not_true, Bool.not_false])
                          have HF : Hid (S = false) := HNO.out fun hg => by have := HBC.out.2 (HGD.out.1 hg).2.2.2.2; cases this
                          refine wpAnyH_take (i := 37) (oi := _) (v := ?_) rfl (by kernel_rfl) (by kernel_rfl) (by kernel_rfl) (fun _ _ _ h => h) (Or.inl ⟨by rfl, ?_⟩) (by assumption) ?_
                          rotate_left 1
                          · intro w hSw; clear hSw; first | (go_simp; done) | (go_simp; with_reducible rfl)
                          change wpAnyH _ _ _ _ _ _ _ (Act.put _ (some 123) _) _
                          (try simp only [Act.put, List.setIfInBounds_toArray, List.set_cons_zero, List.set_cons_succ])
                          refine wpAnyH_take (i := 38) (oi := _) (v := ?_) rfl (by kernel_rfl) (by kernel_rfl) (by kernel_rfl) (fun _ _ _ h => h) (Or.inl ⟨by rfl, ?_⟩) (by assumption) ?_
                          rotate_left 1
                          · intro w hSw; clear hSw; first | (go_simp; done) | (go_simp; with_reducible rfl)
                          change wpAnyH _ _ _ _ _ _ _ (Act.put _ (some 124) _) _
                          (try simp only [Act.put, List.setIfInBounds_toArray, List.set_cons_zero, List.set_cons_succ])
                          refine wpAnyH_done (by kernel_rfl) ?_ _
                          have R := Lib.hid (chain HB0.out (chain HWR.out hbx))
                          go_wp2
                          go_ret
                          exact ⟨by rw [HF.out]; rfl, R.out⟩
                        · (try simp only [Bool.not_true, Bool.not_false])
                          have HJ := Lib.hid (HNX.out (HGD.out.2 ⟨HAA.out, HLO.out, HSO.out, HBB2.out, HBC.out.1 rfl⟩))
                          refine wpAnyH_take (i := 37) (oi := _) (v := ?_) rfl (by kernel_rfl) (by kernel_rfl) (by kernel_rfl) (fun _ _ _ h => h) (Or.inl ⟨by rfl, ?_⟩) (by assumption) ?_
                          rotate_left 1
                          · intro w hSw; clear hSw; first | (go_simp; done) | (go_simp; with_reducible rfl)
                          change wpAnyH _ _ _ _ _ _ _ (Act.put _ (some 123) _) _
                          (try simp only [Act.put, List.setIfInBounds_toArray, List.set_cons_zero, List.set_cons_succ])
                          refine wpAnyH_take (i := 38) (oi := _) (v := ?_) rfl (by kernel_rfl) (by kernel_rfl) (by kernel_rfl) (fun _ _ _ h => h) (Or.inl ⟨by rfl, ?_⟩) (by assumption) ?_
                          rotate_left 1
                          · intro w hSw; clear hSw; first | (go_simp; done) | (go_simp; with_reducible rfl)
                          change wpAnyH _ _ _ _ _ _ _ (Act.put _ (some 124) _) _
                          (try simp only [Act.put, List.setIfInBounds_toArray, List.set_cons_zero, List.set_cons_succ])
                          refine wpAnyH_done (by kernel_rfl) ?_ _
                          have R := Lib.hid (chain HWR.out hbx)
                          go_wp2
                          clear hbx
                          go_roundw
                          case rel => first | exact ⟨k + 1, by omega, by go_num, HJ, R⟩ | ((repeat apply Exists.intro); exact ⟨⟨k + 1, by omega, by go_num, HJ, R⟩, rfl⟩)
                          case measure => first | (simp [intOf]; done) | (simp [intOf]; omega)
                    · have HF : Hid (S = false) := HNO.out fun hg => by exact hso (HGD.out.1 hg).2.2.1
                      have hso2 : (tenAt t.ts p1).isSome = false := by cases hh : (tenAt t.ts p1).isSome with | false => rfl | true => exact absurd hh hso
                      have e1 : decide (c < 0) = true := decide_eq_true (hs3.2 hso2)
                      clear hso hso2 hs3
                      refine wpAnyH_take (i := 25) (oi := _) (v := ?_) rfl (by kernel_rfl) (by kernel_rfl) (by kernel_rfl) (fun _ _ _ h => h) (Or.inl ⟨by rfl, ?_⟩) (by assumption) ?_
                      rotate_left 1
                      · intro w hSw; clear hSw; first | (go_simp; done) | (go_simp; with_reducible rfl)
                      change wpAnyH _ _ _ _ _ _ _ (Act.put _ (some 111) _) _
                      (try simp only [Act.put, List.setIfInBounds_toArray, List.set_cons_zero, List.set_cons_succ])
                      refine wpAnyH_take (i := 26) (oi := _) (v := ?_) rfl (by kernel_rfl) (by kernel_rfl) (by kernel_rfl) (fun _ _ _ h => h) (Or.inl ⟨by rfl, ?_⟩) (by assumption) ?_
                      rotate_left 1
                      · intro w hSw; clear hSw; first | (go_simp; done) | (go_simp; with_reducible rfl)
                      change wpAnyH _ _ _ _ _ _ _ (Act.put _ (some 112) _) _
                      (try simp only [Act.put, List.setIfInBounds_toArray, List.set_cons_zero, List.set_cons_succ])
                      refine wpAnyH_take (i := 27) (oi := _) (v := ?_) rfl (by kernel_rfl) (by kernel_rfl) (by kernel_rfl) (fun _ _ _ h => h) (Or.inl ⟨by rfl, ?_⟩) (by assumption) ?_
                      rotate_left 1
                      · intro w hSw; clear hSw; first | (go_simp; done) | (go_simp; with_reducible rfl)
                      change wpAnyH _ _ _ _ _ _ _ (Act.put _ (some 113) _) _
                      (try simp only [Act.put, List.setIfInBounds_toArray, List.set_cons_zero, List.set_cons_succ])
                      refine wpAnyH_take (i := 28) (oi := _) (v := undef) rfl (by kernel_rfl) (by kernel_rfl) (by kernel_rfl) (fun _ _ _ h => h) (Or.inr ⟨by rfl, rfl⟩) (by assumption) ?_
                      change wpAnyH _ _ _ _ _ _ _ (Act.put _ (some 114) _) _
                      (try simp only [Act.put, List.setIfInBounds_toArray, List.set_cons_zero, List.set_cons_succ])
                      refine wpAnyH_take (i := 29) (oi := _) (v := undef) rfl (by kernel_rfl) (by kernel_rfl) (by kernel_rfl) (fun _ _ _ h => h) (Or.inr ⟨by rfl, rfl⟩) (by assumption) ?_
                      change wpAnyH _ _ _ _ _ _ _ (Act.put _ (some 115) _) _
                      (try simp only [Act.put, List.setIfInBounds_toArray, List.set_cons_zero, List.set_cons_succ])
                      refine wpAnyH_take (i := 30) (oi := _) (v := undef) rfl (by kernel_rfl) (by kernel_rfl) (by kernel_rfl) (fun _ _ _ h => h) (Or.inr ⟨by rfl, rfl⟩) (by assumption) ?_
                      change wpAnyH _ _ _ _ _ _ _ (Act.put _ (some 116) _) _
                      (try simp only [Act.put, List.setIfInBounds_toArray, List.set_cons_zero, List.set_cons_succ])
                      refine wpAnyH_take (i := 31) (oi := _) (v := undef) rfl (by kernel_rfl) (by kernel_rfl) (by kernel_rfl) (fun _ _ _ h => h) (Or.inr ⟨by rfl, rfl⟩) (by assumption) ?_
                      change wpAnyH _ _ _ _ _ _ _ (Act.put _ (some 117) _) _
                      (try simp only [Act.put, List.setIfInBounds_toArray, List.set_cons_zero, List.set_cons_succ])
                      refine wpAnyH_take (i := 32) (oi := _) (v := ?_) rfl (by kernel_rfl) (by kernel_rfl) (by kernel_rfl) (fun _ _ _ h => h) (Or.inl ⟨by rfl, ?_⟩) (by assumption) ?_
                      rotate_left 1
                      · intro w hSw; clear hSw; first | (go_simp; done) | (go_simp; with_reducible rfl)
                      change wpAnyH _ _ _ _ _ _ _ (Act.put _ (some 118) _) _
                      (try simp only [Act.put, List.setIfInBounds_toArray, List.set_cons_zero, List.set_cons_succ])
                      refine wpAnyH_take (i := 33) (oi := _) (v := ?_) rfl (by kernel_rfl) (by kernel_rfl) (by kernel_rfl) (fun _ _ _ h => h) (Or.inl ⟨by rfl, ?_⟩) (by assumption) ?_
                      rotate_left 1
                      · intro w hSw; clear hSw; first | (go_simp; done) | (go_simp; with_reducible rfl)
                      change wpAnyH _ _ _ _ _ _ _ (Act.put _ (some 119) _) _
                      (try simp only [Act.put, List.setIfInBounds_toArray, List.set_cons_zero, List.set_cons_succ])
                      refine wpAnyH_take (i := 34) (oi := _) (v := undef) rfl (by kernel_rfl) (by kernel_rfl) (by kernel_rfl) (fun _ _ _ h => h) (Or.inr ⟨by rfl, rfl⟩) (by assumption) ?_
                      change wpAnyH _ _ _ _ _ _ _ (Act.put _ (some 120) _) _
                      (try simp only [Act.put, List.setIfInBounds_toArray, List.set_cons_zero, List.set_cons_succ])
                      refine wpAnyH_take (i := 35) (oi := _) (v := undef) rfl (by kernel_rfl) (by kernel_rfl) (by kernel_rfl) (fun _ _ _ h => h) (Or.inr ⟨by rfl, rfl⟩) (by assumption) ?_
                      change wpAnyH _ _ _ _ _ _ _ (Act.put _ (some 121) _) _
                      (try simp only [Act.put, List.setIfInBounds_toArray, List.set_cons_zero, List.set_cons_succ])
                      refine wpAnyH_take (i := 36) (oi := _) (v := undef) rfl (by kernel_rfl) (by kernel_rfl) (by kernel_rfl) (fun _ _ _ h => h) (Or.inr ⟨by rfl, rfl⟩) (by assumption) ?_
                      change wpAnyH _ _ _ _ _ _ _ (Act.put _ (some 122) _) _
                      (try simp only [Act.put, List.setIfInBounds_toArray, List.set_cons_zero, List.set_cons_succ])
                      refine wpAnyH_take (i := 37) (oi := _) (v := undef) rfl (by kernel_rfl) (by kernel_rfl) (by kernel_rfl) (fun _ _ _ h => h) (Or.inr ⟨by rfl, rfl⟩) (by assumption) ?_
                      change wpAnyH _ _ _ _ _ _ _ (Act.put _ (some 123) _) _
                      (try simp only [Act.put, List.setIfInBounds_toArray, List.set_cons_zero, List.set_cons_succ])
                      refine wpAnyH_take (i := 38) (oi := _) (v := ?_) rfl (by kernel_rfl) (by kernel_rfl) (by kernel_rfl) (fun _ _ _ h => h) (Or.inl ⟨by rfl, ?_⟩) (by assumption) ?_
                      rotate_left 1
                      · intro w hSw; clear hSw; first | (go_simp; done) | (go_simp; with_reducible rfl)
                      change wpAnyH _ _ _ _ _ _ _ (Act.put _ (some 124) _) _
                      (try simp only [Act.put, List.setIfInBounds_toArray, List.set_cons_zero, List.set_cons_succ])
                      refine wpAnyH_done (by kernel_rfl) ?_ _
                      have R := Lib.hid (chain HB0.out (chain HWR.out hbx))
                      go_wp2
                      go_ret
                      exact ⟨by rw [HF.out]; rfl, R.out⟩
                  · have hkp : 0 < k := by omega
                    have hj := HJK.out hkp
                    have j0 : (0 : Int) ≤ (j : Int) := by omega
                    have j1 : (j : Int) < (N2 : Int) := by omega
                    have v1 : IntKind.i64.wrap ((k : Int) - 1) = (j : Int) := by rw [show (k : Int) - 1 = (j : Int) by omega]; exact IntWalk.i64_in _ (by omega)
                    have kp : decide ((0 : Int) < (k : Int)) = true := decide_eq_true (by omega)
                    clear hj hk0
                    refine wpAnyH_take (i := 5) (oi := _) (v := ?_) rfl (by kernel_rfl) (by kernel_rfl) (by kernel_rfl) (fun _ _ _ h => h) (Or.inl ⟨by rfl, ?_⟩) (by assumption) ?_
                    rotate_left 1
                    · intro w hSw; clear hSw; first | (go_simp; done) | (go_simp; with_reducible rfl)
                    change wpAnyH _ _ _ _ _ _ _ (Act.put _ (some 91) _) _
                    (try simp only [Act.put, List.setIfInBounds_toArray, List.set_cons_zero, List.set_cons_succ])
                    refine wpAnyH_take (i := 6) (oi := _) (v := ?_) rfl (by kernel_rfl) (by kernel_rfl) (by kernel_rfl) (fun _ _ _ h => h) (Or.inl ⟨by rfl, ?_⟩) (by assumption) ?_
                    rotate_left 1
                    · intro w hSw; clear hSw; first | (go_simp; done) | (go_simp; with_reducible rfl)
                    change wpAnyH _ _ _ _ _ _ _ (Act.put _ (some 92) _) _
                    (try simp only [Act.put, List.setIfInBounds_toArray, List.set_cons_zero, List.set_cons_succ])
                    refine wpAnyH_take (i := 7) (oi := _) (v := ?_) rfl (by kernel_rfl) (by kernel_rfl) (by kernel_rfl) (fun _ _ _ h => h) (Or.inl ⟨by rfl, ?_⟩) (by assumption) ?_
                    rotate_left 1
                    · intro w hSw; clear hSw; first | (go_simp; done) | (go_simp; with_reducible rfl)
                    change wpAnyH _ _ _ _ _ _ _ (Act.put _ (some 93) _) _
                    (try simp only [Act.put, List.setIfInBounds_toArray, List.set_cons_zero, List.set_cons_succ])
                    refine wpAnyH_take (i := 8) (oi := _) (v := ?_) rfl (by kernel_rfl) (by kernel_rfl) (by kernel_rfl) (fun _ _ _ h => h) (Or.inl ⟨by rfl, ?_⟩) (by assumption) ?_
                    rotate_left 1
                    · intro w hSw; clear hSw; first | (go_simp; done) | (go_simp; with_reducible rfl)
                    change wpAnyH _ _ _ _ _ _ _ (Act.put _ (some 94) _) _
                    (try simp only [Act.put, List.setIfInBounds_toArray, List.set_cons_zero, List.set_cons_succ])
                    refine wpAnyH_take (i := 9) (oi := _) (v := ?_) rfl (by kernel_rfl) (by kernel_rfl) (by kernel_rfl) (fun _ _ _ h => h) (Or.inl ⟨by rfl, ?_⟩) (by assumption) ?_
                    rotate_left 1
                    · intro w hSw; obtain ⟨⟨s0, s1, s2, s3⟩, ⟨s5, s6, s7⟩, s8⟩ := hSw; first | (go_simp; done) | (go_simp; with_reducible rfl)
                    change wpAnyH _ _ _ _ _ _ _ (Act.put _ (some 95) _) _
                    (try simp only [Act.put, List.setIfInBounds_toArray, List.set_cons_zero, List.set_cons_succ])
                    refine wpAnyH_take (i := 10) (oi := _) (v := ?_) rfl (by kernel_rfl) (by kernel_rfl) (by kernel_rfl) (fun _ _ _ h => h) (Or.inl ⟨by rfl, ?_⟩) (by assumption) ?_
                    rotate_left 1
                    · intro w hSw; clear hSw; first | (go_simp; done) | (go_simp; with_reducible rfl)
                    change wpAnyH _ _ _ _ _ _ _ (Act.put _ (some 96) _) _
                    (try simp only [Act.put, List.setIfInBounds_toArray, List.set_cons_zero, List.set_cons_succ])
                    refine wpAnyH_take (i := 11) (oi := _) (v := ?_) rfl (by kernel_rfl) (by kernel_rfl) (by kernel_rfl) (fun _ _ _ h => h) (Or.inl ⟨by rfl, ?_⟩) (by assumption) ?_
                    rotate_left 1
                    · intro w hSw; obtain ⟨⟨s0, s1, s2, s3⟩, ⟨s5, s6, s7⟩, s8⟩ := hSw; first | (go_simp; done) | (go_simp; with_reducible rfl)
                    change wpAnyH _ _ _ _ _ _ _ (Act.put _ (some 97) _) _
                    (try simp only [Act.put, List.setIfInBounds_toArray, List.set_cons_zero, List.set_cons_succ])
                    refine wpAnyH_take (i := 12) (oi := _) (v := ?_) rfl (by kernel_rfl) (by kernel_rfl) (by kernel_rfl) (fun _ _ _ h => h) (Or.inl ⟨by rfl, ?_⟩) (by assumption) ?_
                    rotate_left 1
                    · intro w hSw; clear hSw; first | (go_simp; done) | (go_simp; with_reducible rfl)
                    change wpAnyH _ _ _ _ _ _ _ (Act.put _ (some 98) _) _
                    (try simp only [Act.put, List.setIfInBounds_toArray, List.set_cons_zero, List.set_cons_succ])
                    refine wpAnyH_take (i := 13) (oi := _) (v := ?_) rfl (by kernel_rfl) (by kernel_rfl) (by kernel_rfl) (fun _ _ _ h => h) (Or.inl ⟨by rfl, ?_⟩) (by assumption) ?_
                    rotate_left 1
                    · intro w hSw; clear hSw; first | (go_simp; done) | (go_simp; with_reducible rfl)
                    change wpAnyH _ _ _ _ _ _ _ (Act.put _ (some 99) _) _
                    (try simp only [Act.put, List.setIfInBounds_toArray, List.set_cons_zero, List.set_cons_succ])
                    refine wpAnyH_take (i := 14) (oi := _) (v := ?_) rfl (by kernel_rfl) (by kernel_rfl) (by kernel_rfl) (fun _ _ _ h => h) (Or.inl ⟨by rfl, ?_⟩) (by assumption) ?_
                    rotate_left 1
                    · intro w hSw; clear hSw; first | (go_simp; done) | (go_simp; with_reducible rfl)
                    change wpAnyH _ _ _ _ _ _ _ (Act.put _ (some 100) _) _
                    (try simp only [Act.put, List.setIfInBounds_toArray, List.set_cons_zero, List.set_cons_succ])
                    refine wpAnyH_take (i := 15) (oi := _) (v := ?_) rfl (by kernel_rfl) (by kernel_rfl) (by kernel_rfl) (fun _ _ _ h => h) (Or.inl ⟨by rfl, ?_⟩) (by assumption) ?_
                    rotate_left 1
                    · intro w hSw; clear hSw; first | (go_simp; done) | (go_simp; with_reducible rfl)
                    change wpAnyH _ _ _ _ _ _ _ (Act.put _ (some 101) _) _
                    (try simp only [Act.put, List.setIfInBounds_toArray, List.set_cons_zero, List.set_cons_succ])
                    refine wpAnyH_take (i := 16) (oi := _) (v := ?_) rfl (by kernel_rfl) (by kernel_rfl) (by kernel_rfl) (fun _ _ _ h => h) (Or.inl ⟨by rfl, ?_⟩) (by assumption) ?_
                    rotate_left 1
                    · intro w hSw; obtain ⟨⟨s0, s1, s2, s3⟩, ⟨s5, s6, s7⟩, s8⟩ := hSw; have s9 := s8 hkp; clear s8; first | (go_simp; done) | (go_simp; with_reducible rfl)
                    change wpAnyH _ _ _ _ _ _ _ (Act.put _ (some 102) _) _
                    (try simp only [Act.put, List.setIfInBounds_toArray, List.set_cons_zero, List.set_cons_succ])
                    by_cases hid : p0 ≤ pz
                    · have HF : Hid (S = false) := HNO.out fun hg => by have := HLOI.out.1 (HGD.out.1 hg).2.1 hkp; omega
                      have d1 : decide (p0 ≤ pz) = true := decide_eq_true hid
                      clear hid
                      refine wpAnyH_take (i := 17) (oi := _) (v := ?_) rfl (by kernel_rfl) (by kernel_rfl) (by kernel_rfl) (fun _ _ _ h => h) (Or.inl ⟨by rfl, ?_⟩) (by assumption) ?_
                      rotate_left 1
                      · intro w hSw; clear hSw; first | (go_simp; done) | (go_simp; with_reducible rfl)
                      change wpAnyH _ _ _ _ _ _ _ (Act.put _ (some 103) _) _
                      (try simp only [Act.put, List.setIfInBounds_toArray, List.set_cons_zero, List.set_cons_succ])
                      refine wpAnyH_take (i := 18) (oi := _) (v := ?_) rfl (by kernel_rfl) (by kernel_rfl) (by kernel_rfl) (fun _ _ _ h => h) (Or.inl ⟨by rfl, ?_⟩) (by assumption) ?_
                      rotate_left 1
                      · intro w hSw; clear hSw; first | (go_simp; done) | (go_simp; with_reducible rfl)
                      change wpAnyH _ _ _ _ _ _ _ (Act.put _ (some 104) _) _
                      (try simp only [Act.put, List.setIfInBounds_toArray, List.set_cons_zero, List.set_cons_succ])
                      refine wpAnyH_take (i := 19) (oi := _) (v := ?_) rfl (by kernel_rfl) (by kernel_rfl) (by kernel_rfl) (fun _ _ _ h => h) (Or.inl ⟨by rfl, ?_⟩) (by assumption) ?_
                      rotate_left 1
                      · intro w hSw; clear hSw; first | (go_simp; done) | (go_simp; with_reducible rfl)
                      change wpAnyH _ _ _ _ _ _ _ (Act.put _ (some 105) _) _
                      (try simp only [Act.put, List.setIfInBounds_toArray, List.set_cons_zero, List.set_cons_succ])
                      refine wpAnyH_take (i := 20) (oi := _) (v := ?_) rfl (by kernel_rfl) (by kernel_rfl) (by kernel_rfl) (fun _ _ _ h => h) (Or.inl ⟨by rfl, ?_⟩) (by assumption) ?_
                      rotate_left 1
                      · intro w hSw; clear hSw; first | (go_simp; done) | (go_simp; with_reducible rfl)
                      change wpAnyH _ _ _ _ _ _ _ (Act.put _ (some 106) _) _
                      (try simp only [Act.put, List.setIfInBounds_toArray, List.set_cons_zero, List.set_cons_succ])
                      refine wpAnyH_take (i := 21) (oi := _) (v := undef) rfl (by kernel_rfl) (by kernel_rfl) (by kernel_rfl) (fun _ _ _ h => h) (Or.inr ⟨by rfl, rfl⟩) (by assumption) ?_
                      change wpAnyH _ _ _ _ _ _ _ (Act.put _ (some 107) _) _
                      (try simp only [Act.put, List.setIfInBounds_toArray, List.set_cons_zero, List.set_cons_succ])
                      refine wpAnyH_take (i := 22) (oi := _) (v := undef) rfl (by kernel_rfl) (by kernel_rfl) (by kernel_rfl) (fun _ _ _ h => h) (Or.inr ⟨by rfl, rfl⟩) (by assumption) ?_
                      change wpAnyH _ _ _ _ _ _ _ (Act.put _ (some 108) _) _
                      (try simp only [Act.put, List.setIfInBounds_toArray, List.set_cons_zero, List.set_cons_succ])
                      refine wpAnyH_take (i := 23) (oi := _) (v := undef) rfl (by kernel_rfl) (by kernel_rfl) (by kernel_rfl) (fun _ _ _ h => h) (Or.inr ⟨by rfl, rfl⟩) (by assumption) ?_
                      change wpAnyH _ _ _ _ _ _ _ (Act.put _ (some 109) _) _
                      (try simp only [Act.put, List.setIfInBounds_toArray, List.set_cons_zero, List.set_cons_succ])
                      refine wpAnyH_take (i := 24) (oi := _) (v := undef) rfl (by kernel_rfl) (by kernel_rfl) (by kernel_rfl) (fun _ _ _ h => h) (Or.inr ⟨by rfl, rfl⟩) (by assumption) ?_
                      change wpAnyH _ _ _ _ _ _ _ (Act.put _ (some 110) _) _
                      (try simp only [Act.put, List.setIfInBounds_toArray, List.set_cons_zero, List.set_cons_succ])
                      refine wpAnyH_take (i := 25) (oi := _) (v := undef) rfl (by kernel_rfl) (by kernel_rfl) (by kernel_rfl) (fun _ _ _ h => h) (Or.inr ⟨by rfl, rfl⟩) (by assumption) ?_
                      change wpAnyH _ _ _ _ _ _ _ (Act.put _ (some 111) _) _
                      (try simp only [Act.put, List.setIfInBounds_toArray, List.set_cons_zero, List.set_cons_succ])
                      refine wpAnyH_take (i := 26) (oi := _) (v := ?_) rfl (by kernel_rfl) (by kernel_rfl) (by kernel_rfl) (fun _ _ _ h => h) (Or.inl ⟨by rfl, ?_⟩) (by assumption) ?_
                      rotate_left 1
                      · intro w hSw; clear hSw; first | (go_simp; done) | (go_simp; with_reducible rfl)
                      change wpAnyH _ _ _ _ _ _ _ (Act.put _ (some 112) _) _
                      (try simp only [Act.put, List.setIfInBounds_toArray, List.set_cons_zero, List.set_cons_succ])
                      refine wpAnyH_take (i := 27) (oi := _) (v := ?_) rfl (by kernel_rfl) (by kernel_rfl) (by kernel_rfl) (fun _ _ _ h => h) (Or.inl ⟨by rfl, ?_⟩) (by assumption) ?_
                      rotate_left 1
                      · intro w hSw; clear hSw; first | (go_simp; done) | (go_simp; with_reducible rfl)
                      change wpAnyH _ _ _ _ _ _ _ (Act.put _ (some 113) _) _
                      (try simp only [Act.put, List.setIfInBounds_toArray, List.set_cons_zero, List.set_cons_succ])
                      refine wpAnyH_take (i := 28) (oi := _) (v := undef) rfl (by kernel_rfl) (by kernel_rfl) (by kernel_rfl) (fun _ _ _ h => h) (Or.inr ⟨by rfl, rfl⟩) (by assumption) ?_
                      change wpAnyH _ _ _ _ _ _ _ (Act.put _ (some 114) _) _
                      (try simp only [Act.put, List.setIfInBounds_toArray, List.set_cons_zero, List.set_cons_succ])
                      refine wpAnyH_take (i := 29) (oi := _) (v := undef) rfl (by kernel_rfl) (by kernel_rfl) (by kernel_rfl) (fun _ _ _ h => h) (Or.inr ⟨by rfl, rfl⟩) (by assumption) ?_
                      change wpAnyH _ _ _ _ _ _ _ (Act.put _ (some 115) _) _
                      (try simp only [Act.put, List.setIfInBounds_toArray, List.set_cons_zero, List.set_cons_succ])
                      refine wpAnyH_take (i := 30) (oi := _) (v := undef) rfl (by kernel_rfl) (by kernel_rfl) (by kernel_rfl) (fun _ _ _ h => h) (Or.inr ⟨by rfl, rfl⟩) (by assumption) ?_
                      change wpAnyH _ _ _ _ _ _ _ (Act.put _ (some 116) _) _
                      (try simp only [Act.put, List.setIfInBounds_toArray, List.set_cons_zero, List.set_cons_succ])
                      refine wpAnyH_take (i := 31) (oi := _) (v := undef) rfl (by kernel_rfl) (by kernel_rfl) (by kernel_rfl) (fun _ _ _ h => h) (Or.inr ⟨by rfl, rfl⟩) (by assumption) ?_
                      change wpAnyH _ _ _ _ _ _ _ (Act.put _ (some 117) _) _
                      (try simp only [Act.put, List.setIfInBounds_toArray, List.set_cons_zero, List.set_cons_succ])
                      refine wpAnyH_take (i := 32) (oi := _) (v := ?_) rfl (by kernel_rfl) (by kernel_rfl) (by kernel_rfl) (fun _ _ _ h => h) (Or.inl ⟨by rfl, ?_⟩) (by assumption) ?_
                      rotate_left 1
                      · intro w hSw; clear hSw; first | (go_simp; done) | (go_simp; with_reducible rfl)
                      change wpAnyH _ _ _ _ _ _ _ (Act.put _ (some 118) _) _
                      (try simp only [Act.put, List.setIfInBounds_toArray, List.set_cons_zero, List.set_cons_succ])
                      refine wpAnyH_take (i := 33) (oi := _) (v := ?_) rfl (by kernel_rfl) (by kernel_rfl) (by kernel_rfl) (fun _ _ _ h => h) (Or.inl ⟨by rfl, ?_⟩) (by assumption) ?_
                      rotate_left 1
                      · intro w hSw; clear hSw; first | (go_simp; done) | (go_simp; with_reducible rfl)
                      change wpAnyH _ _ _ _ _ _ _ (Act.put _ (some 119) _) _
                      (try simp only [Act.put, List.setIfInBounds_toArray, List.set_cons_zero, List.set_cons_succ])
                      refine wpAnyH_take (i := 34) (oi := _) (v := undef) rfl (by kernel_rfl) (by kernel_rfl) (by kernel_rfl) (fun _ _ _ h => h) (Or.inr ⟨by rfl, rfl⟩) (by assumption) ?_
                      change wpAnyH _ _ _ _ _ _ _ (Act.put _ (some 120) _) _
                      (try simp only [Act.put, List.setIfInBounds_toArray, List.set_cons_zero, List.set_cons_succ])
                      refine wpAnyH_take (i := 35) (oi := _) (v := undef) rfl (by kernel_rfl) (by kernel_rfl) (by kernel_rfl) (fun _ _ _ h => h) (Or.inr ⟨by rfl, rfl⟩) (by assumption) ?_
                      change wpAnyH _ _ _ _ _ _ _ (Act.put _ (some 121) _) _
                      (try simp only [Act.put, List.setIfInBounds_toArray, List.set_cons_zero, List.set_cons_succ])
                      refine wpAnyH_take (i := 36) (oi := _) (v := undef) rfl (by kernel_rfl) (by kernel_rfl) (by kernel_rfl) (fun _ _ _ h => h) (Or.inr ⟨by rfl, rfl⟩) (by assumption) ?_
                      change wpAnyH _ _ _ _ _ _ _ (Act.put _ (some 122) _) _
                      (try simp only [Act.put, List.setIfInBounds_toArray, List.set_cons_zero, List.set_cons_succ])
                      refine wpAnyH_take (i := 37) (oi := _) (v := undef) rfl (by kernel_rfl) (by kernel_rfl) (by kernel_rfl) (fun _ _ _ h => h) (Or.inr ⟨by rfl, rfl⟩) (by assumption) ?_
                      change wpAnyH _ _ _ _ _ _ _ (Act.put _ (some 123) _) _
                      (try simp only [Act.put, List.setIfInBounds_toArray, List.set_cons_zero, List.set_cons_succ])
                      refine wpAnyH_take (i := 38) (oi := _) (v := ?_) rfl (by kernel_rfl) (by kernel_rfl) (by kernel_rfl) (fun _ _ _ h => h) (Or.inl ⟨by rfl, ?_⟩) (by assumption) ?_
                      rotate_left 1
                      · intro w hSw; clear hSw; first | (go_simp; done) | (go_simp; with_reducible rfl)
                      change wpAnyH _ _ _ _ _ _ _ (Act.put _ (some 124) _) _
                      (try simp only [Act.put, List.setIfInBounds_toArray, List.set_cons_zero, List.set_cons_succ])
                      refine wpAnyH_done (by kernel_rfl) ?_ _
                      have R := Lib.hid (chain HB0.out (chain HWR.out hbx))
                      go_wp2
                      go_ret
                      exact ⟨by rw [HF.out]; rfl, R.out⟩
                    · have HLO : Hid LO := HLOI.out.2 fun _ => by omega
                      have d1 : decide (p0 ≤ pz) = false := decide_eq_false hid
                      clear hid
                      refine wpAnyH_take (i := 17) (oi := _) (v := ?_) rfl (by kernel_rfl) (by kernel_rfl) (by kernel_rfl) (fun _ _ _ h => h) (Or.inl ⟨by rfl, ?_⟩) (by assumption) ?_
                      rotate_left 1
                      · intro w hSw; clear hSw; first | (go_simp; done) | (go_simp; with_reducible rfl)
                      change wpAnyH _ _ _ _ _ _ _ (Act.put _ (some 103) _) _
                      (try simp only [Act.put, List.setIfInBounds_toArray, List.set_cons_zero, List.set_cons_succ])
                      refine wpAnyH_take (i := 18) (oi := _) (v := ?_) rfl (by kernel_rfl) (by kernel_rfl) (by kernel_rfl) (fun _ _ _ h => h) (Or.inl ⟨by rfl, ?_⟩) (by assumption) ?_
                      rotate_left 1
                      · intro w hSw; clear hSw; first | (go_simp; done) | (go_simp; with_reducible rfl)
                      change wpAnyH _ _ _ _ _ _ _ (Act.put _ (some 104) _) _
                      (try simp only [Act.put, List.setIfInBounds_toArray, List.set_cons_zero, List.set_cons_succ])
                      refine wpAnyH_take (i := 19) (oi := _) (v := ?_) rfl (by kernel_rfl) (by kernel_rfl) (by kernel_rfl) (fun _ _ _ h => h) (Or.inl ⟨by rfl, ?_⟩) (by assumption) ?_
                      rotate_left 1
                      · intro w hSw; clear hSw; first | (go_simp; done) | (go_simp; with_reducible rfl)
                      change wpAnyH _ _ _ _ _ _ _ (Act.put _ (some 105) _) _
                      (try simp only [Act.put, List.setIfInBounds_toArray, List.set_cons_zero, List.set_cons_succ])
                      refine wpAnyH_take (i := 20) (oi := _) (v := ?_) rfl (by kernel_rfl) (by kernel_rfl) (by kernel_rfl) (fun _ _ _ h => h) (Or.inl ⟨by rfl, ?_⟩) (by assumption) ?_
                      rotate_left 1
                      · intro w hSw; clear hSw; first | (go_simp; done) | (go_simp; with_reducible rfl)
                      change wpAnyH _ _ _ _ _ _ _ (Act.put _ (some 106) _) _
                      (try simp only [Act.put, List.setIfInBounds_toArray, List.set_cons_zero, List.set_cons_succ])
                      refine wpAnyH_take (i := 21) (oi := _) (v := ?_) rfl (by kernel_rfl) (by kernel_rfl) (by kernel_rfl) (fun _ _ _ h => h) (Or.inl ⟨by rfl, ?_⟩) (by assumption) ?_
                      rotate_left 1
                      · intro w hSw; obtain ⟨⟨s0, s1, s2, s3⟩, ⟨s5, s6, s7⟩, s8⟩ := hSw; first | (go_simp; done) | (go_simp; with_reducible rfl)
                      change wpAnyH _ _ _ _ _ _ _ (Act.put _ (some 107) _) _
                      (try simp only [Act.put, List.setIfInBounds_toArray, List.set_cons_zero, List.set_cons_succ])
                      refine wpAnyH_take (i := 22) (oi := _) (v := ?_) rfl (by kernel_rfl) (by kernel_rfl) (by kernel_rfl) (fun _ _ _ h => h) (Or.inl ⟨by rfl, ?_⟩) (by assumption) ?_
                      rotate_left 1
                      · intro w hSw; clear hSw; first | (go_simp; done) | (go_simp; with_reducible rfl)
                      change wpAnyH _ _ _ _ _ _ _ (Act.put _ (some 108) _) _
                      (try simp only [Act.put, List.setIfInBounds_toArray, List.set_cons_zero, List.set_cons_succ])
                      refine wpAnyH_take (i := 23) (oi := _) (v := ?_) rfl (by kernel_rfl) (by kernel_rfl) (by kernel_rfl) (fun _ _ _ h => h) (Or.inl ⟨by rfl, ?_⟩) (by assumption) ?_
                      rotate_left 1
                      · intro w hSw; obtain ⟨⟨s0, s1, s2, s3⟩, ⟨s5, s6, s7⟩, s8⟩ := hSw; first | (go_simp; done) | (go_simp; with_reducible rfl)
                      change wpAnyH _ _ _ _ _ _ _ (Act.put _ (some 109) _) _
                      (try simp only [Act.put, List.setIfInBounds_toArray, List.set_cons_zero, List.set_cons_succ])
                      refine wpAnyH_ready (rs := [24]) (by kernel_rfl) (by simp) ?_
                      refine AllReadyH.cons (o := _) rfl (fun K hK => ?_) AllReadyH.nil
                      go_simp
                      (go_at_call 37; with_reducible (refine Calls.mono (HTEN.out _ (chain HWR.out hbx)) ?_); rintro e w7 ⟨rfl, hb7⟩; have hbx := chain hbx hb7)
                      refine hK.out _ _ (⟨HX.out _ hbx, HFH.out _ (chain HWR.out hbx), HPC.out _ (chain HWR.out hbx)⟩) (fun hHeld24 => ?_)
                      (try simp only [Act.put, List.setIfInBounds_toArray, List.set_cons_zero, List.set_cons_succ])
                      clear hK K
                      by_cases hso : (tenAt t.ts p1).isSome = true
                      · have e1 : decide (c < 0) = false := decide_eq_false fun q => by have := hs3.1 q; rw [hso] at this; cases this
                        have HSO := Lib.hid hso
                        clear hso hs3
                        refine wpAnyH_take (i := 25) (oi := _) (v := ?_) rfl (by kernel_rfl) (by kernel_rfl) (by kernel_rfl) (fun _ _ _ h => h) (Or.inl ⟨by rfl, ?_⟩) (by assumption) ?_
                        rotate_left 1
                        · intro w hSw; clear hSw; first | (go_simp; done) | (go_simp; with_reducible rfl)
                        change wpAnyH _ _ _ _ _ _ _ (Act.put _ (some 111) _) _
                        (try simp only [Act.put, List.setIfInBounds_toArray, List.set_cons_zero, List.set_cons_succ])
                        refine wpAnyH_take (i := 26) (oi := _) (v := ?_) rfl (by kernel_rfl) (by kernel_rfl) (by kernel_rfl) (fun _ _ _ h => h) (Or.inl ⟨by rfl, ?_⟩) (by assumption) ?_
                        rotate_left 1
                        · intro w hSw; clear hSw; first | (go_simp; done) | (go_simp; with_reducible rfl)
                        change wpAnyH _ _ _ _ _ _ _ (Act.put _ (some 112) _) _
                        (try simp only [Act.put, List.setIfInBounds_toArray, List.set_cons_zero, List.set_cons_succ])
                        refine wpAnyH_take (i := 27) (oi := _) (v := ?_) rfl (by kernel_rfl) (by kernel_rfl) (by kernel_rfl) (fun _ _ _ h => h) (Or.inl ⟨by rfl, ?_⟩) (by assumption) ?_
                        rotate_left 1
                        · intro w hSw; clear hSw; first | (go_simp; done) | (go_simp; with_reducible rfl)
                        change wpAnyH _ _ _ _ _ _ _ (Act.put _ (some 113) _) _
                        (try simp only [Act.put, List.setIfInBounds_toArray, List.set_cons_zero, List.set_cons_succ])
                        refine wpAnyH_take (i := 28) (oi := _) (v := ?_) rfl (by kernel_rfl) (by kernel_rfl) (by kernel_rfl) (fun _ _ _ h => h) (Or.inl ⟨by rfl, ?_⟩) (by assumption) ?_
                        rotate_left 1
                        · intro w hSw; clear hSw; first | (go_simp; done) | (go_simp; with_reducible rfl)
                        change wpAnyH _ _ _ _ _ _ _ (Act.put _ (some 114) _) _
                        (try simp only [Act.put, List.setIfInBounds_toArray, List.set_cons_zero, List.set_cons_succ])
                        refine wpAnyH_take (i := 29) (oi := _) (v := ?_) rfl (by kernel_rfl) (by kernel_rfl) (by kernel_rfl) (fun _ _ _ h => h) (Or.inl ⟨by rfl, ?_⟩) (by assumption) ?_
                        rotate_left 1
                        · intro w hSw; obtain ⟨⟨s0, s1, s2, s3⟩, ⟨s5, s6, s7⟩, s8⟩ := hSw; first | (go_simp; done) | (go_simp; with_reducible rfl)
                        change wpAnyH _ _ _ _ _ _ _ (Act.put _ (some 115) _) _
                        (try simp only [Act.put, List.setIfInBounds_toArray, List.set_cons_zero, List.set_cons_succ])
                        refine wpAnyH_ready (rs := [30]) (by kernel_rfl) (by simp) ?_
                        refine AllReadyH.cons (o := _) rfl (fun K hK => ?_) AllReadyH.nil
                        go_simp
                        (go_at_call 34; with_reducible (refine Calls.mono (HBK.out _) ?_); rintro e w7 ⟨rfl, rfl⟩)
                        refine hK.out _ _ (⟨HX.out _ hbx, HFH.out _ (chain HWR.out hbx), HPC.out _ (chain HWR.out hbx)⟩) (fun hHeld30 => ?_)
                        (try simp only [Act.put, List.setIfInBounds_toArray, List.set_cons_zero, List.set_cons_succ])
                        clear hK K
                        cases bk
                        · (try simp only [Bool.not_true, Bool.not_false])
                          have HF : Hid (S = false) := HNO.out fun hg => by have := HBB.out.2 (HGD.out.1 hg).2.2.2.1; cases this
                          refine wpAnyH_take (i := 31) (oi := _) (v := ?_) rfl (by kernel_rfl) (by kernel_rfl) (by kernel_rfl) (fun _ _ _ h => h) (Or.inl ⟨by rfl, ?_⟩) (by assumption) ?_
                          rotate_left 1
                          · intro w hSw; clear hSw; first | (go_simp; done) | (go_simp; with_reducible rfl)
                          change wpAnyH _ _ _ _ _ _ _ (Act.put _ (some 117) _) _
                          (try simp only [Act.put, List.setIfInBounds_toArray, List.set_cons_zero, List.set_cons_succ])
                          refine wpAnyH_take (i := 32) (oi := _) (v := ?_) rfl (by kernel_rfl) (by kernel_rfl) (by kernel_rfl) (fun _ _ _ h => h) (Or.inl ⟨by rfl, ?_⟩) (by assumption) ?_
                          rotate_left 1
                          · intro w hSw; clear hSw; first | (go_simp; done) | (go_simp; with_reducible rfl)
                          change wpAnyH _ _ _ _ _ _ _ (Act.put _ (some 118) _) _
                          (try simp only [Act.put, List.setIfInBounds_toArray, List.set_cons_zero, List.set_cons_succ])
                          refine wpAnyH_take (i := 33) (oi := _) (v := ?_) rfl (by kernel_rfl) (by kernel_rfl) (by kernel_rfl) (fun _ _ _ h => h) (Or.inl ⟨by rfl, ?_⟩) (by assumption) ?_
                          rotate_left 1
                          · intro w hSw; clear hSw; first | (go_simp; done) | (go_simp; with_reducible rfl)
                          change wpAnyH _ _ _ _ _ _ _ (Act.put _ (some 119) _) _
                          (try simp only [Act.put, List.setIfInBounds_toArray, List.set_cons_zero, List.set_cons_succ])
                          refine wpAnyH_take (i := 34) (oi := _) (v := undef) rfl (by kernel_rfl) (by kernel_rfl) (by kernel_rfl) (fun _ _ _ h => h) (Or.inr ⟨by rfl, rfl⟩) (by assumption) ?_
                          change wpAnyH _ _ _ _ _ _ _ (Act.put _ (some 120) _) _
                          (try simp only [Act.put, List.setIfInBounds_toArray, List.set_cons_zero, List.set_cons_succ])
                          refine wpAnyH_take (i := 35) (oi := _) (v := undef) rfl (by kernel_rfl) (by kernel_rfl) (by kernel_rfl) (fun _ _ _ h => h) (Or.inr ⟨by rfl, rfl⟩) (by assumption) ?_
                          change wpAnyH _ _ _ _ _ _ _ (Act.put _ (some 121) _) _
                          (try simp only [Act.put, List.setIfInBounds_toArray, List.set_cons_zero, List.set_cons_succ])
                          refine wpAnyH_take (i := 36) (oi := _) (v := undef) rfl (by kernel_rfl) (by kernel_rfl) (by kernel_rfl) (fun _ _ _ h => h) (Or.inr ⟨by rfl, rfl⟩) (by assumption) ?_
                          change wpAnyH _ _ _ _ _ _ _ (Act.put _ (some 122) _) _
                          (try simp only [Act.put, List.setIfInBounds_toArray, List.set_cons_zero, List.set_cons_succ])
                          refine wpAnyH_take (i := 37) (oi := _) (v := undef) rfl (by kernel_rfl) (by kernel_rfl) (by kernel_rfl) (fun _ _ _ h => h) (Or.inr ⟨by rfl, rfl⟩) (by assumption) ?_
                          change wpAnyH _ _ _ _ _ _ _ (Act.put _ (some 123) _) _
                          (try simp only [Act.put, List.setIfInBounds_toArray, List.set_cons_zero, List.set_cons_succ])
                          refine wpAnyH_take (i := 38) (oi := _) (v := ?_) rfl (by kernel_rfl) (by kernel_rfl) (by kernel_rfl) (fun _ _ _ h => h) (Or.inl ⟨by rfl, ?_⟩) (by assumption) ?_
                          rotate_left 1
                          · intro w hSw; clear hSw; first | (go_simp; done) | (go_simp; with_reducible rfl)
                          change wpAnyH _ _ _ _ _ _ _ (Act.put _ (some 124) _) _
                          (try simp only [Act.put, List.setIfInBounds_toArray, List.set_cons_zero, List.set_cons_succ])
                          refine wpAnyH_done (by kernel_rfl) ?_ _
                          have R := Lib.hid (chain HB0.out (chain HWR.out hbx))
                          go_wp2
                          go_ret
                          exact ⟨by rw [HF.out]; rfl, R.out⟩
                        · (try simp only [Bool.not_true, Bool.not_false])
                          have HBB2 : Hid (inR p2 0 32) := HBB.out.1 rfl
                          refine wpAnyH_take (i := 31) (oi := _) (v := ?_) rfl (by kernel_rfl) (by kernel_rfl) (by kernel_rfl) (fun _ _ _ h => h) (Or.inl ⟨by rfl, ?_⟩) (by assumption) ?_
                          rotate_left 1
                          · intro w hSw; clear hSw; first | (go_simp; done) | (go_simp; with_reducible rfl)
                          change wpAnyH _ _ _ _ _ _ _ (Act.put _ (some 117) _) _
                          (try simp only [Act.put, List.setIfInBounds_toArray, List.set_cons_zero, List.set_cons_succ])
                          refine wpAnyH_take (i := 32) (oi := _) (v := ?_) rfl (by kernel_rfl) (by kernel_rfl) (by kernel_rfl) (fun _ _ _ h => h) (Or.inl ⟨by rfl, ?_⟩) (by assumption) ?_
                          rotate_left 1
                          · intro w hSw; clear hSw; first | (go_simp; done) | (go_simp; with_reducible rfl)
                          change wpAnyH _ _ _ _ _ _ _ (Act.put _ (some 118) _) _
                          (try simp only [Act.put, List.setIfInBounds_toArray, List.set_cons_zero, List.set_cons_succ])
                          refine wpAnyH_take (i := 33) (oi := _) (v := ?_) rfl (by kernel_rfl) (by kernel_rfl) (by kernel_rfl) (fun _ _ _ h => h) (Or.inl ⟨by rfl, ?_⟩) (by assumption) ?_
                          rotate_left 1
                          · intro w hSw; clear hSw; first | (go_simp; done) | (go_simp; with_reducible rfl)
                          change wpAnyH _ _ _ _ _ _ _ (Act.put _ (some 119) _) _
                          (try simp only [Act.put, List.setIfInBounds_toArray, List.set_cons_zero, List.set_cons_succ])
                          refine wpAnyH_take (i := 34) (oi := _) (v := ?_) rfl (by kernel_rfl) (by kernel_rfl) (by kernel_rfl) (fun _ _ _ h => h) (Or.inl ⟨by rfl, ?_⟩) (by assumption) ?_
                          rotate_left 1
                          · intro w hSw; clear hSw; first | (go_simp; done) | (go_simp; with_reducible rfl)
                          change wpAnyH _ _ _ _ _ _ _ (Act.put _ (some 120) _) _
                          (try simp only [Act.put, List.setIfInBounds_toArray, List.set_cons_zero, List.set_cons_succ])
                          refine wpAnyH_take (i := 35) (oi := _) (v := ?_) rfl (by kernel_rfl) (by kernel_rfl) (by kernel_rfl) (fun _ _ _ h => h) (Or.inl ⟨by rfl, ?_⟩) (by assumption) ?_
                          rotate_left 1
                          · intro w hSw; obtain ⟨⟨s0, s1, s2, s3⟩, ⟨s5, s6, s7⟩, s8⟩ := hSw; first | (go_simp; done) | (go_simp; with_reducible rfl)
                          change wpAnyH _ _ _ _ _ _ _ (Act.put _ (some 121) _) _
                          (try simp only [Act.put, List.setIfInBounds_toArray, List.set_cons_zero, List.set_cons_succ])
                          refine wpAnyH_ready (rs := [36]) (by kernel_rfl) (by simp) ?_
                          refine AllReadyH.cons (o := _) rfl (fun K hK => ?_) AllReadyH.nil
                          go_simp
                          (go_at_call 34; with_reducible (refine Calls.mono (HBS.out _) ?_); rintro e w7 ⟨rfl, rfl⟩)
                          refine hK.out _ _ (⟨HX.out _ hbx, HFH.out _ (chain HWR.out hbx), HPC.out _ (chain HWR.out hbx)⟩) (fun hHeld36 => ?_)
                          (try simp only [Act.put, List.setIfInBounds_toArray, List.set_cons_zero, List.set_cons_succ])
                          clear hK K
                          cases bs
                          · (try simp only [Bool.not_true, Bool.not_false])
                            have HF : Hid (S = false) := HNO.out fun hg => by have := HBC.out.2 (HGD.out.1 hg).2.2.2.2; cases this
                            refine wpAnyH_take (i := 37) (oi := _) (v := ?_) rfl (by kernel_rfl) (by kernel_rfl) (by kernel_rfl) (fun _ _ _ h => h) (Or.inl ⟨by rfl, ?_⟩) (by assumption) ?_
                            rotate_left 1
                            · intro w hSw; clear hSw; first | (go_simp; done) | (go_simp; with_reducible rfl)
                            change wpAnyH _ _ _ _ _ _ _ (Act.put _ (some 123) _) _
                            (try simp only [Act.put, List.setIfInBounds_toArray, List.set_cons_zero, List.set_cons_succ])
                            refine wpAnyH_take (i := 38) (oi := _) (v := ?_) rfl (by kernel_rfl) (by kernel_rfl) (by kernel_rfl) (fun _ _ _ h => h) (Or.inl ⟨by rfl, ?_⟩) (by assumption) ?_
                            rotate_left 1
                            · intro w hSw; clear hSw; first | (go_simp; done) | (go_simp; with_reducible rfl)
                            change wpAnyH _ _ _ _ _ _ _ (Act.put _ (some 124) _) _
                            (try simp only [Act.put, List.setIfInBounds_toArray, List.set_cons_zero, List.set_cons_succ])
                            refine wpAnyH_done (by kernel_rfl) ?_ _
                            have R := Lib.hid (chain HB0.out (chain HWR.out hbx))
                            go_wp2
                            go_ret
                            exact ⟨by rw [HF.out]; rfl, R.out⟩
                          · (try simp only [Bool.not_true, Bool.not_false])
                            have HJ := Lib.hid (HNX.out (HGD.out.2 ⟨HAA.out, HLO.out, HSO.out, HBB2.out, HBC.out.1 rfl⟩))
                            refine wpAnyH_take (i := 37) (oi := _) (v := ?_) rfl (by kernel_rfl) (by kernel_rfl) (by kernel_rfl) (fun _ _ _ h => h) (Or.inl ⟨by rfl, ?_⟩) (by assumption) ?_
                            rotate_left 1
                            · intro w hSw; clear hSw; first | (go_simp; done) | (go_simp; with_reducible rfl)
                            change wpAnyH _ _ _ _ _ _ _ (Act.put _ (some 123) _) _
                            (try simp only [Act.put, List.setIfInBounds_toArray, List.set_cons_zero, List.set_cons_succ])
                            refine wpAnyH_take (i := 38) (oi := _) (v := ?_) rfl (by kernel_rfl) (by kernel_rfl) (by kernel_rfl) (fun _ _ _ h => h) (Or.inl ⟨by rfl, ?_⟩) (by assumption) ?_
                            rotate_left 1
                            · intro w hSw; clear hSw; first | (go_simp; done) | (go_simp; with_reducible rfl)
                            change wpAnyH _ _ _ _ _ _ _ (Act.put _ (some 124) _) _
                            (try simp only [Act.put, List.setIfInBounds_toArray, List.set_cons_zero, List.set_cons_succ])
                            refine wpAnyH_done (by kernel_rfl) ?_ _
                            have R := Lib.hid (chain HWR.out hbx)
                            go_wp2
                            clear hbx
                            go_roundw
                            case rel => first | exact ⟨k + 1, by omega, by go_num, HJ, R⟩ | ((repeat apply Exists.intro); exact ⟨⟨k + 1, by omega, by go_num, HJ, R⟩, rfl⟩)
                            case measure => first | (simp [intOf]; done) | (simp [intOf]; omega)
                      · have HF : Hid (S = false) := HNO.out fun hg => by exact hso (HGD.out.1 hg).2.2.1
                        have hso2 : (tenAt t.ts p1).isSome = false := by cases hh : (tenAt t.ts p1).isSome with | false => rfl | true => exact absurd hh hso
                        have e1 : decide (c < 0) = true := decide_eq_true (hs3.2 hso2)
                        clear hso hso2 hs3
                        refine wpAnyH_take (i := 25) (oi := _) (v := ?_) rfl (by kernel_rfl) (by kernel_rfl) (by kernel_rfl) (fun _ _ _ h => h) (Or.inl ⟨by rfl, ?_⟩) (by assumption) ?_
                        rotate_left 1
                        · intro w hSw; clear hSw; first | (go_simp; done) | (go_simp; with_reducible rfl)
                        change wpAnyH _ _ _ _ _ _ _ (Act.put _ (some 111) _) _
                        (try simp only [Act.put, List.setIfInBounds_toArray, List.set_cons_zero, List.set_cons_succ])
                        refine wpAnyH_take (i := 26) (oi := _) (v := ?_) rfl (by kernel_rfl) (by kernel_rfl) (by kernel_rfl) (fun _ _ _ h => h) (Or.inl ⟨by rfl, ?_⟩) (by assumption) ?_
                        rotate_left 1
                        · intro w hSw; clear hSw; first | (go_simp; done) | (go_simp; with_reducible rfl)
                        change wpAnyH _ _ _ _ _ _ _ (Act.put _ (some 112) _) _
                        (try simp only [Act.put, List.setIfInBounds_toArray, List.set_cons_zero, List.set_cons_succ])
                        refine wpAnyH_take (i := 27) (oi := _) (v := ?_) rfl (by kernel_rfl) (by kernel_rfl) (by kernel_rfl) (fun _ _ _ h => h) (Or.inl ⟨by rfl, ?_⟩) (by assumption) ?_
                        rotate_left 1
                        · intro w hSw; clear hSw; first | (go_simp; done) | (go_simp; with_reducible rfl)
                        change wpAnyH _ _ _ _ _ _ _ (Act.put _ (some 113) _) _
                        (try simp only [Act.put, List.setIfInBounds_toArray, List.set_cons_zero, List.set_cons_succ])
                        refine wpAnyH_take (i := 28) (oi := _) (v := undef) rfl (by kernel_rfl) (by kernel_rfl) (by kernel_rfl) (fun _ _ _ h => h) (Or.inr ⟨by rfl, rfl⟩) (by assumption) ?_
                        change wpAnyH _ _ _ _ _ _ _ (Act.put _ (some 114) _) _
                        (try simp only [Act.put, List.setIfInBounds_toArray, List.set_cons_zero, List.set_cons_succ])
                        refine wpAnyH_take (i := 29) (oi := _) (v := undef) rfl (by kernel_rfl) (by kernel_rfl) (by kernel_rfl) (fun _ _ _ h => h) (Or.inr ⟨by rfl, rfl⟩) (by assumption) ?_
                        change wpAnyH _ _ _ _ _ _ _ (Act.put _ (some 115) _) _
                        (try simp only [Act.put, List.setIfInBounds_toArray, List.set_cons_zero, List.set_cons_succ])
                        refine wpAnyH_take (i := 30) (oi := _) (v := undef) rfl (by kernel_rfl) (by kernel_rfl) (by kernel_rfl) (fun _ _ _ h => h) (Or.inr ⟨by rfl, rfl⟩) (by assumption) ?_
                        change wpAnyH _ _ _ _ _ _ _ (Act.put _ (some 116) _) _
                        (try simp only [Act.put, List.setIfInBounds_toArray, List.set_cons_zero, List.set_cons_succ])
                        refine wpAnyH_take (i := 31) (oi := _) (v := undef) rfl (by kernel_rfl) (by kernel_rfl) (by kernel_rfl) (fun _ _ _ h => h) (Or.inr ⟨by rfl, rfl⟩) (by assumption) ?_
                        change wpAnyH _ _ _ _ _ _ _ (Act.put _ (some 117) _) _
                        (try simp only [Act.put, List.setIfInBounds_toArray, List.set_cons_zero, List.set_cons_succ])
                        refine wpAnyH_take (i := 32) (oi := _) (v := ?_) rfl (by kernel_rfl) (by kernel_rfl) (by kernel_rfl) (fun _ _ _ h => h) (Or.inl ⟨by rfl, ?_⟩) (by assumption) ?_
                        rotate_left 1
                        · intro w hSw; clear hSw; first | (go_simp; done) | (go_simp; with_reducible rfl)
                        change wpAnyH _ _ _ _ _ _ _ (Act.put _ (some 118) _) _
                        (try simp only [Act.put, List.setIfInBounds_toArray, List.set_cons_zero, List.set_cons_succ])
                        refine wpAnyH_take (i := 33) (oi := _) (v := ?_) rfl (by kernel_rfl) (by kernel_rfl) (by kernel_rfl) (fun _ _ _ h => h) (Or.inl ⟨by rfl, ?_⟩) (by assumption) ?_
                        rotate_left 1
                        · intro w hSw; clear hSw; first | (go_simp; done) | (go_simp; with_reducible rfl)
                        change wpAnyH _ _ _ _ _ _ _ (Act.put _ (some 119) _) _
                        (try simp only [Act.put, List.setIfInBounds_toArray, List.set_cons_zero, List.set_cons_succ])
                        refine wpAnyH_take (i := 34) (oi := _) (v := undef) rfl (by kernel_rfl) (by kernel_rfl) (by kernel_rfl) (fun _ _ _ h => h) (Or.inr ⟨by rfl, rfl⟩) (by assumption) ?_
                        change wpAnyH _ _ _ _ _ _ _ (Act.put _ (some 120) _) _
                        (try simp only [Act.put, List.setIfInBounds_toArray, List.set_cons_zero, List.set_cons_succ])
                        refine wpAnyH_take (i := 35) (oi := _) (v := undef) rfl (by kernel_rfl) (by kernel_rfl) (by kernel_rfl) (fun _ _ _ h => h) (Or.inr ⟨by rfl, rfl⟩) (by assumption) ?_
                        change wpAnyH _ _ _ _ _ _ _ (Act.put _ (some 121) _) _
                        (try simp only [Act.put, List.setIfInBounds_toArray, List.set_cons_zero, List.set_cons_succ])
                        refine wpAnyH_take (i := 36) (oi := _) (v := undef) rfl (by kernel_rfl) (by kernel_rfl) (by kernel_rfl) (fun _ _ _ h => h) (Or.inr ⟨by rfl, rfl⟩) (by assumption) ?_
                        change wpAnyH _ _ _ _ _ _ _ (Act.put _ (some 122) _) _
                        (try simp only [Act.put, List.setIfInBounds_toArray, List.set_cons_zero, List.set_cons_succ])
                        refine wpAnyH_take (i := 37) (oi := _) (v := undef) rfl (by kernel_rfl) (by kernel_rfl) (by kernel_rfl) (fun _ _ _ h => h) (Or.inr ⟨by rfl, rfl⟩) (by assumption) ?_
                        change wpAnyH _ _ _ _ _ _ _ (Act.put _ (some 123) _) _
                        (try simp only [Act.put, List.setIfInBounds_toArray, List.set_cons_zero, List.set_cons_succ])
                        refine wpAnyH_take (i := 38) (oi := _) (v := ?_) rfl (by kernel_rfl) (by kernel_rfl) (by kernel_rfl) (fun _ _ _ h => h) (Or.inl ⟨by rfl, ?_⟩) (by assumption) ?_
                        rotate_left 1
                        · intro w hSw; clear hSw; first | (go_simp; done) | (go_simp; with_reducible rfl)
                        change wpAnyH _ _ _ _ _ _ _ (Act.put _ (some 124) _) _
                        (try simp only [Act.put, List.setIfInBounds_toArray, List.set_cons_zero, List.set_cons_succ])
                        refine wpAnyH_done (by kernel_rfl) ?_ _
                        have R := Lib.hid (chain HB0.out (chain HWR.out hbx))
                        go_wp2
                        go_ret
                        exact ⟨by rw [HF.out]; rfl, R.out⟩
              · have hkN : N2 = k := by omega
                subst hkN
                have k1 : ¬ (N2 : Int) < (N2 : Int) := by omega
                obtain ⟨f0, f1, f2⟩ := HFH.out wr hB.out
                have HG2 := hI
                have HB1 := hB
                clear hI hB hlt hk k0
                go_wp2
                clear f0 f1 f2 k1
                go_loopw [7] (fun i wr => ∃ k : Nat, k ≤ N3 ∧ i = .int .i64 k ∧ Hid (∀ j, j < k → gd3 t j) ∧ Hid (Below W0.heap.size W0 wr)) (fun i _ => N3 - (intOf i).toNat)
                case atStart => exact ⟨0, Nat.zero_le _, rfl, fun j hj => absurd hj (Nat.not_lt_zero j), HB1.out⟩
                case round =>
                  clear HB1
                  obtain ⟨k, hk, rfl, hI, hB⟩ := hrel
                  have k0 : (0 : Int) ≤ (k : Int) := by omega
                  by_cases hlt : k < N3
                  · have k1 : (k : Int) < (N3 : Int) := by omega
                    have hkx : k < t.os.length := by have := HN3.out; omega
                    obtain ⟨b, off, hA, hbl, u0⟩ := (HTB.out wr hB.out).os k hkx
                    have hoc : ∀ X, Below W0.heap.size W0 X → X.cell? ⟨b, off + k, none⟩ = some (.int .i64 (t.os.getD k 0)) := fun X hb => by
                      obtain ⟨b2, off2, e, _, c0⟩ := (HTB.out X hb).os k hkx
                      rw [hA] at e
                      injection e with e
                      injection e with e1 e2
                      subst e1 e2
                      exact c0
                    have hgd : gd3 t k ↔ t.os.getD k 0 = 0 ∨ (tenAt t.ts (t.os.getD k 0)).isSome = true := Iff.rfl
                    have hsg := HSG.out (t.os.getD k 0)
                    have hte := fun X hb => HTEH.out (t.os.getD k 0) X hb
                    obtain ⟨o, ho⟩ : ∃ o, o = t.os.getD k 0 := ⟨_, rfl⟩
                    simp only [← ho] at u0 hoc hgd hsg hte
                    obtain ⟨c, hc⟩ : ∃ c, c = tenI t.ts o := ⟨_, rfl⟩
                    simp only [← hc] at hte hsg
                    obtain ⟨hs1, hs2, hs3⟩ := hsg
                    obtain ⟨A1, c1, A2, c2, A3, c3⟩ := V
                    simp only at hA
                    subst hA
                    simp only at HFH hte
                    obtain ⟨f0, f1, f2⟩ := HFH.out wr hB.out
                    have HTEN := Lib.hid hte
                    have HOC := Lib.hid hoc
                    have HWR := hB
                    have HNX : Hid (gd3 t k → ∀ j, j < k + 1 → gd3 t j) := fun hg j hj => by
                      rcases Nat.lt_or_ge j k with q | q
                      · exact hI.out j q
                      · have : j = k := by omega
                        subst this; exact hg
                    have HNO : Hid (¬ gd3 t k → S = false) := fun hg => by
                      cases hs : S with
                      | false => rfl
                      | true => exact absurd ((HS.out.1 hs).2.2.2.2.2.1 k hlt) hg
                    clear hte hoc hI hc ho u0 hB
                    go_wp2
                    have hbx : Below wr.heap.size wr wr.drew := (Below.refl _ _).drew
                    clear f0 f1 f2
                    refine wp_region_held_drew (S := (fun X => (X.cell? ⟨q0, 0, none⟩ = some (.slice A1 N1 c1) ∧ X.cell? ⟨q0, 1, none⟩ = some (.slice A2 N2 c2) ∧ X.cell? ⟨q0, 2, none⟩ = some (.slice (some ⟨b, off, none⟩) N3 c3)) ∧ X.cell? ⟨b, off + k, none⟩ = some (.int .i64 o))) (by kernel_rfl) (⟨HFH.out _ (chain HWR.out hbx), HOC.out _ (chain HWR.out hbx)⟩) (fun hHeld => ?_)
                    refine wpAnyH_take (i := 0) (oi := _) (v := ?_) rfl (by kernel_rfl) (by kernel_rfl) (by kernel_rfl) (fun _ _ _ h => h) (Or.inl ⟨by rfl, ?_⟩) (by assumption) ?_
                    rotate_left 1
                    · intro w hSw; clear hSw; first | (go_simp; done) | (go_simp; with_reducible rfl)
                    change wpAnyH _ _ _ _ _ _ _ (Act.put _ (some 132) _) _
                    (try simp only [Act.put, List.setIfInBounds_toArray, List.set_cons_zero, List.set_cons_succ])
                    refine wpAnyH_take (i := 1) (oi := _) (v := ?_) rfl (by kernel_rfl) (by kernel_rfl) (by kernel_rfl) (fun _ _ _ h => h) (Or.inl ⟨by rfl, ?_⟩) (by assumption) ?_
                    rotate_left 1
                    · intro w hSw; obtain ⟨⟨s5, s6, s7⟩, s8⟩ := hSw; first | (go_simp; done) | (go_simp; with_reducible rfl)
                    change wpAnyH _ _ _ _ _ _ _ (Act.put _ (some 133) _) _
                    (try simp only [Act.put, List.setIfInBounds_toArray, List.set_cons_zero, List.set_cons_succ])
                    refine wpAnyH_take (i := 2) (oi := _) (v := ?_) rfl (by kernel_rfl) (by kernel_rfl) (by kernel_rfl) (fun _ _ _ h => h) (Or.inl ⟨by rfl, ?_⟩) (by assumption) ?_
                    rotate_left 1
                    · intro w hSw; clear hSw; first | (go_simp; done) | (go_simp; with_reducible rfl)
                    change wpAnyH _ _ _ _ _ _ _ (Act.put _ (some 134) _) _
                    (try simp only [Act.put, List.setIfInBounds_toArray, List.set_cons_zero, List.set_cons_succ])
                    refine wpAnyH_take (i := 3) (oi := _) (v := ?_) rfl (by kernel_rfl) (by kernel_rfl) (by kernel_rfl) (fun _ _ _ h => h) (Or.inl ⟨by rfl, ?_⟩) (by assumption) ?_
                    rotate_left 1
                    · intro w hSw; clear hSw; first | (go_simp; done) | (go_simp; with_reducible rfl)
                    change wpAnyH _ _ _ _ _ _ _ (Act.put _ (some 135) _) _
                    (try simp only [Act.put, List.setIfInBounds_toArray, List.set_cons_zero, List.set_cons_succ])
                    refine wpAnyH_take (i := 4) (oi := _) (v := ?_) rfl (by kernel_rfl) (by kernel_rfl) (by kernel_rfl) (fun _ _ _ h => h) (Or.inl ⟨by rfl, ?_⟩) (by assumption) ?_
                    rotate_left 1
                    · intro w hSw; obtain ⟨⟨s5, s6, s7⟩, s8⟩ := hSw; first | (go_simp; done) | (go_simp; with_reducible rfl)
                    change wpAnyH _ _ _ _ _ _ _ (Act.put _ (some 136) _) _
                    (try simp only [Act.put, List.setIfInBounds_toArray, List.set_cons_zero, List.set_cons_succ])
                    by_cases h0 : o = 0
                    · have d1 : (o != 0) = false := by rw [h0]; rfl
                      have d2 : (o == 0) = true := by rw [h0]; rfl
                      have HJ := Lib.hid (HNX.out (hgd.2 (.inl h0)))
                      clear h0 hgd
                      refine wpAnyH_take (i := 5) (oi := _) (v := ?_) rfl (by kernel_rfl) (by kernel_rfl) (by kernel_rfl) (fun _ _ _ h => h) (Or.inl ⟨by rfl, ?_⟩) (by assumption) ?_
                      rotate_left 1
                      · intro w hSw; clear hSw; first | (go_simp; done) | (go_simp; with_reducible rfl)
                      change wpAnyH _ _ _ _ _ _ _ (Act.put _ (some 137) _) _
                      (try simp only [Act.put, List.setIfInBounds_toArray, List.set_cons_zero, List.set_cons_succ])
                      refine wpAnyH_take (i := 6) (oi := _) (v := ?_) rfl (by kernel_rfl) (by kernel_rfl) (by kernel_rfl) (fun _ _ _ h => h) (Or.inl ⟨by rfl, ?_⟩) (by assumption) ?_
                      rotate_left 1
                      · intro w hSw; clear hSw; first | (go_simp; done) | (go_simp; with_reducible rfl)
                      change wpAnyH _ _ _ _ _ _ _ (Act.put _ (some 138) _) _
                      (try simp only [Act.put, List.setIfInBounds_toArray, List.set_cons_zero, List.set_cons_succ])
                      refine wpAnyH_take (i := 7) (oi := _) (v := undef) rfl (by kernel_rfl) (by kernel_rfl) (by kernel_rfl) (fun _ _ _ h => h) (Or.inr ⟨by rfl, rfl⟩) (by assumption) ?_
                      change wpAnyH _ _ _ _ _ _ _ (Act.put _ (some 139) _) _
                      (try simp only [Act.put, List.setIfInBounds_toArray, List.set_cons_zero, List.set_cons_succ])
                      refine wpAnyH_take (i := 8) (oi := _) (v := undef) rfl (by kernel_rfl) (by kernel_rfl) (by kernel_rfl) (fun _ _ _ h => h) (Or.inr ⟨by rfl, rfl⟩) (by assumption) ?_
                      change wpAnyH _ _ _ _ _ _ _ (Act.put _ (some 140) _) _
                      (try simp only [Act.put, List.setIfInBounds_toArray, List.set_cons_zero, List.set_cons_succ])
                      refine wpAnyH_take (i := 9) (oi := _) (v := undef) rfl (by kernel_rfl) (by kernel_rfl) (by kernel_rfl) (fun _ _ _ h => h) (Or.inr ⟨by rfl, rfl⟩) (by assumption) ?_
                      change wpAnyH _ _ _ _ _ _ _ (Act.put _ (some 141) _) _
                      (try simp only [Act.put, List.setIfInBounds_toArray, List.set_cons_zero, List.set_cons_succ])
                      refine wpAnyH_take (i := 10) (oi := _) (v := undef) rfl (by kernel_rfl) (by kernel_rfl) (by kernel_rfl) (fun _ _ _ h => h) (Or.inr ⟨by rfl, rfl⟩) (by assumption) ?_
                      change wpAnyH _ _ _ _ _ _ _ (Act.put _ (some 142) _) _
                      (try simp only [Act.put, List.setIfInBounds_toArray, List.set_cons_zero, List.set_cons_succ])
                      refine wpAnyH_take (i := 11) (oi := _) (v := undef) rfl (by kernel_rfl) (by kernel_rfl) (by kernel_rfl) (fun _ _ _ h => h) (Or.inr ⟨by rfl, rfl⟩) (by assumption) ?_
                      change wpAnyH _ _ _ _ _ _ _ (Act.put _ (some 143) _) _
                      (try simp only [Act.put, List.setIfInBounds_toArray, List.set_cons_zero, List.set_cons_succ])
                      refine wpAnyH_take (i := 12) (oi := _) (v := undef) rfl (by kernel_rfl) (by kernel_rfl) (by kernel_rfl) (fun _ _ _ h => h) (Or.inr ⟨by rfl, rfl⟩) (by assumption) ?_
                      change wpAnyH _ _ _ _ _ _ _ (Act.put _ (some 144) _) _
                      (try simp only [Act.put, List.setIfInBounds_toArray, List.set_cons_zero, List.set_cons_succ])
                      refine wpAnyH_take (i := 13) (oi := _) (v := undef) rfl (by kernel_rfl) (by kernel_rfl) (by kernel_rfl) (fun _ _ _ h => h) (Or.inr ⟨by rfl, rfl⟩) (by assumption) ?_
                      change wpAnyH _ _ _ _ _ _ _ (Act.put _ (some 145) _) _
                      (try simp only [Act.put, List.setIfInBounds_toArray, List.set_cons_zero, List.set_cons_succ])
                      refine wpAnyH_take (i := 14) (oi := _) (v := undef) rfl (by kernel_rfl) (by kernel_rfl) (by kernel_rfl) (fun _ _ _ h => h) (Or.inr ⟨by rfl, rfl⟩) (by assumption) ?_
                      change wpAnyH _ _ _ _ _ _ _ (Act.put _ (some 146) _) _
                      (try simp only [Act.put, List.setIfInBounds_toArray, List.set_cons_zero, List.set_cons_succ])
                      refine wpAnyH_take (i := 15) (oi := _) (v := ?_) rfl (by kernel_rfl) (by kernel_rfl) (by kernel_rfl) (fun _ _ _ h => h) (Or.inl ⟨by rfl, ?_⟩) (by assumption) ?_
                      rotate_left 1
                      · intro w hSw; clear hSw; first | (go_simp; done) | (go_simp; with_reducible rfl)
                      change wpAnyH _ _ _ _ _ _ _ (Act.put _ (some 147) _) _
                      (try simp only [Act.put, List.setIfInBounds_toArray, List.set_cons_zero, List.set_cons_succ])
                      refine wpAnyH_done (by kernel_rfl) ?_ _
                      have R := Lib.hid (chain HWR.out hbx)
                      go_wp2
                      clear hbx
                      go_roundw
                      case rel => first | exact ⟨k + 1, by omega, by go_num, HJ, R⟩ | ((repeat apply Exists.intro); exact ⟨⟨k + 1, by omega, by go_num, HJ, R⟩, rfl⟩)
                      case measure => first | (simp [intOf]; done) | (simp [intOf]; omega)
                    · have d1 : (o != 0) = true := bne_iff_ne.2 h0
                      have d2 : (o == 0) = false := beq_eq_false_iff_ne.2 h0
                      refine wpAnyH_take (i := 5) (oi := _) (v := ?_) rfl (by kernel_rfl) (by kernel_rfl) (by kernel_rfl) (fun _ _ _ h => h) (Or.inl ⟨by rfl, ?_⟩) (by assumption) ?_
                      rotate_left 1
                      · intro w hSw; clear hSw; first | (go_simp; done) | (go_simp; with_reducible rfl)
                      change wpAnyH _ _ _ _ _ _ _ (Act.put _ (some 137) _) _
                      (try simp only [Act.put, List.setIfInBounds_toArray, List.set_cons_zero, List.set_cons_succ])
                      refine wpAnyH_take (i := 6) (oi := _) (v := ?_) rfl (by kernel_rfl) (by kernel_rfl) (by kernel_rfl) (fun _ _ _ h => h) (Or.inl ⟨by rfl, ?_⟩) (by assumption) ?_
                      rotate_left 1
                      · intro w hSw; clear hSw; first | (go_simp; done) | (go_simp; with_reducible rfl)
                      change wpAnyH _ _ _ _ _ _ _ (Act.put _ (some 138) _) _
                      (try simp only [Act.put, List.setIfInBounds_toArray, List.set_cons_zero, List.set_cons_succ])
                      refine wpAnyH_take (i := 7) (oi := _) (v := ?_) rfl (by kernel_rfl) (by kernel_rfl) (by kernel_rfl) (fun _ _ _ h => h) (Or.inl ⟨by rfl, ?_⟩) (by assumption) ?_
                      rotate_left 1
                      · intro w hSw; obtain ⟨⟨s5, s6, s7⟩, s8⟩ := hSw; first | (go_simp; done) | (go_simp; with_reducible rfl)
                      change wpAnyH _ _ _ _ _ _ _ (Act.put _ (some 139) _) _
                      (try simp only [Act.put, List.setIfInBounds_toArray, List.set_cons_zero, List.set_cons_succ])
                      refine wpAnyH_take (i := 8) (oi := _) (v := ?_) rfl (by kernel_rfl) (by kernel_rfl) (by kernel_rfl) (fun _ _ _ h => h) (Or.inl ⟨by rfl, ?_⟩) (by assumption) ?_
                      rotate_left 1
                      · intro w hSw; clear hSw; first | (go_simp; done) | (go_simp; with_reducible rfl)
                      change wpAnyH _ _ _ _ _ _ _ (Act.put _ (some 140) _) _
                      (try simp only [Act.put, List.setIfInBounds_toArray, List.set_cons_zero, List.set_cons_succ])
                      refine wpAnyH_take (i := 9) (oi := _) (v := ?_) rfl (by kernel_rfl) (by kernel_rfl) (by kernel_rfl) (fun _ _ _ h => h) (Or.inl ⟨by rfl, ?_⟩) (by assumption) ?_
                      rotate_left 1
                      · intro w hSw; obtain ⟨⟨s5, s6, s7⟩, s8⟩ := hSw; first | (go_simp; done) | (go_simp; with_reducible rfl)
                      change wpAnyH _ _ _ _ _ _ _ (Act.put _ (some 141) _) _
                      (try simp only [Act.put, List.setIfInBounds_toArray, List.set_cons_zero, List.set_cons_succ])
                      refine wpAnyH_take (i := 10) (oi := _) (v := ?_) rfl (by kernel_rfl) (by kernel_rfl) (by kernel_rfl) (fun _ _ _ h => h) (Or.inl ⟨by rfl, ?_⟩) (by assumption) ?_
                      rotate_left 1
                      · intro w hSw; clear hSw; first | (go_simp; done) | (go_simp; with_reducible rfl)
                      change wpAnyH _ _ _ _ _ _ _ (Act.put _ (some 142) _) _
                      (try simp only [Act.put, List.setIfInBounds_toArray, List.set_cons_zero, List.set_cons_succ])
                      refine wpAnyH_take (i := 11) (oi := _) (v := ?_) rfl (by kernel_rfl) (by kernel_rfl) (by kernel_rfl) (fun _ _ _ h => h) (Or.inl ⟨by rfl, ?_⟩) (by assumption) ?_
                      rotate_left 1
                      · intro w hSw; clear hSw; first | (go_simp; done) | (go_simp; with_reducible rfl)
                      change wpAnyH _ _ _ _ _ _ _ (Act.put _ (some 143) _) _
                      (try simp only [Act.put, List.setIfInBounds_toArray, List.set_cons_zero, List.set_cons_succ])
                      refine wpAnyH_take (i := 12) (oi := _) (v := ?_) rfl (by kernel_rfl) (by kernel_rfl) (by kernel_rfl) (fun _ _ _ h => h) (Or.inl ⟨by rfl, ?_⟩) (by assumption) ?_
                      rotate_left 1
                      · intro w hSw; obtain ⟨⟨s5, s6, s7⟩, s8⟩ := hSw; first | (go_simp; done) | (go_simp; with_reducible rfl)
                      change wpAnyH _ _ _ _ _ _ _ (Act.put _ (some 144) _) _
                      (try simp only [Act.put, List.setIfInBounds_toArray, List.set_cons_zero, List.set_cons_succ])
                      refine wpAnyH_ready (rs := [13]) (by kernel_rfl) (by simp) ?_
                      refine AllReadyH.cons (o := _) rfl (fun K hK => ?_) AllReadyH.nil
                      go_simp
                      (go_at_call 37; with_reducible (refine Calls.mono (HTEN.out _ (chain HWR.out hbx)) ?_); rintro e w7 ⟨rfl, hb7⟩; have hbx := chain hbx hb7)
                      refine hK.out _ _ (⟨HFH.out _ (chain HWR.out hbx), HOC.out _ (chain HWR.out hbx)⟩) (fun hHeld13 => ?_)
                      (try simp only [Act.put, List.setIfInBounds_toArray, List.set_cons_zero, List.set_cons_succ])
                      clear hK K
                      by_cases hso : (tenAt t.ts o).isSome = true
                      · have e1 : decide (c < 0) = false := decide_eq_false fun q => by have := hs3.1 q; rw [hso] at this; cases this
                        have HJ := Lib.hid (HNX.out (hgd.2 (.inr hso)))
                        clear h0 hgd hso hs3
                        refine wpAnyH_take (i := 14) (oi := _) (v := ?_) rfl (by kernel_rfl) (by kernel_rfl) (by kernel_rfl) (fun _ _ _ h => h) (Or.inl ⟨by rfl, ?_⟩) (by assumption) ?_
                        rotate_left 1
                        · intro w hSw; clear hSw; first | (go_simp; done) | (go_simp; with_reducible rfl)
                        change wpAnyH _ _ _ _ _ _ _ (Act.put _ (some 146) _) _
                        (try simp only [Act.put, List.setIfInBounds_toArray, List.set_cons_zero, List.set_cons_succ])
                        refine wpAnyH_take (i := 15) (oi := _) (v := ?_) rfl (by kernel_rfl) (by kernel_rfl) (by kernel_rfl) (fun _ _ _ h => h) (Or.inl ⟨by rfl, ?_⟩) (by assumption) ?_
                        rotate_left 1
                        · intro w hSw; clear hSw; first | (go_simp; done) | (go_simp; with_reducible rfl)
                        change wpAnyH _ _ _ _ _ _ _ (Act.put _ (some 147) _) _
                        (try simp only [Act.put, List.setIfInBounds_toArray, List.set_cons_zero, List.set_cons_succ])
                        refine wpAnyH_done (by kernel_rfl) ?_ _
                        have R := Lib.hid (chain HWR.out hbx)
                        go_wp2
                        clear hbx
                        go_roundw
                        case rel => first | exact ⟨k + 1, by omega, by go_num, HJ, R⟩ | ((repeat apply Exists.intro); exact ⟨⟨k + 1, by omega, by go_num, HJ, R⟩, rfl⟩)
                        case measure => first | (simp [intOf]; done) | (simp [intOf]; omega)
                      · have HF : Hid (S = false) := HNO.out fun hg => by
                          rcases hgd.1 hg with q | q
                          · exact h0 q
                          · exact hso q
                        have hso2 : (tenAt t.ts o).isSome = false := by cases hh : (tenAt t.ts o).isSome with | false => rfl | true => exact absurd hh hso
                        have e1 : decide (c < 0) = true := decide_eq_true (hs3.2 hso2)
                        clear h0 hgd hso hso2 hs3
                        refine wpAnyH_take (i := 14) (oi := _) (v := ?_) rfl (by kernel_rfl) (by kernel_rfl) (by kernel_rfl) (fun _ _ _ h => h) (Or.inl ⟨by rfl, ?_⟩) (by assumption) ?_
                        rotate_left 1
                        · intro w hSw; clear hSw; first | (go_simp; done) | (go_simp; with_reducible rfl)
                        change wpAnyH _ _ _ _ _ _ _ (Act.put _ (some 146) _) _
                        (try simp only [Act.put, List.setIfInBounds_toArray, List.set_cons_zero, List.set_cons_succ])
                        refine wpAnyH_take (i := 15) (oi := _) (v := ?_) rfl (by kernel_rfl) (by kernel_rfl) (by kernel_rfl) (fun _ _ _ h => h) (Or.inl ⟨by rfl, ?_⟩) (by assumption) ?_
                        rotate_left 1
                        · intro w hSw; clear hSw; first | (go_simp; done) | (go_simp; with_reducible rfl)
                        change wpAnyH _ _ _ _ _ _ _ (Act.put _ (some 147) _) _
                        (try simp only [Act.put, List.setIfInBounds_toArray, List.set_cons_zero, List.set_cons_succ])
                        refine wpAnyH_done (by kernel_rfl) ?_ _
                        have R := Lib.hid (chain HB0.out (chain HWR.out hbx))
                        go_wp2
                        go_ret
                        exact ⟨by rw [HF.out]; rfl, R.out⟩
                  · have hkN : N3 = k := by omega
                    subst hkN
                    have k1 : ¬ (N3 : Int) < (N3 : Int) := by omega
                    obtain ⟨f0, f1, f2⟩ := HFH.out wr hB.out
                    have hq := HQUH.out (by omega) fun x hx => by
                      obtain ⟨j, hj, rfl⟩ := List.getElem_of_mem hx
                      obtain ⟨_, hp, _⟩ := HG1.out j (by have := HN1.out; omega)
                      exact hp.2.1
                    obtain ⟨Q, hQ⟩ : ∃ Q, Q = sumQ t.ts := ⟨_, rfl⟩
                    simp only [← hQ] at hq
                    have HF : Hid (S = decide (Q ≤ (N3 : Int))) := by
                      unfold Hid
                      rw [Bool.eq_iff_iff, decide_eq_true_iff, HS.out, hQ]
                      exact ⟨fun q => q.2.2.2.2.2.2, fun q => ⟨HL.out, h7, h8, HG1.out, HG2.out, hI.out, q⟩⟩
                    have HQC := Lib.hid hq
                    have HWR := hB
                    clear hq hQ hI hB hlt hk k0
                    go_wp2
                    have hbx : Below wr.heap.size wr wr.drew := (Below.refl _ _).drew
                    clear f0 f1 f2 k1
                    go_region_held3 (fun X => X.cell? ⟨q0, 0, none⟩ = some (.slice V.A1 N1 V.c1) ∧ X.cell? ⟨q0, 1, none⟩ = some (.slice V.A2 N2 V.c2) ∧ X.cell? ⟨q0, 2, none⟩ = some (.slice V.A3 N3 V.c3))
                      (exact HFH.out _ (chain HWR.out hbx))
                      (first
                        | (go_at_call 38; with_reducible (refine Calls.mono (HQC.out _ (chain HWR.out hbx)) ?_); rintro e w7 ⟨rfl, hb7⟩; have hbx := chain hbx hb7)
                        | fail)
                    have R := Lib.hid (chain HB0.out (chain HWR.out hbx))
                    clear hbx
                    go_wp2
                    go_ret
                    exact ⟨by rw [HF.out]; rfl, R.out⟩
      · have d1 : ¬ (N1 : Int) > 7 := by omega
        have d2 : (N2 : Int) > 8 := by omega
        have HNO : Hid (S = false) := by
          cases hs : S with
          | false => rfl
          | true => have := (HS.out.1 hs).2.2.1; omega
        rw [HNO.out]
        have HIN1 := Lib.hid hin
        clear hlen hin h7 h8
        go_enter Tryz.func12, Tryz.ntmps12
        go_wp2_with fail
        rw [← hW0]
        clear hW0
        go_wp2_with (go_at_call 34; with_reducible (refine Calls.mono (HIN1.out _) ?_); rintro e w1 ⟨rfl, rfl⟩)
        go_ret
        exact ⟨rfl, HB0.out⟩
    · have d1 : (N1 : Int) > 7 := by omega
      have HNO : Hid (S = false) := by
        cases hs : S with
        | false => rfl
        | true => have := (HS.out.1 hs).2.1; omega
      rw [HNO.out]
      have HIN1 := Lib.hid hin
      clear hlen hin h7
      go_enter Tryz.func12, Tryz.ntmps12
      go_wp2_with fail
      rw [← hW0]
      clear hW0
      go_wp2_with (go_at_call 34; with_reducible (refine Calls.mono (HIN1.out _) ?_); rintro e w1 ⟨rfl, rfl⟩)
      go_ret
      exact ⟨rfl, HB0.out⟩
  · rw [decide_eq_false hlen] at hin
    have HNO : Hid (S = false) := by
      cases hs : S with
      | false => rfl
      | true => exact absurd (HS.out.1 hs).1 hlen
    rw [HNO.out]
    have HIN1 := Lib.hid hin
    clear hlen hin
    go_enter Tryz.func12, Tryz.ntmps12
    go_wp2_with fail
    rw [← hW0]
    clear hW0
    go_wp2_with (go_at_call 34; with_reducible (refine Calls.mono (HIN1.out _) ?_); rintro e w1 ⟨rfl, rfl⟩)
    go_ret
    exact ⟨rfl, HB0.out⟩

end Go.Proofs.YtnenpafofplbhaaGreat
