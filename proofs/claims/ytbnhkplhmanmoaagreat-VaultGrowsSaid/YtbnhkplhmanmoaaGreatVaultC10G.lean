/-
  The landed vault: what a disk keeps is loaded.
-/
import Derived.Test.YtbnhkplhmanmoaaGreatVaultC9G
namespace Go.Proofs.YtbnhkplhmanmoaaGreat
open Go.RowKit

theorem len_le_flat : ∀ {ts : List (List Rc)}, (∀ r ∈ ts, r ≠ []) → ts.length ≤ ts.flatten.length
  | [], _ => Nat.le_refl _
  | r :: ts, h => by
    have := len_le_flat (ts := ts) fun x hx => h x (List.mem_cons_of_mem _ hx)
    have := List.length_pos_iff.2 (h r (List.mem_cons_self ..))
    rw [List.flatten_cons, List.length_append, List.length_cons]
    omega
theorem from_less {lo lo' : Nat} {V : TabW} (h : lo ≤ lo') (hf : TabFrom lo' V) : TabFrom lo V := fun a ha => Nat.le_trans h (hf a ha)
/-- The table lies by value in a block. -/
def LdEnd (W1 Z : World) (bz : Nat) (V : TabW) (t : Tab) : Prop :=
  Below W1.heap.size W1 Z ∧ Z.heap[bz]? = some (.cells #[.slice V.A1 t.ts.length V.c1, .slice V.A2 t.vs.length V.c2, .slice V.A3 t.os.length V.c3] 35 (0, 0)) ∧ TabAt Z Z.heap.size V t ∧ TabFrom W1.heap.size V ∧ W1.heap.size ≤ bz
theorem ld_before {W1 X w4 : World} {bz : Nat} {V : TabW} {t : Tab} (hb : Below W1.heap.size W1 w4) (hz : w4.heap[bz]? = some (.cells #[.slice none 0 0, .slice none 0 0, .slice none 0 0] 35 (0, 0))) (h1 : W1.heap.size ≤ bz) (h2 : bz < X.heap.size) (hT : TabAt w4 w4.heap.size V t) (hF : TabFrom X.heap.size V) (hF2 : TabFrom W1.heap.size V) :
    LdEnd W1 (((w4.setCell ⟨bz, 0, none⟩ (.slice V.A1 t.ts.length V.c1)).setCell ⟨bz, 1, none⟩ (.slice V.A2 t.vs.length V.c2)).setCell ⟨bz, 2, none⟩ (.slice V.A3 t.os.length V.c3)) bz V t := by
  have hs := set3 (.slice V.A1 t.ts.length V.c1) (.slice V.A2 t.vs.length V.c2) (.slice V.A3 t.os.length V.c3) hz
  exact ⟨grown_below hb hs.2 hb.size h1, hs.1, (hT.other hF h2 fun k hk => setCells_other bz k hk [.slice V.A1 t.ts.length V.c1, .slice V.A2 t.vs.length V.c2, .slice V.A3 t.os.length V.c3] 0 w4).more hs.2.size, hF2, h1⟩
theorem ld_after {W1 w4 : World} {V : TabW} {t : Tab} (hb : Below W1.heap.size W1 w4) (hT : TabAt w4 w4.heap.size V t) (hF2 : TabFrom W1.heap.size V) :
    LdEnd W1 (w4.alloc (.cells #[.slice V.A1 t.ts.length V.c1, .slice V.A2 t.vs.length V.c2, .slice V.A3 t.os.length V.c3] 35)) w4.heap.size V t := by
  have hba : Below w4.heap.size w4 (w4.alloc (.cells #[.slice V.A1 t.ts.length V.c1, .slice V.A2 t.vs.length V.c2, .slice V.A3 t.os.length V.c3] 35)) := (Below.refl _ _).alloc (Nat.le_refl _) _
  exact ⟨chain hb hba, heap_alloc_new w4 _, (hT.below hba).more hba.size, hF2, hb.size⟩
theorem set6 {X : World} {g : Nat} {T : TypeId} {v0 v1 v2 v3 v4 v5 v6 : Value} (a b c d e f : Value) (h : X.heap[g]? = some (.cells #[v0, v1, v2, v3, v4, v5, v6] T (0, 0))) :
    ((((((X.setCell ⟨g, 1, none⟩ a).setCell ⟨g, 2, none⟩ b).setCell ⟨g, 3, none⟩ c).setCell ⟨g, 4, none⟩ d).setCell ⟨g, 5, none⟩ e).setCell ⟨g, 6, none⟩ f).heap[g]? = some (.cells #[v0, a, b, c, d, e, f] T (0, 0)) ∧ X.grownBy ((((((X.setCell ⟨g, 1, none⟩ a).setCell ⟨g, 2, none⟩ b).setCell ⟨g, 3, none⟩ c).setCell ⟨g, 4, none⟩ d).setCell ⟨g, 5, none⟩ e).setCell ⟨g, 6, none⟩ f) (some g) := by
  refine ⟨?_, setCells_grown X g 1 [a, b, c, d, e, f]⟩
  simp [World.setCell, Array.getElem?_modify, h]
set_option maxHeartbeats 1600000 in
/-- What was loaded is laid into the vault. -/
theorem ld_end {Rep : World → Nat → (Nat → Prop) → Dk → Prop} (L : Lows Rep) {w Z : World} {p q : Nat} {F : Nat → Prop} {s : Dk} {V V4 : TabW} {t t0 : Tab} {a : Nat} {g : Int} {d : Option Addr} {c1 c2 c3 c4 c5 c6 : Value} (h : VtAt Rep w p q F s d V ⟨t0, 0, 0, 0⟩) (hb : Below w.heap.size w Z)
    (hq : Z.heap[q]? = some (.cells #[.pointer d, c1, c2, c3, c4, c5, c6] 68 (0, 0))) (hT : TabAt Z Z.heap.size V4 t) (hF : TabFrom w.heap.size V4) :
    (∃ V', VtAt Rep ((((((Z.setCell ⟨q, 1, none⟩ (.slice V4.A1 t.ts.length V4.c1)).setCell ⟨q, 2, none⟩ (.slice V4.A2 t.vs.length V4.c2)).setCell ⟨q, 3, none⟩ (.slice V4.A3 t.os.length V4.c3)).setCell ⟨q, 4, none⟩ (.int .i64 (a : Int))).setCell ⟨q, 5, none⟩ (.int .i64 g)).setCell ⟨q, 6, none⟩ (.int .i64 192)).drew p q F s d V' ⟨t, a, g, 192⟩ ∧ TabFrom w.heap.size V') ∧
    Away (fun b => b = q) w ((((((Z.setCell ⟨q, 1, none⟩ (.slice V4.A1 t.ts.length V4.c1)).setCell ⟨q, 2, none⟩ (.slice V4.A2 t.vs.length V4.c2)).setCell ⟨q, 3, none⟩ (.slice V4.A3 t.os.length V4.c3)).setCell ⟨q, 4, none⟩ (.int .i64 (a : Int))).setCell ⟨q, 5, none⟩ (.int .i64 g)).setCell ⟨q, 6, none⟩ (.int .i64 192)).drew := by
  have hql := (Array.getElem?_eq_some_iff.1 h.cells).1
  have hs := set6 (.slice V4.A1 t.ts.length V4.c1) (.slice V4.A2 t.vs.length V4.c2) (.slice V4.A3 t.os.length V4.c3) (.int .i64 (a : Int)) (.int .i64 g) (.int .i64 192) hq
  have ho : ∀ k, k ≠ q → ((((((Z.setCell ⟨q, 1, none⟩ (.slice V4.A1 t.ts.length V4.c1)).setCell ⟨q, 2, none⟩ (.slice V4.A2 t.vs.length V4.c2)).setCell ⟨q, 3, none⟩ (.slice V4.A3 t.os.length V4.c3)).setCell ⟨q, 4, none⟩ (.int .i64 (a : Int))).setCell ⟨q, 5, none⟩ (.int .i64 g)).setCell ⟨q, 6, none⟩ (.int .i64 192)).heap[k]? = Z.heap[k]? := fun k hk => setCells_other q k hk [.slice V4.A1 t.ts.length V4.c1, .slice V4.A2 t.vs.length V4.c2, .slice V4.A3 t.os.length V4.c3, .int .i64 (a : Int), .int .i64 g, .int .i64 192] 1 Z
  obtain ⟨X, hX⟩ : ∃ X, X = ((((((Z.setCell ⟨q, 1, none⟩ (.slice V4.A1 t.ts.length V4.c1)).setCell ⟨q, 2, none⟩ (.slice V4.A2 t.vs.length V4.c2)).setCell ⟨q, 3, none⟩ (.slice V4.A3 t.os.length V4.c3)).setCell ⟨q, 4, none⟩ (.int .i64 (a : Int))).setCell ⟨q, 5, none⟩ (.int .i64 g)).setCell ⟨q, 6, none⟩ (.int .i64 192)) := ⟨_, rfl⟩
  rw [← hX] at hs ho ⊢
  clear hX
  have hbd : Below X.heap.size X X.drew := (Below.refl _ _).drew
  have hoD : ∀ k, k ≠ q → X.drew.heap[k]? = Z.heap[k]? := ho
  have hT2 : TabAt X X.heap.size V4 t := (hT.other hF hql ho).more hs.2.size
  have hrep := (L.d Z).keep Z X p F s (L.keep h.rep hb) (fun b hbF => ho b fun e => h.nq (e ▸ hbF))
  have hos : X.os = Z.os ∧ X.tape = Z.tape ∧ X.output = Z.output := ⟨hs.2.os, hs.2.tape, hs.2.output⟩
  refine ⟨⟨V4, ⟨L.keep hrep hbd, h.nq, hs.1, hT2.below hbd, TabOff.of hT2 hF fun b hN => .inl (hN.elim (fun q => L.lt h.rep q) fun q => q ▸ hql)⟩, hF⟩, ⟨hos.1.trans hb.os, hos.2.1.trans hb.tape, hos.2.2.trans hb.output, Nat.le_trans hb.size hs.2.size, fun k hk hn => (hoD k hn).trans (hb.block k hk)⟩⟩
section
variable {Rep : World → Nat → (Nat → Prop) → Dk → Prop} (L : Lows Rep)
include L
set_option maxHeartbeats 6400000 in
set_option maxRecDepth 20000 in
theorem load_any (p q : Nat) (F : Nat → Prop) (s : Dk) (n : Nat) (t : Tab) (a : Nat) (g K : Int) (V : TabW) (w : World) (h : VtAt Rep w p q F s (some ⟨p, 0, none⟩) V ⟨newR n, 0, 0, 0⟩) (ho : s.off = false) (hpe : s.pend = []) (hl : 384 ≤ s.last.length) (n1 : 1 ≤ n) (n2 : n ≤ 64) (hH : Holds s.last n t a g K) :
    Calls Tryz.prog 23 #[.pointer (some ⟨q, 0, none⟩)] w fun e w' => e = .returned (.int .i64 0) ∧ (∃ V', VtAt Rep w' p q F s (some ⟨p, 0, none⟩) V' ⟨t, a, g, 192⟩ ∧ TabFrom w.heap.size V') ∧ Away (fun b => b = q) w w' := by
  have HN := newest_any L p F s w h.rep ho hpe hl
  obtain ⟨e1, e2⟩ := hH.newest
  rw [e1, e2] at HN
  obtain ⟨ts, hts⟩ : ∃ ts, ts = (newestR s.last).whole := ⟨_, rfl⟩
  have hne : ∀ r ∈ ts, r ≠ [] := by rw [hts]; exact newTo_ne s.last 2
  have hcat : ts.flatten.length ≤ 192 := by rw [hts]; exact newest_cat s.last
  have hlen : ts.length ≤ 192 := Nat.le_trans (len_le_flat hne) hcat
  have hrun : runR (newR n) ts.flatten = (0, t) := by rw [hts]; exact hH.run
  rw [← hts] at HN
  have hns := new_sound n1 n2
  have happ : applyR (newR n) ts.flatten = (0, t) := by rw [apply_one hns]; exact hrun
  have hrok : ∀ r ∈ ts.flatten, r.ok := fun r hr => fit_ok (run_fits hrun r hr)
  have HCO : Hid (∀ (A : Option Addr) (c : Nat) (W X : World), TransAt W W.heap.size A ts → Below W.heap.size W X → Calls Tryz.prog 35 #[.slice A ts.length c] X fun e w' => ∃ A' c', e = .returned (.slice A' ts.flatten.length c') ∧ ts.flatten.length ≤ c' ∧ RecsAt w' w'.heap.size A' ts.flatten ∧ Below X.heap.size X w') := fun A c W X q1 q2 => concatR_any A c ts X ((q1.below q2).more q2.size) hne hcat hlen
  have HAP : Hid (∀ (A : Option Addr) (c : Nat) (W X : World), Below w.heap.size w X → RecsAt W W.heap.size A ts.flatten → ts.flatten.length ≤ c → Below W.heap.size W X → Calls Tryz.prog 24 #[.agg #[.slice V.A1 (newR n).ts.length V.c1, .slice V.A2 (newR n).vs.length V.c2, .slice V.A3 (newR n).os.length V.c3], .slice A ts.flatten.length c] X fun e w' => ∃ V', e = .returned (.tuple #[.agg #[.slice V'.A1 t.ts.length V'.c1, .slice V'.A2 t.vs.length V'.c2, .slice V'.A3 t.os.length V'.c3], .int .i64 0]) ∧ TabAt w' w'.heap.size V' t ∧ TabFrom X.heap.size V' ∧ Below X.heap.size X w') := fun A c W X q0 q1 q2 q3 => by
    have := (L.t X).apply V (newR n) A c ts.flatten X (Below.refl _ _) ((h.tab.below q0).more q0.size) (newR_ok n2) ((q1.below q3).more q3.size) q2 hrok (by omega)
    rw [happ] at this
    exact this
  have hvc := h.cells
  unfold vtC at hvc
  have HVC : Hid (∀ X, Below w.heap.size w X → X.heap[q]? = some (.cells #[.pointer (some ⟨p, 0, none⟩), .slice V.A1 (newR n).ts.length V.c1, .slice V.A2 (newR n).vs.length V.c2, .slice V.A3 (newR n).os.length V.c3, .int .i64 ((0 : Nat) : Int), .int .i64 0, .int .i64 ((0 : Nat) : Int)] 68 (0, 0))) := fun X hb => (hb.block _ (Array.getElem?_eq_some_iff.1 hvc).1).trans hvc
  obtain ⟨y0, y1, y2, y3, y4, y5, y6⟩ := cells7 hvc
  have HN := Lib.hid HN
  obtain ⟨tn, htn⟩ : ∃ x, x = ts.length := ⟨_, rfl⟩
  obtain ⟨fn, hfn⟩ : ∃ x, x = ts.flatten.length := ⟨_, rfl⟩
  rw [← htn] at HN
  simp only [← htn] at HCO
  simp only [← hfn] at HCO HAP
  obtain ⟨l1, hl1⟩ : ∃ x, x = (newR n).ts.length := ⟨_, rfl⟩
  obtain ⟨l2, hl2⟩ : ∃ x, x = (newR n).vs.length := ⟨_, rfl⟩
  obtain ⟨l3, hl3⟩ : ∃ x, x = (newR n).os.length := ⟨_, rfl⟩
  simp only [← hl1, ← hl2, ← hl3] at HAP HVC y1 y2 y3
  have hbh := Lib.hid (fun (W : World) (A : Option Addr) (c : Nat) => (Below.refl W.heap.size W).alloc (Nat.le_refl _) (.cells #[.int .i64 (a : Int), .int .i64 g, .slice A tn c] 87))
  have hnh := Lib.hid (fun (W : World) (A : Option Addr) (c : Nat) => heap_alloc_new W (.cells #[.int .i64 (a : Int), .int .i64 g, .slice A tn c] 87))
  have HVT := Lib.hid h
  have HLL := Lib.hid L
  clear h ho hpe hl hH e1 e2 hts hne hcat hlen hrun hns happ hrok hvc n1 n2 htn hfn hl1 hl2 hl3 L
  unfold hdV at HN
  go_enter Tryz.func23, Tryz.ntmps23
  go_wp2_with (first
    | (go_at_call 34; with_reducible (refine Calls.mono HN.out ?_); rintro e w1 ⟨A1, c1, rfl, _, ht1, hb1⟩))
  have hbA := hbh.out w1 A1 c1
  have hnA := hnh.out w1 A1 c1
  obtain ⟨W1, hW1⟩ : ∃ W, W = w1.alloc (.cells #[.int .i64 (a : Int), .int .i64 g, .slice A1 tn c1] 87) := ⟨_, rfl⟩
  obtain ⟨qh, hqh⟩ : ∃ x, x = w1.heap.size := ⟨_, rfl⟩
  rw [← hW1, ← hqh] at hnA
  rw [← hW1] at hbA
  rw [← hW1, ← hqh]
  have HQL : Hid (w.heap.size ≤ qh) := by rw [hqh]; exact hb1.size
  have HBW1 : Hid (Below w.heap.size w W1) := chain hb1 hbA
  have HT1 : Hid (TransAt W1 W1.heap.size A1 ts) := (ht1.below hbA).more hbA.size
  have HQH : Hid (∀ X, Below W1.heap.size W1 X → X.heap[qh]? = some (.cells #[.int .i64 (a : Int), .int .i64 g, .slice A1 tn c1] 87 (0, 0))) := fun X hb => (hb.block _ (Array.getElem?_eq_some_iff.1 hnA).1).trans hnA
  have HS : Hid (∀ X, Below W1.heap.size W1 X → X.cell? ⟨q, 1, none⟩ = some (.slice V.A1 l1 V.c1) ∧ X.cell? ⟨q, 2, none⟩ = some (.slice V.A2 l2 V.c2) ∧ X.cell? ⟨q, 3, none⟩ = some (.slice V.A3 l3 V.c3) ∧ X.cell? ⟨qh, 2, none⟩ = some (.slice A1 tn c1)) := fun X hb => by
    obtain ⟨_, r1, r2, r3, _⟩ := cells7 (HVC.out X (chain HBW1.out hb))
    exact ⟨r1, r2, r3, (cells3 (HQH.out X hb)).2.2⟩
  have HC2 := Lib.hid (fun X (hb : Below W1.heap.size W1 X) => HCO.out A1 c1 W1 X HT1.out hb)
  clear hbA hnA ht1 hb1 hW1 hqh hbh hnh y0 y1 y2 y3 y4 y5 y6 HN HCO
  have hbx : Below W1.heap.size W1 W1.drew := (Below.refl _ _).drew
  have HEA := Lib.hid (fun (w4 : World) (V4 : TabW) (q1 : Below W1.heap.size W1 w4) (q2 : TabAt w4 w4.heap.size V4 t) (q3 : TabFrom W1.heap.size V4) => ld_after q1 q2 q3)
  have HEB := Lib.hid (fun (X w4 : World) (bz : Nat) (V4 : TabW) (q1 : Below W1.heap.size W1 w4) (hz : w4.heap[bz]? = some (.cells #[.slice none 0 0, .slice none 0 0, .slice none 0 0] 35 (0, 0))) (h1 : W1.heap.size ≤ bz) (h2 : bz < X.heap.size) (hT : TabAt w4 w4.heap.size V4 t) (hF : TabFrom X.heap.size V4) (hF2 : TabFrom W1.heap.size V4) => ld_before q1 hz h1 h2 hT hF hF2)
  go_cut [4, 5] (fun ve vp Z => ∃ (bz : Nat) (V4 : TabW), ve = .int .i64 0 ∧ vp = .pointer (some ⟨bz, 0, none⟩) ∧ Hid (LdEnd W1 Z bz V4 t))
  case first =>
    refine wp_region_held_drew (S := (fun X => X.cell? ⟨q, 1, none⟩ = some (.slice V.A1 l1 V.c1) ∧ X.cell? ⟨q, 2, none⟩ = some (.slice V.A2 l2 V.c2) ∧ X.cell? ⟨q, 3, none⟩ = some (.slice V.A3 l3 V.c3) ∧ X.cell? ⟨qh, 2, none⟩ = some (.slice A1 tn c1))) (by kernel_rfl) (HS.out _ hbx) (fun hHeld => ?_)
    -- the region
    refine wpAnyH_take (i := 0) (oi := _) (v := ?_) rfl (by kernel_rfl) (by kernel_rfl) (by kernel_rfl) (fun _ _ _ h => h) (Or.inl ⟨by rfl, ?_⟩) (by assumption) ?_
    rotate_left 1
    · intro w hSw; clear hSw; first | (go_simp; done) | (go_simp; with_reducible rfl)
    change wpAnyH _ _ _ _ _ _ _ (Act.put _ (some 18) _) _
    (try simp only [Act.put, List.setIfInBounds_toArray, List.set_cons_zero, List.set_cons_succ])
    refine wpAnyH_take (i := 1) (oi := _) (v := ?_) rfl (by kernel_rfl) (by kernel_rfl) (by kernel_rfl) (fun _ _ _ h => h) (Or.inl ⟨by rfl, ?_⟩) (by assumption) ?_
    rotate_left 1
    · intro w hSw; clear hSw; first | (go_simp; done) | (go_simp; with_reducible rfl)
    change wpAnyH _ _ _ _ _ _ _ (Act.put _ (some 19) _) _
    (try simp only [Act.put, List.setIfInBounds_toArray, List.set_cons_zero, List.set_cons_succ])
    refine wpAnyH_take (i := 2) (oi := _) (v := ?_) rfl (by kernel_rfl) (by kernel_rfl) (by kernel_rfl) (fun _ _ _ h => h) (Or.inl ⟨by rfl, ?_⟩) (by assumption) ?_
    rotate_left 1
    · intro w hSw; clear hSw; first | (go_simp; done) | (go_simp; with_reducible rfl)
    change wpAnyH _ _ _ _ _ _ _ (Act.put _ (some 20) _) _
    (try simp only [Act.put, List.setIfInBounds_toArray, List.set_cons_zero, List.set_cons_succ])
    refine wpAnyH_take (i := 3) (oi := _) (v := ?_) rfl (by kernel_rfl) (by kernel_rfl) (by kernel_rfl) (fun _ _ _ h => h) (Or.inl ⟨by rfl, ?_⟩) (by assumption) ?_
    rotate_left 1
    · intro w hSw; obtain ⟨hSa, hSb, hSc, -⟩ := hSw; first | (go_simp; done) | (go_simp; with_reducible rfl)
    change wpAnyH _ _ _ _ _ _ _ (Act.put _ (some 21) _) _
    (try simp only [Act.put, List.setIfInBounds_toArray, List.set_cons_zero, List.set_cons_succ])
    refine wpAnyH_take (i := 4) (oi := _) (v := ?_) rfl (by kernel_rfl) (by kernel_rfl) (by kernel_rfl) (fun _ _ _ h => h) (Or.inl ⟨by rfl, ?_⟩) (by assumption) ?_
    rotate_left 1
    · intro w hSw; clear hSw; first | (go_simp; done) | (go_simp; with_reducible rfl)
    change wpAnyH _ _ _ _ _ _ _ (Act.put _ (some 22) _) _
    (try simp only [Act.put, List.setIfInBounds_toArray, List.set_cons_zero, List.set_cons_succ])
    refine wpAnyH_take (i := 5) (oi := _) (v := ?_) rfl (by kernel_rfl) (by kernel_rfl) (by kernel_rfl) (fun _ _ _ h => h) (Or.inl ⟨by rfl, ?_⟩) (by assumption) ?_
    rotate_left 1
    · intro w hSw; obtain ⟨-, -, -, hSa⟩ := hSw; first | (go_simp; done) | (go_simp; with_reducible rfl)
    change wpAnyH _ _ _ _ _ _ _ (Act.put _ (some 23) _) _
    (try simp only [Act.put, List.setIfInBounds_toArray, List.set_cons_zero, List.set_cons_succ])
    refine wpAnyH_ready (rs := [6, 11]) (by kernel_rfl) (by simp) ?_
    refine AllReadyH.cons (o := _) rfl (fun K hK => ?_) (AllReadyH.cons (o := _) rfl (fun K hK => ?_) (AllReadyH.nil))
    · go_simp
      go_at_call 35
      with_reducible (refine Calls.mono (HC2.out _ hbx) ?_)
      rintro e w3 ⟨A3, c3, rfl, hc3, hr3, hb3⟩
      replace hbx := chain hbx hb3
      have hbr := Below.refl w3.heap.size w3
      refine hK.out _ _ (HS.out _ hbx) (fun hHeld6 => ?_)
      (try simp only [Act.put, List.setIfInBounds_toArray, List.set_cons_zero, List.set_cons_succ])
      clear hK K
      refine wpAnyH_ready (rs := [7, 11]) (by kernel_rfl) (by simp) ?_
      refine AllReadyH.cons (o := _) rfl (fun K hK => ?_) (AllReadyH.cons (o := _) rfl (fun K hK => ?_) (AllReadyH.nil))
      · go_simp
        go_at_call 24
        with_reducible (refine Calls.mono (HAP.out _ _ _ _ (chain HBW1.out hbx) hr3 hc3 hbr) ?_)
        rintro e w4 ⟨V4, rfl, hT4, hF4, hb4⟩
        have hF5 := from_less hbx.size hF4
        replace hbx := chain hbx hb4
        refine hK.out _ _ (HS.out _ hbx) (fun hHeld7 => ?_)
        (try simp only [Act.put, List.setIfInBounds_toArray, List.set_cons_zero, List.set_cons_succ])
        clear hK K
        refine wpAnyH_take (i := 8) (oi := _) (v := ?_) rfl (by kernel_rfl) (by kernel_rfl) (by kernel_rfl) (fun _ _ _ h => h) (Or.inl ⟨by rfl, ?_⟩) (by assumption) ?_
        rotate_left 1
        · intro w hSw; clear hSw; first | (go_simp; done) | (go_simp; with_reducible rfl)
        change wpAnyH _ _ _ _ _ _ _ (Act.put _ (some 17) _) _
        (try simp only [Act.put, List.setIfInBounds_toArray, List.set_cons_zero, List.set_cons_succ])
        refine wpAnyH_take (i := 9) (oi := _) (v := ?_) rfl (by kernel_rfl) (by kernel_rfl) (by kernel_rfl) (fun _ _ _ h => h) (Or.inl ⟨by rfl, ?_⟩) (by assumption) ?_
        rotate_left 1
        · intro w hSw; clear hSw; first | (go_simp; done) | (go_simp; with_reducible rfl)
        change wpAnyH _ _ _ _ _ _ _ (Act.put _ (some 26) _) _
        (try simp only [Act.put, List.setIfInBounds_toArray, List.set_cons_zero, List.set_cons_succ])
        refine wpAnyH_take (i := 10) (oi := _) (v := ?_) rfl (by kernel_rfl) (by kernel_rfl) (by kernel_rfl) (fun _ _ _ h => h) (Or.inl ⟨by rfl, ?_⟩) (by assumption) ?_
        rotate_left 1
        · intro w hSw; clear hSw; first | (go_simp; done) | (go_simp; with_reducible rfl)
        change wpAnyH _ _ _ _ _ _ _ (Act.put _ (some 27) _) _
        (try simp only [Act.put, List.setIfInBounds_toArray, List.set_cons_zero, List.set_cons_succ])
        refine wpAnyH_ready (rs := [11]) (by kernel_rfl) (by simp) ?_
        refine AllReadyH.cons (o := _) rfl (fun K hK => ?_) (AllReadyH.nil)
        go_simp
        have hz := heap_alloc_new w4 (.cells #[.slice none 0 0, .slice none 0 0, .slice none 0 0] 35)
        have hxb : W1.heap.size ≤ w4.heap.size := hbx.size
        have hEND := Lib.hid (HEA.out _ _ hbx hT4 hF5)
        replace hbx := hbx.alloc hbx.size (.cells #[.slice none 0 0, .slice none 0 0, .slice none 0 0] 35)
        refine hK.out _ _ (HS.out _ hbx) (fun hHeld11 => ?_)
        (try simp only [Act.put, List.setIfInBounds_toArray, List.set_cons_zero, List.set_cons_succ])
        clear hK K
        refine wpAnyH_ready (rs := [12]) (by kernel_rfl) (by simp) ?_
        refine AllReadyH.cons (o := _) rfl (fun K hK => ?_) (AllReadyH.nil)
        obtain ⟨z0, z1, z2⟩ := cells3 hz
        have z3 := frozen_of_row _ _ 0 _ _ hz
        have z4 := frozen_of_row _ _ 1 _ _ hz
        have z5 := frozen_of_row _ _ 2 _ _ hz
        clear hz hT4 hF4
        go_simp
        refine hK.out _ _ (HS.out _ hEND.out.1) (fun hHeld12 => ?_)
        (try simp only [Act.put, List.setIfInBounds_toArray, List.set_cons_zero, List.set_cons_succ])
        clear hK K
        refine wpAnyH_take (i := 13) (oi := _) (v := ?_) rfl (by kernel_rfl) (by kernel_rfl) (by kernel_rfl) (fun _ _ _ h => h) (Or.inl ⟨by rfl, ?_⟩) (by assumption) ?_
        rotate_left 1
        · intro w hSw; clear hSw; first | (go_simp; done) | (go_simp; with_reducible rfl)
        change wpAnyH _ _ _ _ _ _ _ (Act.put _ (some 4) _) _
        (try simp only [Act.put, List.setIfInBounds_toArray, List.set_cons_zero, List.set_cons_succ])
        refine wpAnyH_done (by kernel_rfl) ?_ _
        go_wp2
        go_meet
        exact ⟨_, _, rfl, rfl, hEND.out⟩
      · go_simp
        have hz := heap_alloc_new w3 (.cells #[.slice none 0 0, .slice none 0 0, .slice none 0 0] 35)
        have hxb : W1.heap.size ≤ w3.heap.size := hbx.size
        replace hbx := hbx.alloc hbx.size (.cells #[.slice none 0 0, .slice none 0 0, .slice none 0 0] 35)
        replace hbr := hbr.alloc hbr.size (.cells #[.slice none 0 0, .slice none 0 0, .slice none 0 0] 35)
        refine hK.out _ _ (HS.out _ hbx) (fun hHeld11 => ?_)
        (try simp only [Act.put, List.setIfInBounds_toArray, List.set_cons_zero, List.set_cons_succ])
        clear hK K
        refine wpAnyH_ready (rs := [7]) (by kernel_rfl) (by simp) ?_
        refine AllReadyH.cons (o := _) rfl (fun K hK => ?_) (AllReadyH.nil)
        go_simp
        go_at_call 24
        have hzl := (Array.getElem?_eq_some_iff.1 hz).1
        with_reducible (refine Calls.mono (HAP.out _ _ _ _ (chain HBW1.out hbx) hr3 hc3 hbr) ?_)
        rintro e w4 ⟨V4, rfl, hT4, hF4, hb4⟩
        have hF5 := from_less hbx.size hF4
        replace hbx := chain hbx hb4
        replace hz := (hb4.block _ (Array.getElem?_eq_some_iff.1 hz).1).trans hz
        refine hK.out _ _ (HS.out _ hbx) (fun hHeld7 => ?_)
        (try simp only [Act.put, List.setIfInBounds_toArray, List.set_cons_zero, List.set_cons_succ])
        clear hK K
        refine wpAnyH_take (i := 8) (oi := _) (v := ?_) rfl (by kernel_rfl) (by kernel_rfl) (by kernel_rfl) (fun _ _ _ h => h) (Or.inl ⟨by rfl, ?_⟩) (by assumption) ?_
        rotate_left 1
        · intro w hSw; clear hSw; first | (go_simp; done) | (go_simp; with_reducible rfl)
        change wpAnyH _ _ _ _ _ _ _ (Act.put _ (some 17) _) _
        (try simp only [Act.put, List.setIfInBounds_toArray, List.set_cons_zero, List.set_cons_succ])
        refine wpAnyH_take (i := 9) (oi := _) (v := ?_) rfl (by kernel_rfl) (by kernel_rfl) (by kernel_rfl) (fun _ _ _ h => h) (Or.inl ⟨by rfl, ?_⟩) (by assumption) ?_
        rotate_left 1
        · intro w hSw; clear hSw; first | (go_simp; done) | (go_simp; with_reducible rfl)
        change wpAnyH _ _ _ _ _ _ _ (Act.put _ (some 26) _) _
        (try simp only [Act.put, List.setIfInBounds_toArray, List.set_cons_zero, List.set_cons_succ])
        refine wpAnyH_take (i := 10) (oi := _) (v := ?_) rfl (by kernel_rfl) (by kernel_rfl) (by kernel_rfl) (fun _ _ _ h => h) (Or.inl ⟨by rfl, ?_⟩) (by assumption) ?_
        rotate_left 1
        · intro w hSw; clear hSw; first | (go_simp; done) | (go_simp; with_reducible rfl)
        change wpAnyH _ _ _ _ _ _ _ (Act.put _ (some 27) _) _
        (try simp only [Act.put, List.setIfInBounds_toArray, List.set_cons_zero, List.set_cons_succ])
        refine wpAnyH_ready (rs := [12]) (by kernel_rfl) (by simp) ?_
        refine AllReadyH.cons (o := _) rfl (fun K hK => ?_) (AllReadyH.nil)
        obtain ⟨z0, z1, z2⟩ := cells3 hz
        have z3 := frozen_of_row _ _ 0 _ _ hz
        have z4 := frozen_of_row _ _ 1 _ _ hz
        have z5 := frozen_of_row _ _ 2 _ _ hz
        have hEND := Lib.hid (HEB.out _ _ _ _ hbx hz hxb hzl hT4 hF4 hF5)
        clear hz hT4 hF4
        go_simp
        refine hK.out _ _ (HS.out _ hEND.out.1) (fun hHeld12 => ?_)
        (try simp only [Act.put, List.setIfInBounds_toArray, List.set_cons_zero, List.set_cons_succ])
        clear hK K
        refine wpAnyH_take (i := 13) (oi := _) (v := ?_) rfl (by kernel_rfl) (by kernel_rfl) (by kernel_rfl) (fun _ _ _ h => h) (Or.inl ⟨by rfl, ?_⟩) (by assumption) ?_
        rotate_left 1
        · intro w hSw; clear hSw; first | (go_simp; done) | (go_simp; with_reducible rfl)
        change wpAnyH _ _ _ _ _ _ _ (Act.put _ (some 4) _) _
        (try simp only [Act.put, List.setIfInBounds_toArray, List.set_cons_zero, List.set_cons_succ])
        refine wpAnyH_done (by kernel_rfl) ?_ _
        go_wp2
        go_meet
        exact ⟨_, _, rfl, rfl, hEND.out⟩
    · go_simp
      have hz : (W1.alloc (.cells #[.slice none 0 0, .slice none 0 0, .slice none 0 0] 35)).drew.heap[W1.heap.size]? = some (.cells #[.slice none 0 0, .slice none 0 0, .slice none 0 0] 35 (0, 0)) := heap_alloc_new W1 _
      have hxb : W1.heap.size ≤ W1.heap.size := Nat.le_refl _
      replace hbx : Below W1.heap.size W1 (W1.alloc (.cells #[.slice none 0 0, .slice none 0 0, .slice none 0 0] 35)).drew := ((Below.refl _ _).alloc (Nat.le_refl _) _).drew
      refine hK.out _ _ (HS.out _ hbx) (fun hHeld11 => ?_)
      (try simp only [Act.put, List.setIfInBounds_toArray, List.set_cons_zero, List.set_cons_succ])
      clear hK K
      refine wpAnyH_ready (rs := [6]) (by kernel_rfl) (by simp) ?_
      refine AllReadyH.cons (o := _) rfl (fun K hK => ?_) (AllReadyH.nil)
      go_simp
      go_at_call 35
      with_reducible (refine Calls.mono (HC2.out _ hbx) ?_)
      rintro e w3 ⟨A3, c3, rfl, hc3, hr3, hb3⟩
      replace hbx := chain hbx hb3
      replace hz := (hb3.block _ (Array.getElem?_eq_some_iff.1 hz).1).trans hz
      have hbr := Below.refl w3.heap.size w3
      refine hK.out _ _ (HS.out _ hbx) (fun hHeld6 => ?_)
      (try simp only [Act.put, List.setIfInBounds_toArray, List.set_cons_zero, List.set_cons_succ])
      clear hK K
      refine wpAnyH_ready (rs := [7]) (by kernel_rfl) (by simp) ?_
      refine AllReadyH.cons (o := _) rfl (fun K hK => ?_) (AllReadyH.nil)
      go_simp
      go_at_call 24
      have hzl := (Array.getElem?_eq_some_iff.1 hz).1
      with_reducible (refine Calls.mono (HAP.out _ _ _ _ (chain HBW1.out hbx) hr3 hc3 hbr) ?_)
      rintro e w4 ⟨V4, rfl, hT4, hF4, hb4⟩
      have hF5 := from_less hbx.size hF4
      replace hbx := chain hbx hb4
      replace hz := (hb4.block _ (Array.getElem?_eq_some_iff.1 hz).1).trans hz
      refine hK.out _ _ (HS.out _ hbx) (fun hHeld7 => ?_)
      (try simp only [Act.put, List.setIfInBounds_toArray, List.set_cons_zero, List.set_cons_succ])
      clear hK K
      refine wpAnyH_take (i := 8) (oi := _) (v := ?_) rfl (by kernel_rfl) (by kernel_rfl) (by kernel_rfl) (fun _ _ _ h => h) (Or.inl ⟨by rfl, ?_⟩) (by assumption) ?_
      rotate_left 1
      · intro w hSw; clear hSw; first | (go_simp; done) | (go_simp; with_reducible rfl)
      change wpAnyH _ _ _ _ _ _ _ (Act.put _ (some 17) _) _
      (try simp only [Act.put, List.setIfInBounds_toArray, List.set_cons_zero, List.set_cons_succ])
      refine wpAnyH_take (i := 9) (oi := _) (v := ?_) rfl (by kernel_rfl) (by kernel_rfl) (by kernel_rfl) (fun _ _ _ h => h) (Or.inl ⟨by rfl, ?_⟩) (by assumption) ?_
      rotate_left 1
      · intro w hSw; clear hSw; first | (go_simp; done) | (go_simp; with_reducible rfl)
      change wpAnyH _ _ _ _ _ _ _ (Act.put _ (some 26) _) _
      (try simp only [Act.put, List.setIfInBounds_toArray, List.set_cons_zero, List.set_cons_succ])
      refine wpAnyH_take (i := 10) (oi := _) (v := ?_) rfl (by kernel_rfl) (by kernel_rfl) (by kernel_rfl) (fun _ _ _ h => h) (Or.inl ⟨by rfl, ?_⟩) (by assumption) ?_
      rotate_left 1
      · intro w hSw; clear hSw; first | (go_simp; done) | (go_simp; with_reducible rfl)
      change wpAnyH _ _ _ _ _ _ _ (Act.put _ (some 27) _) _
      (try simp only [Act.put, List.setIfInBounds_toArray, List.set_cons_zero, List.set_cons_succ])
      refine wpAnyH_ready (rs := [12]) (by kernel_rfl) (by simp) ?_
      refine AllReadyH.cons (o := _) rfl (fun K hK => ?_) (AllReadyH.nil)
      obtain ⟨z0, z1, z2⟩ := cells3 hz
      have z3 := frozen_of_row _ _ 0 _ _ hz
      have z4 := frozen_of_row _ _ 1 _ _ hz
      have z5 := frozen_of_row _ _ 2 _ _ hz
      have hEND := Lib.hid (HEB.out _ _ _ _ hbx hz hxb hzl hT4 hF4 hF5)
      clear hz hT4 hF4
      go_simp
      refine hK.out _ _ (HS.out _ hEND.out.1) (fun hHeld12 => ?_)
      (try simp only [Act.put, List.setIfInBounds_toArray, List.set_cons_zero, List.set_cons_succ])
      clear hK K
      refine wpAnyH_take (i := 13) (oi := _) (v := ?_) rfl (by kernel_rfl) (by kernel_rfl) (by kernel_rfl) (fun _ _ _ h => h) (Or.inl ⟨by rfl, ?_⟩) (by assumption) ?_
      rotate_left 1
      · intro w hSw; clear hSw; first | (go_simp; done) | (go_simp; with_reducible rfl)
      change wpAnyH _ _ _ _ _ _ _ (Act.put _ (some 4) _) _
      (try simp only [Act.put, List.setIfInBounds_toArray, List.set_cons_zero, List.set_cons_succ])
      refine wpAnyH_done (by kernel_rfl) ?_ _
      go_wp2
      go_meet
      exact ⟨_, _, rfl, rfl, hEND.out⟩
    -- behind the region
  case rest =>
    obtain ⟨bz, V4, rfl, rfl, hE⟩ := hcut
    obtain ⟨x0, x1, x2⟩ := cells3 hE.out.2.1
    obtain ⟨h0, h1, _⟩ := cells3 (HQH.out _ hE.out.1)
    have hqc := HVC.out _ (chain HBW1.out hE.out.1)
    obtain ⟨y0, y1, y2, y3, y4, y5, y6⟩ := cells7 hqc
    have f1 := frozen_of_row _ _ 1 _ _ hqc
    have f2 := frozen_of_row _ _ 2 _ _ hqc
    have f3 := frozen_of_row _ _ 3 _ _ hqc
    have f4 := frozen_of_row _ _ 4 _ _ hqc
    have f5 := frozen_of_row _ _ 5 _ _ hqc
    have f6 := frozen_of_row _ _ 6 _ _ hqc
    have HQC := Lib.hid hqc
    have hql : q < qh := by
      have := (Array.getElem?_eq_some_iff.1 (HVT.out.cells)).1
      have := HQL.out
      omega
    have hqb : q < bz := by
      have h1 := (Array.getElem?_eq_some_iff.1 (HVT.out.cells)).1
      have h2 := HBW1.out.size
      have h3 := hE.out.2.2.2.2
      omega
    have n1 : ¬ q = qh := by omega
    have n2 : ¬ qh = q := by omega
    have n3 : ¬ q = bz := by omega
    have n4 : ¬ bz = q := by omega
    have R := ld_end (a := a) (g := g) HLL.out HVT.out (chain HBW1.out hE.out.1) HQC.out (hE.out.2.2.1) (from_less HBW1.out.size hE.out.2.2.2.1)
    clear hbx HEA HEB HC2 HAP HT1 hqc HS
    go_wp2
    go_region
    go_wp2
    go_ret
    exact ⟨rfl, R.1, R.2⟩
end

end Go.Proofs.YtbnhkplhmanmoaaGreat
