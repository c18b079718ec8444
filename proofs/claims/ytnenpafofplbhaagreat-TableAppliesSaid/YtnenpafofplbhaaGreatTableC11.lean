/-
  The landed table: what is there in a draft, and one cell of it written; markDying, setQuota.
-/
import Derived.Test.YtnenpafofplbhaaGreatTableC10
namespace Go.Proofs.YtnenpafofplbhaaGreat
open Go.RowKit

/-! ### Plain -/
theorem updK_set {α : Type} (k : α → Int) (f : α → α) {id : Int} : ∀ {l : List α} {i : Nat} (hi : i < l.length), (l.Pairwise fun a b => k a < k b) → k l[i] = id → updK k id f l = l.set i (f l[i])
  | x :: l, 0, hi, h, he => by
    obtain ⟨h1, h2⟩ := List.pairwise_cons.1 h
    have he' : k x = id := he
    unfold updK
    rw [List.map_cons, if_pos he', List.set_cons_zero]
    have e : l.map (fun x => if k x = id then f x else x) = l := by
      conv => rhs; rw [← List.map_id l]
      refine List.map_congr_left fun y hy => ?_
      rw [if_neg (by have := h1 y hy; omega)]
      rfl
    rw [e]; rfl
  | x :: l, i + 1, hi, h, he => by
    obtain ⟨h1, h2⟩ := List.pairwise_cons.1 h
    have hi2 : i < l.length := by simpa using hi
    have he' : k l[i] = id := by simpa using he
    have ih := updK_set k f hi2 h2 he'
    unfold updK at ih ⊢
    have hx := h1 l[i] (List.getElem_mem hi2)
    rw [List.map_cons, if_neg (by omega), ih]
    rfl
theorem vol_cases (vs : List Vol) (id : Int) : (∃ k, ∃ h : k < vs.length, vs[k].id = id ∧ (∀ j, (h : j < vs.length) → j < k → vs[j].id ≠ id) ∧ volAt vs id = some vs[k]) ∨ ((∀ j, (h : j < vs.length) → vs[j].id ≠ id) ∧ volAt vs id = none) := by
  induction vs with
  | nil => exact .inr ⟨fun j h => absurd h (Nat.not_lt_zero j), rfl⟩
  | cons x vs ih =>
    by_cases he : x.id = id
    · refine .inl ⟨0, Nat.zero_lt_succ _, he, fun j _ hj => absurd hj (Nat.not_lt_zero j), ?_⟩
      unfold volAt
      rw [List.find?_cons_of_pos (by simpa using he)]; rfl
    · have hc : volAt (x :: vs) id = volAt vs id := by
        unfold volAt
        rw [List.find?_cons_of_neg (by simpa using he)]
      rcases ih with ⟨k, h, e, hl, ha⟩ | ⟨hl, ha⟩
      · refine .inl ⟨k + 1, by simpa using h, by simpa using e, fun j hj hjk => ?_, by rw [hc, ha]; simp⟩
        cases j with
        | zero => exact he
        | succ j => exact hl j (by simpa using hj) (by omega)
      · refine .inr ⟨fun j hj => ?_, by rw [hc, ha]⟩
        cases j with
        | zero => exact he
        | succ j => exact hl j (by simpa using hj)

/-! ### In a draft -/
section
variable {lo p : Nat} {w : World} {V : TabW} {t : Tab}
/-- A tenant that is not there. -/
theorem DrIn.noT (h : DrIn lo w p V t) (hs : t.sound) {id : Int} (hl : ∀ j, (h : j < t.ts.length) → t.ts[j].id ≠ id) : ∀ X, Below w.heap.size w X → Calls Tryz.prog 46 #[.pointer (some ⟨p, 0, none⟩), .int .i64 id] X fun e w' => e = .returned (.pointer none) ∧ Below X.heap.size X w' := fun X hb =>
  dten_no p V.A1 V.c1 t.ts id X (h.below hb).cells.1 (by have := (sound_few hs).1; omega) (h.below hb).tab.ts hl
/-- A tenant that is there. -/
theorem DrIn.foundT (h : DrIn lo w p V t) (hs : t.sound) {id : Int} {k : Nat} (hk : k < t.ts.length) (he : t.ts[k].id = id) (hl : ∀ j, (h : j < t.ts.length) → j < k → t.ts[j].id ≠ id) :
    ∃ g, V.A1 = some ⟨g, 0, none⟩ ∧ lo ≤ g ∧ g < w.heap.size ∧
      (∀ X, Below w.heap.size w X → (X.cell? ⟨g, k * 6, none⟩ = some (.int .i64 t.ts[k].id) ∧ X.cell? ⟨g, k * 6 + 1, none⟩ = some (.int .i64 t.ts[k].quota) ∧ X.cell? ⟨g, k * 6 + 5, none⟩ = some (.bool t.ts[k].dying)) ∧ X.frozen? ⟨g, k * 6 + 1, none⟩ = false ∧ X.frozen? ⟨g, k * 6 + 5, none⟩ = false) ∧
      ∀ X, Below w.heap.size w X → Calls Tryz.prog 46 #[.pointer (some ⟨p, 0, none⟩), .int .i64 id] X fun e w' => e = .returned (.pointer (some ⟨g, k * 6, none⟩)) ∧ Below X.heap.size X w' := by
  obtain ⟨g, hA, hg, hgl, _, _, _⟩ := own_at tenC_len h.rows.ts rfl hk
  refine ⟨g, hA, hg, hgl, fun X hb => ?_, fun X hb => ?_⟩
  · obtain ⟨g2, hA2, _, _, _, hc, hf⟩ := own_at tenC_len (h.below hb).rows.ts rfl hk
    have : g2 = g := by rw [hA] at hA2; injection hA2 with q; injection q with q; exact q.symm
    subst this
    exact ⟨⟨hc 0 _ rfl, hc 1 _ rfl, hc 5 _ rfl⟩, hf _, hf _⟩
  · have hx := h.below hb
    have hc := hx.cells.1
    have ht := hx.tab.ts
    rw [hA] at hc ht
    have := dten_yes p g 0 V.c1 t.ts id k X hc (by have := (sound_few hs).1; omega) ht hk he hl
    rwa [Nat.zero_add] at this
/-- One cell of a tenant is written. -/
theorem DrIn.setT (h : DrIn lo w p V t) {g k j : Nat} (hA : V.A1 = some ⟨g, 0, none⟩) (hk : k < t.ts.length) (hj : j < 6) (v : Value) (y : Ten) (hy : tenC y = (tenC t.ts[k]).set j v) :
    DrIn lo (w.setCell ⟨g, k * 6 + j, none⟩ v) p V { t with ts := t.ts.set k y } ∧ Below lo w (w.setCell ⟨g, k * 6 + j, none⟩ v) := by
  have hg : w.grownBy (w.setCell ⟨g, k * 6 + j, none⟩ v) (some g) := setCells_grown w g (k * 6 + j) [v]
  have hgl := (row_lt h.rows.ts g (by rw [hA]; rfl)).1
  exact ⟨h.inT hA (by simp) (own_field tenC_len h.rows.ts hA rfl hk hj y hy) hg, grown_below (Below.refl _ _) hg h.lo_le hgl⟩
theorem DrIn.noV (h : DrIn lo w p V t) (hs : t.sound) {id : Int} (hl : ∀ j, (h : j < t.vs.length) → t.vs[j].id ≠ id) : ∀ X, Below w.heap.size w X → Calls Tryz.prog 53 #[.pointer (some ⟨p, 0, none⟩), .int .i64 id] X fun e w' => e = .returned (.pointer none) ∧ Below X.heap.size X w' := fun X hb =>
  dvol_no p V.A2 V.c2 t.vs id X (h.below hb).cells.2.1 (by have := (sound_few hs).2.1; omega) (h.below hb).tab.vs hl
theorem DrIn.foundV (h : DrIn lo w p V t) (hs : t.sound) {id : Int} {k : Nat} (hk : k < t.vs.length) (he : t.vs[k].id = id) (hl : ∀ j, (h : j < t.vs.length) → j < k → t.vs[j].id ≠ id) :
    ∃ g, V.A2 = some ⟨g, 0, none⟩ ∧ lo ≤ g ∧ g < w.heap.size ∧
      (∀ X, Below w.heap.size w X → (X.cell? ⟨g, k * 4 + 2, none⟩ = some (.int .i64 t.vs[k].blocks) ∧ X.cell? ⟨g, k * 4 + 3, none⟩ = some (.int .i64 t.vs[k].base)) ∧ X.frozen? ⟨g, k * 4 + 2, none⟩ = false ∧ X.frozen? ⟨g, k * 4 + 3, none⟩ = false) ∧
      ∀ X, Below w.heap.size w X → Calls Tryz.prog 53 #[.pointer (some ⟨p, 0, none⟩), .int .i64 id] X fun e w' => e = .returned (.pointer (some ⟨g, k * 4, none⟩)) ∧ Below X.heap.size X w' := by
  obtain ⟨g, hA, hg, hgl, _, _, _⟩ := own_at volC_len h.rows.vs rfl hk
  refine ⟨g, hA, hg, hgl, fun X hb => ?_, fun X hb => ?_⟩
  · obtain ⟨g2, hA2, _, _, _, hc, hf⟩ := own_at volC_len (h.below hb).rows.vs rfl hk
    have : g2 = g := by rw [hA] at hA2; injection hA2 with q; injection q with q; exact q.symm
    subst this
    exact ⟨⟨hc 2 _ rfl, hc 3 _ rfl⟩, hf _, hf _⟩
  · have hx := h.below hb
    have hc := hx.cells.2.1
    have ht := hx.tab.vs
    rw [hA] at hc ht
    have := dvol_yes p g 0 V.c2 t.vs id k X hc (by have := (sound_few hs).2.1; omega) ht hk he hl
    rwa [Nat.zero_add] at this
theorem DrIn.setV (h : DrIn lo w p V t) {g k j : Nat} (hA : V.A2 = some ⟨g, 0, none⟩) (hk : k < t.vs.length) (hj : j < 4) (v : Value) (y : Vol) (hy : volC y = (volC t.vs[k]).set j v) :
    DrIn lo (w.setCell ⟨g, k * 4 + j, none⟩ v) p V { t with vs := t.vs.set k y } ∧ Below lo w (w.setCell ⟨g, k * 4 + j, none⟩ v) := by
  have hg : w.grownBy (w.setCell ⟨g, k * 4 + j, none⟩ v) (some g) := setCells_grown w g (k * 4 + j) [v]
  have hgl := (row_lt h.rows.vs g (by rw [hA]; rfl)).1
  exact ⟨h.inV hA (by simp) (own_field volC_len h.rows.vs hA rfl hk hj y hy) hg, grown_below (Below.refl _ _) hg h.lo_le hgl⟩
/-- An owner is written. -/
theorem DrIn.setO (h : DrIn lo w p V t) {g k : Nat} (hA : V.A3 = some ⟨g, 0, none⟩) (hk : k < t.os.length) (n : Int) :
    DrIn lo (w.setCell ⟨g, k, none⟩ (.int .i64 n)) p V { t with os := t.os.set k n } ∧ Below lo w (w.setCell ⟨g, k, none⟩ (.int .i64 n)) := by
  have hg : w.grownBy (w.setCell ⟨g, k, none⟩ (.int .i64 n)) (some g) := setCells_grown w g k [.int .i64 n]
  have hgl := (row_lt h.rows.os g (by rw [hA]; rfl)).1
  have hf := own_field (j := 0) (v := .int .i64 n) intC_len h.rows.os hA rfl hk (by decide) n rfl
  rw [Nat.mul_one, Nat.add_zero] at hf
  exact ⟨h.inO hA (by simp) hf hg, grown_below (Below.refl _ _) hg h.lo_le hgl⟩
/-- An owner lies there. -/
theorem DrIn.foundO (h : DrIn lo w p V t) {k : Nat} (hk : k < t.os.length) : ∃ g, V.A3 = some ⟨g, 0, none⟩ ∧ lo ≤ g ∧ g < w.heap.size ∧ ∀ X, Below w.heap.size w X → X.cell? ⟨g, k, none⟩ = some (.int .i64 t.os[k]) ∧ X.frozen? ⟨g, k, none⟩ = false := by
  obtain ⟨g, hA, hg, hgl, _, _, _⟩ := own_at intC_len h.rows.os rfl hk
  refine ⟨g, hA, hg, hgl, fun X hb => ?_⟩
  obtain ⟨g2, hA2, _, _, _, hc, hf⟩ := own_at intC_len (h.below hb).rows.os rfl hk
  have : g2 = g := by rw [hA] at hA2; injection hA2 with q; injection q with q; exact q.symm
  subst this
  have := hc 0 _ rfl
  rw [Nat.mul_one, Nat.add_zero] at this
  exact ⟨this, hf _⟩
end

set_option maxHeartbeats 1600000 in
/-- 'markDying'. -/
theorem markDying_go {lo p : Nat} {w : World} {V : TabW} {t : Tab} (h : DrIn lo w p V t) (hs : t.sound) (r : Rc) :
    Calls Tryz.prog 27 #[.pointer (some ⟨p, 0, none⟩), .int .i64 r.a] w fun e w' => ∃ V', e = .returned (.int .i64 (one3 t r).1) ∧ DrIn lo w' p V' (one3 t r).2 ∧ Below lo w w' := by
  have HB : Hid (∀ X, Below w.heap.size w X → DrIn lo X p V t ∧ Below lo w X) := fun X hb => ⟨h.below hb, hb.mono h.lo_le⟩
  rcases ten_cases t.ts r.a with ⟨k, hk, he, hl, ha⟩ | ⟨hl, ha⟩
  · obtain ⟨g, hA, hg, hgl, hX, hC⟩ := h.foundT hs hk he hl
    have HX := Lib.hid hX
    have HC := Lib.hid (hC w (Below.refl _ _))
    by_cases hd : t.ts[k].dying = true
    · have H1 : Hid (one3 t r = (5, t)) := by show one3 t r = _; unfold one3; rw [ha]; exact if_pos hd
      rw [H1.out]
      simp only [hd] at HX
      clear hX hC hA hl ha he hd H1 h hs
      go_enter Tryz.func27, Tryz.ntmps27
      go_wp2_with (go_at_call 46; with_reducible (refine Calls.mono HC.out ?_); rintro e w1 ⟨rfl, hb1⟩; obtain ⟨⟨x0, x1, x5⟩, f1, f5⟩ := HX.out _ hb1)
      go_ret
      exact ⟨V, rfl, HB.out _ hb1⟩
    · have hd2 : t.ts[k].dying = false := by simpa using hd
      have H1 : Hid (one3 t r = (0, { t with ts := t.ts.set k { t.ts[k] with dying := true } })) := by
        show one3 t r = _
        unfold one3; rw [ha]
        show (if t.ts[k].dying = true then _ else _) = _
        rw [if_neg hd, updK_set Ten.id _ hk hs.up he]
      have HS : Hid (∀ X, Below w.heap.size w X → DrIn lo (X.setCell ⟨g, k * 6 + 5, none⟩ (.bool true)) p V { t with ts := t.ts.set k { t.ts[k] with dying := true } } ∧ Below lo w (X.setCell ⟨g, k * 6 + 5, none⟩ (.bool true))) := fun X hb => by
        have q := (h.below hb).setT hA hk (j := 5) (by decide) (.bool true) { t.ts[k] with dying := true } rfl
        exact ⟨q.1, (hb.mono h.lo_le).trans (q.2.mono (Nat.le_refl _))⟩
      rw [H1.out]
      simp only [hd2] at HX
      obtain ⟨T, hT⟩ : ∃ T, T = { t with ts := t.ts.set k { t.ts[k] with dying := true } } := ⟨_, rfl⟩
      rw [← hT] at HS ⊢
      clear hX hC hA hl ha he hd hd2 H1 h hs hT HB
      go_enter Tryz.func27, Tryz.ntmps27
      go_wp2_with (go_at_call 46; with_reducible (refine Calls.mono HC.out ?_); rintro e w1 ⟨rfl, hb1⟩; obtain ⟨⟨x0, x1, x5⟩, f1, f5⟩ := HX.out _ hb1)
      go_ret
      exact ⟨V, rfl, HS.out _ hb1⟩
  · have H1 : Hid (one3 t r = (4, t)) := by show one3 t r = _; unfold one3; rw [ha]
    have HC := Lib.hid (h.noT hs hl w (Below.refl _ _))
    rw [H1.out]
    clear hl ha H1 h hs
    go_enter Tryz.func27, Tryz.ntmps27
    go_wp2_with (go_at_call 46; with_reducible (refine Calls.mono HC.out ?_); rintro e w1 ⟨rfl, hb1⟩)
    go_ret
    exact ⟨V, rfl, HB.out _ hb1⟩

end Go.Proofs.YtnenpafofplbhaaGreat
